/- Transactions: boxes and rows of them, and what serial's beside, bothWrite and leads tell of two; conditions: the rows lie in memory. -/
import Derived.Test.YtgeinnaljlajoaaGreatCxL
import Derived.Maps.AppendAt
import Derived.Deep.AppendLies
namespace Go.Proofs.YtgeinnaljlajoaaGreat
open Go.RowKit Go.Lib
set_option linter.unusedVariables false
set_option linter.unusedSimpArgs false
set_option maxRecDepth 20000
structure Dn where
 n : Int
 s : Sb
def DnBox (m : Nat) (d : Dn) (w : World) : Prop := w.cell? ⟨m, 0, none⟩ = some (.int .i64 d.n) ∧ w.cell? ⟨m, 1, none⟩ = some (.int .i64 d.s.s1) ∧ w.cell? ⟨m, 2, none⟩ = some (.int .i64 d.s.s2) ∧ w.cell? ⟨m, 3, none⟩ = some (.int .i64 d.s.s3) ∧ w.cell? ⟨m, 4, none⟩ = some (.slice d.s.a1 d.s.n1 d.s.c1) ∧ w.cell? ⟨m, 5, none⟩ = some (.slice d.s.a2 d.s.n2 d.s.c2) ∧ w.cell? ⟨m, 6, none⟩ = some (.slice d.s.a3 d.s.n3 d.s.c3)
theorem DnBox.old {m : Nat} {d : Dn} {w w' : World} (u : Old w w') (h : DnBox m d w) : DnBox m d w' := ⟨u.keep h.1, u.keep h.2.1, u.keep h.2.2.1, u.keep h.2.2.2.1, u.keep h.2.2.2.2.1, u.keep h.2.2.2.2.2.1, u.keep h.2.2.2.2.2.2⟩
def DnIn (w : World) (g o : Nat) (d : Dn) : Prop := w.cell? ⟨g, o, none⟩ = some (.int .i64 d.n) ∧ w.cell? ⟨g, o + 1, none⟩ = some (.int .i64 d.s.s1) ∧ w.cell? ⟨g, o + 2, none⟩ = some (.int .i64 d.s.s2) ∧ w.cell? ⟨g, o + 3, none⟩ = some (.int .i64 d.s.s3) ∧ w.cell? ⟨g, o + 4, none⟩ = some (.slice d.s.a1 d.s.n1 d.s.c1) ∧ w.cell? ⟨g, o + 5, none⟩ = some (.slice d.s.a2 d.s.n2 d.s.c2) ∧ w.cell? ⟨g, o + 6, none⟩ = some (.slice d.s.a3 d.s.n3 d.s.c3)
theorem DnIn.old {g o : Nat} {d : Dn} {w w' : World} (h : DnIn w g o d) (u : Old w w') : DnIn w' g o d := ⟨u.keep h.1, u.keep h.2.1, u.keep h.2.2.1, u.keep h.2.2.2.1, u.keep h.2.2.2.2.1, u.keep h.2.2.2.2.2.1, u.keep h.2.2.2.2.2.2⟩
def DRow (w : World) (v : Value) (n : Nat) (d : Nat → Dn) : Prop := n ≤ 1099511627776 ∧ ∃ (p : Option Addr) (c : Nat), v = .slice p n c ∧ n ≤ c ∧ c ≤ 9223372036854775807 ∧ ∀ i, i < n → ∃ g off, p = some ⟨g, off, none⟩ ∧ DnIn w g (off + i * 7) (d i) ∧ (d i).s.Ok w
theorem DRow.old {w w' : World} {v : Value} {n : Nat} {d : Nat → Dn} (h : DRow w v n d) (u : Old w w') : DRow w' v n d := by
 obtain ⟨hm, p, c, e, h1, h2, hc⟩ := h
 exact ⟨hm, p, c, e, h1, h2, fun i hi => by obtain ⟨g, off, e2, h3, h4⟩ := hc i hi; exact ⟨g, off, e2, h3.old u, h4.old u⟩⟩
theorem dn_new (w : World) (d : Dn) (w1 : World) (e : w.alloc (.cells #[.int .i64 d.n, .int .i64 d.s.s1, .int .i64 d.s.s2, .int .i64 d.s.s3, .slice d.s.a1 d.s.n1 d.s.c1, .slice d.s.a2 d.s.n2 d.s.c2, .slice d.s.a3 d.s.n3 d.s.c3] 44) = w1) (m : Nat) (hm : w.heap.size = m) : DnBox m d w1 ∧ Old w w1 := by
 subst e hm
 exact ⟨⟨by simp, by simp, by simp, by simp, by simp, by simp, by simp⟩, (Old.refl w).alloc _⟩
theorem dn_two (w : World) (a b : Dn) (w1 : World) (e : (w.alloc (.cells #[.int .i64 a.n, .int .i64 a.s.s1, .int .i64 a.s.s2, .int .i64 a.s.s3, .slice a.s.a1 a.s.n1 a.s.c1, .slice a.s.a2 a.s.n2 a.s.c2, .slice a.s.a3 a.s.n3 a.s.c3] 44)).alloc (.cells #[.int .i64 b.n, .int .i64 b.s.s1, .int .i64 b.s.s2, .int .i64 b.s.s3, .slice b.s.a1 b.s.n1 b.s.c1, .slice b.s.a2 b.s.n2 b.s.c2, .slice b.s.a3 b.s.n3 b.s.c3] 44) = w1) (m : Nat) (hm : w.heap.size = m) : DnBox m a w1 ∧ DnBox (m + 1) b w1 ∧ Old w w1 := by
 generalize e1 : w.alloc _ = w0 at e
 obtain ⟨h1, u1⟩ := dn_new w a w0 e1 m hm
 have hz : w0.heap.size = m + 1 := by rw [← e1]; simp [hm]
 obtain ⟨h2, u2⟩ := dn_new w0 b w1 e (m + 1) hz
 exact ⟨DnBox.old u2 h1, h2, u1.trans u2⟩
attribute [local go_sem] run_bits run_frombits run_store_float eqF
def bsB (a b : Dn) : Bool := decide (a.s.s3 < b.n) && decide (b.s.s3 < a.n)
def bwB (a b : Dn) : Bool := Fl.anyG (fun i => writeB b.s (a.s.x3 i)) a.s.n3
set_option maxHeartbeats 1000000 in
theorem beside_any (a b : Dn) (w : World) : Calls Tryz.prog 38 #[.agg #[.int .i64 a.n, .int .i64 a.s.s1, .int .i64 a.s.s2, .int .i64 a.s.s3, .slice a.s.a1 a.s.n1 a.s.c1, .slice a.s.a2 a.s.n2 a.s.c2, .slice a.s.a3 a.s.n3 a.s.c3], .agg #[.int .i64 b.n, .int .i64 b.s.s1, .int .i64 b.s.s2, .int .i64 b.s.s3, .slice b.s.a1 b.s.n1 b.s.c1, .slice b.s.a2 b.s.n2 b.s.c2, .slice b.s.a3 b.s.n3 b.s.c3]] w fun e w' => e = .returned (.bool (bsB a b)) ∧ Old w w' := by
 have HR : Hid (bsB a b = (decide (a.s.s3 < b.n) && decide (b.s.s3 < a.n))) := rfl
 generalize bsB a b = r at *
 go_enter Tryz.func38, Tryz.ntmps38
 go_upto_region 1 with fail
 generalize hw1 : (w.alloc (.cells #[.int .i64 a.n, .int .i64 a.s.s1, .int .i64 a.s.s2, .int .i64 a.s.s3, .slice a.s.a1 a.s.n1 a.s.c1, .slice a.s.a2 a.s.n2 a.s.c2, .slice a.s.a3 a.s.n3 a.s.c3] 44)).alloc (.cells #[.int .i64 b.n, .int .i64 b.s.s1, .int .i64 b.s.s2, .int .i64 b.s.s3, .slice b.s.a1 b.s.n1 b.s.c1, .slice b.s.a2 b.s.n2 b.s.c2, .slice b.s.a3 b.s.n3 b.s.c3] 44) = w1 at *
 have HW := hid (dn_two w a b w1 hw1 _ rfl)
 generalize w.heap.size = m at *
 clear hw1
 obtain ⟨t0, t1, t2, t3, t4, t5, t6⟩ := HW.out.1
 obtain ⟨u0, u1, u2, u3, u4, u5, u6⟩ := HW.out.2.1
 by_cases h1 : a.s.s3 < b.n
 ·rw [decide_eq_true h1, Bool.true_and] at HR
  go_wp2
  go_ret
  exact ⟨ret_b (by rw [HR.out]), HW.out.2.2⟩
 ·rw [decide_eq_false h1, Bool.false_and] at HR
  go_wp2
  go_ret
  exact ⟨ret_b (by rw [HR.out]), HW.out.2.2⟩
set_option maxHeartbeats 1000000 in
theorem index_bw (v : Value) (n : Nat) (f : Nat → Nat) (g : Nat → Bool) (kb : Nat) (w : World) (hv : FRow w v n f) (hf : ∀ i, i < n → ∀ W, Old w W → Calls Tryz.prog 67 #[.float .f64 (f i), .pointer (some ⟨kb, 0, none⟩)] W fun e w' => e = .returned (.bool (g i)) ∧ Old W w') :
    Calls Tryz.prog 80 #[v, .func (.func 67) #[] #[.pointer (some ⟨kb, 0, none⟩)]] w fun e w' => ∃ r : Int, e = .returned (.int .i64 r) ∧ decide (0 ≤ r) = Fl.anyG g n ∧ Old w w' := by
 obtain ⟨hm, a, c, rfl, hc⟩ := hv
 have HC := hid hc
 have HF := hid hf
 have hmm := hm
 clear hc hf hm
 go_enter Tryz.func80, Tryz.ntmps80
 go_wp2
 go_loopw [8] (fun i wr => ∃ k : Nat, k ≤ n ∧ i = .int .i64 (k : Nat) ∧ Fl.anyG g k = false ∧ Old w wr) (fun i _ => n - (intOf i).toNat)
 case atStart => exact ⟨0, Nat.zero_le _, rfl, rfl, Old.refl _⟩
 case round =>
  obtain ⟨k, hk, rfl, h0, hu⟩ := hrel
  by_cases hlt : k < n
  ·obtain ⟨b, off, ha, hW, c0⟩ := HC.out k hlt
   subst ha
   have x0 := hu.keep c0
   have HK := hid (HF.out k hlt)
   have l1 : (0 : Int) ≤ (k : Int) := by omega
   have l2 : (k : Int) < (n : Int) := by omega
   have H0 := hid h0
   clear c0 h0 HF HC
   generalize f k = X at *
   cases hg : g k
   ·rw [hg] at HK
    have HS := hid (Fl.anyG_step g k H0.out hg)
    clear hg
    go_wp2_with (go_at_call 67; refine (HK.out _ hu).mono ?_; rintro o w5 ⟨rfl, u5⟩)
    go_roundw
    case rel => exact ⟨k + 1, hlt, by go_num, HS.out, Old.trans hu u5⟩
    case measure => simp [intOf]; omega
   ·have HT := hid (Fl.anyG_true g n k hlt hg)
    rw [hg] at HK
    clear hg
    go_wp2_with (go_at_call 67; refine (HK.out _ hu).mono ?_; rintro o w5 ⟨rfl, u5⟩)
    go_ret
    exact ⟨_, rfl, by rw [HT.out]; simp, Old.trans hu u5⟩
  ·obtain rfl : k = n := by omega
   have H0 := hid h0
   clear h0
   go_wp2
   go_ret
   exact ⟨_, rfl, by rw [H0.out]; rfl, hu⟩
set_option maxHeartbeats 400000 in
theorem contains_bw (v : Value) (n : Nat) (f : Nat → Nat) (g : Nat → Bool) (kb : Nat) (w : World) (hv : FRow w v n f) (hf : ∀ i, i < n → ∀ W, Old w W → Calls Tryz.prog 67 #[.float .f64 (f i), .pointer (some ⟨kb, 0, none⟩)] W fun e w' => e = .returned (.bool (g i)) ∧ Old W w') :
    Calls Tryz.prog 45 #[v, .func (.func 67) #[] #[.pointer (some ⟨kb, 0, none⟩)]] w fun e w' => e = .returned (.bool (Fl.anyG g n)) ∧ Old w w' := by
 have HI := hid (index_bw v n f g kb w hv hf)
 clear hv hf
 go_enter Tryz.func45, Tryz.ntmps45
 go_wp2_with (go_at_call 80; refine HI.out.mono ?_; rintro o w5 ⟨r, rfl, hr, u5⟩; have HR := hid hr; clear hr)
 go_ret
 exact ⟨ret_b (by rw [← HR.out]), u5⟩
set_option maxHeartbeats 1000000 in
theorem bw1_any (b : Dn) (k bb : Nat) (hk : Fl.W k) (w : World) (hb : b.s.Ok w) (h : DnBox bb b w) :
    Calls Tryz.prog 67 #[.float .f64 k, .pointer (some ⟨bb, 0, none⟩)] w fun e w' => e = .returned (.bool (writeB b.s k)) ∧ Old w w' := by
 have HR := hid (writes_any b.s k hk w hb)
 generalize writeB b.s k = r at *
 obtain ⟨t0, t1, t2, t3, t4, t5, t6⟩ := h
 clear hb
 go_enter Tryz.func67, Tryz.ntmps67
 go_wp2_with (go_at_call 68; refine HR.out.mono ?_; rintro e w2 ⟨rfl, u2⟩; have U2 := hid u2; clear u2)
 go_ret
 exact ⟨rfl, U2.out⟩
set_option maxHeartbeats 1000000 in
theorem bothWrite_any (a b : Dn) (w : World) (ha : a.s.Ok w) (hb : b.s.Ok w) : Calls Tryz.prog 39 #[.agg #[.int .i64 a.n, .int .i64 a.s.s1, .int .i64 a.s.s2, .int .i64 a.s.s3, .slice a.s.a1 a.s.n1 a.s.c1, .slice a.s.a2 a.s.n2 a.s.c2, .slice a.s.a3 a.s.n3 a.s.c3], .agg #[.int .i64 b.n, .int .i64 b.s.s1, .int .i64 b.s.s2, .int .i64 b.s.s3, .slice b.s.a1 b.s.n1 b.s.c1, .slice b.s.a2 b.s.n2 b.s.c2, .slice b.s.a3 b.s.n3 b.s.c3]] w fun e w' => e = .returned (.bool (bwB a b)) ∧ Old w w' := by
 have hmf : ∀ (fn : Fn) (first cap : Array Value) (w : World), (Instr.makeFunc fn first cap).run Tryz.prog w = .ok (.func fn first cap) w := fun _ _ _ _ => rfl
 have HC := hid (fun (W : World) (bb : Nat) (u : Old w W) (h : DnBox bb b W) => contains_bw _ a.s.n3 a.s.x3 (fun i => writeB b.s (a.s.x3 i)) bb W (ha.h3.old u) (fun i hi V k => bw1_any b (a.s.x3 i) bb (ha.h3.ws i hi) V ((hb.old u).old k) (DnBox.old k h)))
 unfold bwB
 generalize Fl.anyG (fun i => writeB b.s (a.s.x3 i)) a.s.n3 = r at *
 clear ha hb
 go_enter Tryz.func39, Tryz.ntmps39
 go_upto_region 1 with fail
 generalize hw1 : (w.alloc (.cells #[.int .i64 a.n, .int .i64 a.s.s1, .int .i64 a.s.s2, .int .i64 a.s.s3, .slice a.s.a1 a.s.n1 a.s.c1, .slice a.s.a2 a.s.n2 a.s.c2, .slice a.s.a3 a.s.n3 a.s.c3] 44)).alloc (.cells #[.int .i64 b.n, .int .i64 b.s.s1, .int .i64 b.s.s2, .int .i64 b.s.s3, .slice b.s.a1 b.s.n1 b.s.c1, .slice b.s.a2 b.s.n2 b.s.c2, .slice b.s.a3 b.s.n3 b.s.c3] 44) = w1 at *
 have HW := hid (dn_two w a b w1 hw1 _ rfl)
 generalize w.heap.size = m at *
 clear hw1
 have HC1 := hid (HC.out w1 (m + 1) HW.out.2.2 HW.out.2.1)
 obtain ⟨t0, t1, t2, t3, t4, t5, t6⟩ := HW.out.1
 clear HC
 go_wp2_with (go_at_call 45; refine HC1.out.mono ?_; rintro e w2 ⟨rfl, v2⟩; have V2 := hid (HW.out.2.2.trans v2); clear v2)
 go_ret
 exact ⟨rfl, V2.out⟩
def ldB (a b : Dn) : Bool := !decide (a.n = b.n) && ((decide (a.n < b.n) && bwB a b) || (decide (a.n ≤ b.s.s3) && meetB b.s a.s) || (decide (a.s.s3 < b.n) && meetB a.s b.s))
set_option maxHeartbeats 4000000 in
theorem leads_any (a b : Dn) (w : World) (ha : a.s.Ok w) (hb : b.s.Ok w) : Calls Tryz.prog 96 #[.agg #[.int .i64 a.n, .int .i64 a.s.s1, .int .i64 a.s.s2, .int .i64 a.s.s3, .slice a.s.a1 a.s.n1 a.s.c1, .slice a.s.a2 a.s.n2 a.s.c2, .slice a.s.a3 a.s.n3 a.s.c3], .agg #[.int .i64 b.n, .int .i64 b.s.s1, .int .i64 b.s.s2, .int .i64 b.s.s3, .slice b.s.a1 b.s.n1 b.s.c1, .slice b.s.a2 b.s.n2 b.s.c2, .slice b.s.a3 b.s.n3 b.s.c3]] w fun e w' => e = .returned (.bool (ldB a b)) ∧ Old w w' := by
 have HB := hid (fun (W : World) (u : Old w W) => bothWrite_any a b W (ha.old u) (hb.old u))
 have HM1 := hid (fun (W : World) (u : Old w W) => meets_any b.s a.s W (hb.old u) (ha.old u))
 have HM2 := hid (fun (W : World) (u : Old w W) => meets_any a.s b.s W (ha.old u) (hb.old u))
 have HLd : Hid (ldB a b = (!decide (a.n = b.n) && ((decide (a.n < b.n) && bwB a b) || (decide (a.n ≤ b.s.s3) && meetB b.s a.s) || (decide (a.s.s3 < b.n) && meetB a.s b.s)))) := rfl
 generalize ldB a b = ld at *
 generalize bwB a b = rb at *
 generalize meetB b.s a.s = r1 at *
 generalize meetB a.s b.s = r2 at *
 clear ha hb
 go_enter Tryz.func96, Tryz.ntmps96
 go_upto_region 1 with fail
 generalize hw1 : (w.alloc (.cells #[.int .i64 a.n, .int .i64 a.s.s1, .int .i64 a.s.s2, .int .i64 a.s.s3, .slice a.s.a1 a.s.n1 a.s.c1, .slice a.s.a2 a.s.n2 a.s.c2, .slice a.s.a3 a.s.n3 a.s.c3] 44)).alloc (.cells #[.int .i64 b.n, .int .i64 b.s.s1, .int .i64 b.s.s2, .int .i64 b.s.s3, .slice b.s.a1 b.s.n1 b.s.c1, .slice b.s.a2 b.s.n2 b.s.c2, .slice b.s.a3 b.s.n3 b.s.c3] 44) = w1 at *
 have HW := hid (dn_two w a b w1 hw1 _ rfl)
 generalize w.heap.size = m at *
 clear hw1
 obtain ⟨t0, t1, t2, t3, t4, t5, t6⟩ := HW.out.1
 obtain ⟨u0, u1, u2, u3, u4, u5, u6⟩ := HW.out.2.1
 have V0 := hid HW.out.2.2
 by_cases h0 : a.n = b.n
 ·have e0 : (a.n == b.n) = true := by rw [beq_iff_eq]; exact h0
  rw [decide_eq_true h0] at HLd
  clear h0
  go_wp2
  go_ret
  exact ⟨ret_b (by rw [HLd.out]; rfl), V0.out⟩
 ·have e0 : (a.n == b.n) = false := by rw [beq_eq_false_iff_ne]; exact h0
  rw [decide_eq_false h0] at HLd
  clear h0
  by_cases h1 : a.n < b.n
  ·cases rb
   ·skip
    by_cases h2 : a.n ≤ b.s.s3
    ·cases r1
     ·skip
      by_cases h3 : a.s.s3 < b.n
      ·skip
       have HF := hid (show ld = r2 from by rw [HLd.out]; simp [h1, h2, h3])
       clear HLd
       go_wp2_with (first | (go_at_call 39; refine (HB.out _ V0.out).mono ?_; rintro e y1 ⟨rfl, v1⟩; have V1 := hid (V0.out.trans v1); have W1 := hid v1; clear t0 t1 t2 t3 t4 t5 t6 u0 u1 u2 u3 u4 u5 u6; obtain ⟨t0, t1, t2, t3, t4, t5, t6⟩ := DnBox.old v1 HW.out.1; obtain ⟨u0, u1, u2, u3, u4, u5, u6⟩ := DnBox.old v1 HW.out.2.1; clear v1) | (go_at_call 88; refine (HM1.out _ V1.out).mono ?_; rintro e y2 ⟨rfl, v2⟩; have V2 := hid (V1.out.trans v2); clear t0 t1 t2 t3 t4 t5 t6 u0 u1 u2 u3 u4 u5 u6; obtain ⟨t0, t1, t2, t3, t4, t5, t6⟩ := DnBox.old (W1.out.trans v2) HW.out.1; obtain ⟨u0, u1, u2, u3, u4, u5, u6⟩ := DnBox.old (W1.out.trans v2) HW.out.2.1; clear v2) | (go_at_call 88; refine (HM2.out _ V2.out).mono ?_; rintro e y3 ⟨rfl, v3⟩; have V3 := hid (V2.out.trans v3); clear v3))
       go_ret
       exact ⟨ret_b (by rw [HF.out]), V3.out⟩
      ·skip
       have HF := hid (show ld = false from by rw [HLd.out]; simp [h1, h2, h3])
       clear HLd
       go_wp2_with (first | (go_at_call 39; refine (HB.out _ V0.out).mono ?_; rintro e y1 ⟨rfl, v1⟩; have V1 := hid (V0.out.trans v1); have W1 := hid v1; clear t0 t1 t2 t3 t4 t5 t6 u0 u1 u2 u3 u4 u5 u6; obtain ⟨t0, t1, t2, t3, t4, t5, t6⟩ := DnBox.old v1 HW.out.1; obtain ⟨u0, u1, u2, u3, u4, u5, u6⟩ := DnBox.old v1 HW.out.2.1; clear v1) | (go_at_call 88; refine (HM1.out _ V1.out).mono ?_; rintro e y2 ⟨rfl, v2⟩; have V2 := hid (V1.out.trans v2); clear t0 t1 t2 t3 t4 t5 t6 u0 u1 u2 u3 u4 u5 u6; obtain ⟨t0, t1, t2, t3, t4, t5, t6⟩ := DnBox.old (W1.out.trans v2) HW.out.1; obtain ⟨u0, u1, u2, u3, u4, u5, u6⟩ := DnBox.old (W1.out.trans v2) HW.out.2.1; clear v2))
       go_ret
       exact ⟨ret_b (by rw [HF.out]), V2.out⟩
     ·skip
      have HF := hid (show ld = true from by rw [HLd.out]; simp [h1, h2])
      clear HLd
      go_wp2_with (first | (go_at_call 39; refine (HB.out _ V0.out).mono ?_; rintro e y1 ⟨rfl, v1⟩; have V1 := hid (V0.out.trans v1); have W1 := hid v1; clear t0 t1 t2 t3 t4 t5 t6 u0 u1 u2 u3 u4 u5 u6; obtain ⟨t0, t1, t2, t3, t4, t5, t6⟩ := DnBox.old v1 HW.out.1; obtain ⟨u0, u1, u2, u3, u4, u5, u6⟩ := DnBox.old v1 HW.out.2.1; clear v1) | (go_at_call 88; refine (HM1.out _ V1.out).mono ?_; rintro e y2 ⟨rfl, v2⟩; have V2 := hid (V1.out.trans v2); clear t0 t1 t2 t3 t4 t5 t6 u0 u1 u2 u3 u4 u5 u6; obtain ⟨t0, t1, t2, t3, t4, t5, t6⟩ := DnBox.old (W1.out.trans v2) HW.out.1; obtain ⟨u0, u1, u2, u3, u4, u5, u6⟩ := DnBox.old (W1.out.trans v2) HW.out.2.1; clear v2))
      go_ret
      exact ⟨ret_b (by rw [HF.out]), V2.out⟩
    ·skip
     by_cases h3 : a.s.s3 < b.n
     ·skip
      have HF := hid (show ld = r2 from by rw [HLd.out]; simp [h1, h2, h3])
      clear HLd
      go_wp2_with (first | (go_at_call 39; refine (HB.out _ V0.out).mono ?_; rintro e y1 ⟨rfl, v1⟩; have V1 := hid (V0.out.trans v1); have W1 := hid v1; clear t0 t1 t2 t3 t4 t5 t6 u0 u1 u2 u3 u4 u5 u6; obtain ⟨t0, t1, t2, t3, t4, t5, t6⟩ := DnBox.old v1 HW.out.1; obtain ⟨u0, u1, u2, u3, u4, u5, u6⟩ := DnBox.old v1 HW.out.2.1; clear v1) | (go_at_call 88; refine (HM2.out _ V1.out).mono ?_; rintro e y3 ⟨rfl, v3⟩; have V3 := hid (V1.out.trans v3); clear v3))
      go_ret
      exact ⟨ret_b (by rw [HF.out]), V3.out⟩
     ·skip
      have HF := hid (show ld = false from by rw [HLd.out]; simp [h1, h2, h3])
      clear HLd
      go_wp2_with (first | (go_at_call 39; refine (HB.out _ V0.out).mono ?_; rintro e y1 ⟨rfl, v1⟩; have V1 := hid (V0.out.trans v1); have W1 := hid v1; clear t0 t1 t2 t3 t4 t5 t6 u0 u1 u2 u3 u4 u5 u6; obtain ⟨t0, t1, t2, t3, t4, t5, t6⟩ := DnBox.old v1 HW.out.1; obtain ⟨u0, u1, u2, u3, u4, u5, u6⟩ := DnBox.old v1 HW.out.2.1; clear v1))
      go_ret
      exact ⟨ret_b (by rw [HF.out]), V1.out⟩
   ·skip
    have HF := hid (show ld = true from by rw [HLd.out]; simp [h1])
    clear HLd
    go_wp2_with (first | (go_at_call 39; refine (HB.out _ V0.out).mono ?_; rintro e y1 ⟨rfl, v1⟩; have V1 := hid (V0.out.trans v1); have W1 := hid v1; clear t0 t1 t2 t3 t4 t5 t6 u0 u1 u2 u3 u4 u5 u6; obtain ⟨t0, t1, t2, t3, t4, t5, t6⟩ := DnBox.old v1 HW.out.1; obtain ⟨u0, u1, u2, u3, u4, u5, u6⟩ := DnBox.old v1 HW.out.2.1; clear v1))
    go_ret
    exact ⟨ret_b (by rw [HF.out]), V1.out⟩
  ·skip
   by_cases h2 : a.n ≤ b.s.s3
   ·cases r1
    ·skip
     by_cases h3 : a.s.s3 < b.n
     ·skip
      have HF := hid (show ld = r2 from by rw [HLd.out]; simp [h1, h2, h3])
      clear HLd
      go_wp2_with (first | (go_at_call 88; refine (HM1.out _ V0.out).mono ?_; rintro e y2 ⟨rfl, v2⟩; have V2 := hid (V0.out.trans v2); clear t0 t1 t2 t3 t4 t5 t6 u0 u1 u2 u3 u4 u5 u6; obtain ⟨t0, t1, t2, t3, t4, t5, t6⟩ := DnBox.old v2 HW.out.1; obtain ⟨u0, u1, u2, u3, u4, u5, u6⟩ := DnBox.old v2 HW.out.2.1; clear v2) | (go_at_call 88; refine (HM2.out _ V2.out).mono ?_; rintro e y3 ⟨rfl, v3⟩; have V3 := hid (V2.out.trans v3); clear v3))
      go_ret
      exact ⟨ret_b (by rw [HF.out]), V3.out⟩
     ·skip
      have HF := hid (show ld = false from by rw [HLd.out]; simp [h1, h2, h3])
      clear HLd
      go_wp2_with (first | (go_at_call 88; refine (HM1.out _ V0.out).mono ?_; rintro e y2 ⟨rfl, v2⟩; have V2 := hid (V0.out.trans v2); clear t0 t1 t2 t3 t4 t5 t6 u0 u1 u2 u3 u4 u5 u6; obtain ⟨t0, t1, t2, t3, t4, t5, t6⟩ := DnBox.old v2 HW.out.1; obtain ⟨u0, u1, u2, u3, u4, u5, u6⟩ := DnBox.old v2 HW.out.2.1; clear v2))
      go_ret
      exact ⟨ret_b (by rw [HF.out]), V2.out⟩
    ·skip
     have HF := hid (show ld = true from by rw [HLd.out]; simp [h1, h2])
     clear HLd
     go_wp2_with (first | (go_at_call 88; refine (HM1.out _ V0.out).mono ?_; rintro e y2 ⟨rfl, v2⟩; have V2 := hid (V0.out.trans v2); clear t0 t1 t2 t3 t4 t5 t6 u0 u1 u2 u3 u4 u5 u6; obtain ⟨t0, t1, t2, t3, t4, t5, t6⟩ := DnBox.old v2 HW.out.1; obtain ⟨u0, u1, u2, u3, u4, u5, u6⟩ := DnBox.old v2 HW.out.2.1; clear v2))
     go_ret
     exact ⟨ret_b (by rw [HF.out]), V2.out⟩
   ·skip
    by_cases h3 : a.s.s3 < b.n
    ·skip
     have HF := hid (show ld = r2 from by rw [HLd.out]; simp [h1, h2, h3])
     clear HLd
     go_wp2_with (first | (go_at_call 88; refine (HM2.out _ V0.out).mono ?_; rintro e y3 ⟨rfl, v3⟩; have V3 := hid (V0.out.trans v3); clear v3))
     go_ret
     exact ⟨ret_b (by rw [HF.out]), V3.out⟩
    ·skip
     have HF := hid (show ld = false from by rw [HLd.out]; simp [h1, h2, h3])
     clear HLd
     go_wp2
     go_ret
     exact ⟨ret_b (by rw [HF.out]), V0.out⟩
end Go.Proofs.YtgeinnaljlajoaaGreat
namespace Go.Proofs.YtgeinnaljlajoaaGreat
open Go.RowKit Go.Lib
set_option linter.unusedVariables false
set_option linter.unusedSimpArgs false
set_option maxRecDepth 20000
theorem DRow.take {w : World} {p : Option Addr} {n c : Nat} {d : Nat → Dn} (h : DRow w (.slice p n c) n d) (k : Nat) (hk : k ≤ n) : DRow w (.slice p k c) k d := by
 obtain ⟨hm, p', c', e, h1, h2, hc⟩ := h
 cases e
 exact ⟨by omega, p, c, rfl, by omega, h2, fun i hi => hc i (by omega)⟩
attribute [local go_sem] run_bits run_frombits run_store_float eqF
set_option maxHeartbeats 1000000 in
theorem index_cl (v : Value) (n : Nat) (d : Nat → Dn) (g : Nat → Bool) (tb : Nat) (w : World) (hv : DRow w v n d) (hf : ∀ i, i < n → ∀ W, Old w W → Calls Tryz.prog 37 #[.agg #[.int .i64 (d i).n, .int .i64 (d i).s.s1, .int .i64 (d i).s.s2, .int .i64 (d i).s.s3, .slice (d i).s.a1 (d i).s.n1 (d i).s.c1, .slice (d i).s.a2 (d i).s.n2 (d i).s.c2, .slice (d i).s.a3 (d i).s.n3 (d i).s.c3], .pointer (some ⟨tb, 0, none⟩)] W fun e w' => e = .returned (.bool (g i)) ∧ Old W w') :
    Calls Tryz.prog 75 #[v, .func (.func 37) #[] #[.pointer (some ⟨tb, 0, none⟩)]] w fun e w' => ∃ r : Int, e = .returned (.int .i64 r) ∧ decide (0 ≤ r) = Fl.anyG g n ∧ Old w w' := by
 obtain ⟨hm, a, c, rfl, hnc, hcm, hc⟩ := hv
 have HC := hid hc
 have HF := hid hf
 have hmm : (n : Int) ≤ 1099511627776 := by omega
 clear hc hf hm hcm hnc
 go_enter Tryz.func75, Tryz.ntmps75
 go_wp2
 go_loopw [8] (fun i wr => ∃ k : Nat, k ≤ n ∧ i = .int .i64 (k : Nat) ∧ Fl.anyG g k = false ∧ Old w wr) (fun i _ => n - (intOf i).toNat)
 case atStart => exact ⟨0, Nat.zero_le _, rfl, rfl, Old.refl _⟩
 case round =>
  obtain ⟨k, hk, rfl, h0, hu⟩ := hrel
  by_cases hlt : k < n
  ·obtain ⟨b, off, ha, c0, _⟩ := HC.out k hlt
   subst ha
   obtain ⟨x0, x1, x2, x3, x4, x5, x6⟩ := c0.old hu
   have HK := hid (HF.out k hlt)
   have l1 : (0 : Int) ≤ (k : Int) := by omega
   have l2 : (k : Int) < (n : Int) := by omega
   have H0 := hid h0
   clear c0 h0 HF HC
   generalize d k = X at *
   cases hg : g k
   ·rw [hg] at HK
    have HS := hid (Fl.anyG_step g k H0.out hg)
    clear hg
    go_wp2_with (go_at_call 37; refine (HK.out _ hu).mono ?_; rintro o w5 ⟨rfl, u5⟩)
    go_roundw
    case rel => exact ⟨k + 1, hlt, by go_num, HS.out, Old.trans hu u5⟩
    case measure => simp [intOf]; omega
   ·have HT := hid (Fl.anyG_true g n k hlt hg)
    rw [hg] at HK
    clear hg
    go_wp2_with (go_at_call 37; refine (HK.out _ hu).mono ?_; rintro o w5 ⟨rfl, u5⟩)
    go_ret
    exact ⟨_, rfl, by rw [HT.out]; simp, Old.trans hu u5⟩
  ·obtain rfl : k = n := by omega
   have H0 := hid h0
   clear h0
   go_wp2
   go_ret
   exact ⟨_, rfl, by rw [H0.out]; rfl, hu⟩
set_option maxHeartbeats 400000 in
theorem contains_cl (v : Value) (n : Nat) (d : Nat → Dn) (g : Nat → Bool) (tb : Nat) (w : World) (hv : DRow w v n d) (hf : ∀ i, i < n → ∀ W, Old w W → Calls Tryz.prog 37 #[.agg #[.int .i64 (d i).n, .int .i64 (d i).s.s1, .int .i64 (d i).s.s2, .int .i64 (d i).s.s3, .slice (d i).s.a1 (d i).s.n1 (d i).s.c1, .slice (d i).s.a2 (d i).s.n2 (d i).s.c2, .slice (d i).s.a3 (d i).s.n3 (d i).s.c3], .pointer (some ⟨tb, 0, none⟩)] W fun e w' => e = .returned (.bool (g i)) ∧ Old W w') :
    Calls Tryz.prog 41 #[v, .func (.func 37) #[] #[.pointer (some ⟨tb, 0, none⟩)]] w fun e w' => e = .returned (.bool (Fl.anyG g n)) ∧ Old w w' := by
 have HI := hid (index_cl v n d g tb w hv hf)
 clear hv hf
 go_enter Tryz.func41, Tryz.ntmps41
 go_wp2_with (go_at_call 75; refine HI.out.mono ?_; rintro o w5 ⟨r, rfl, hr, u5⟩; have HR := hid hr; clear hr)
 go_ret
 exact ⟨ret_b (by rw [← HR.out]), u5⟩
def clB (a b : Dn) : Bool := bsB a b && bwB a b
set_option maxHeartbeats 1000000 in
theorem clash_any (a b : Dn) (tb : Nat) (w : World) (ha : a.s.Ok w) (hb : b.s.Ok w) (h : DnBox tb a w) :
    Calls Tryz.prog 37 #[.agg #[.int .i64 b.n, .int .i64 b.s.s1, .int .i64 b.s.s2, .int .i64 b.s.s3, .slice b.s.a1 b.s.n1 b.s.c1, .slice b.s.a2 b.s.n2 b.s.c2, .slice b.s.a3 b.s.n3 b.s.c3], .pointer (some ⟨tb, 0, none⟩)] w fun e w' => e = .returned (.bool (clB a b)) ∧ Old w w' := by
 have HB := hid (fun W => beside_any a b W)
 have HW := hid (fun (W : World) (u : Old w W) => bothWrite_any a b W (ha.old u) (hb.old u))
 unfold clB
 generalize bsB a b = r1 at *
 generalize bwB a b = r2 at *
 have HT := hid h
 clear ha hb h
 go_enter Tryz.func37, Tryz.ntmps37
 go_upto_region 1 with fail
 generalize hw1 : w.alloc (.cells #[.int .i64 b.n, .int .i64 b.s.s1, .int .i64 b.s.s2, .int .i64 b.s.s3, .slice b.s.a1 b.s.n1 b.s.c1, .slice b.s.a2 b.s.n2 b.s.c2, .slice b.s.a3 b.s.n3 b.s.c3] 44) = w1 at *
 obtain ⟨hb1, hu1⟩ := dn_new w b w1 hw1 _ rfl
 generalize w.heap.size = m at *
 have B1 := hid hb1
 have T1 := hid (DnBox.old hu1 HT.out)
 have U1 := hid hu1
 clear hw1 hb1 hu1 HT
 obtain ⟨t0, t1, t2, t3, t4, t5, t6⟩ := T1.out
 obtain ⟨u0, u1, u2, u3, u4, u5, u6⟩ := B1.out
 cases r1
 ·go_wp2_with (go_at_call 38; refine (HB.out _).mono ?_; rintro e w2 ⟨rfl, v2⟩; have V2 := hid (U1.out.trans v2); clear v2)
  go_ret
  exact ⟨rfl, V2.out⟩
 ·go_wp2_with (first | (go_at_call 38; refine (HB.out _).mono ?_; rintro e w2 ⟨rfl, v2⟩; have V2 := hid (U1.out.trans v2); clear t0 t1 t2 t3 t4 t5 t6 u0 u1 u2 u3 u4 u5 u6; obtain ⟨t0, t1, t2, t3, t4, t5, t6⟩ := DnBox.old v2 T1.out; obtain ⟨u0, u1, u2, u3, u4, u5, u6⟩ := DnBox.old v2 B1.out; clear v2) | (go_at_call 39; refine (HW.out _ V2.out).mono ?_; rintro e w3 ⟨rfl, v3⟩; have V3 := hid (V2.out.trans v3); clear v3))
  go_ret
  exact ⟨ret_b (by simp), V3.out⟩
def okB (d : Nat → Dn) (i : Nat) : Bool := decide ((d i).n = (i : Int) + 1) && (decide ((d i).s.chk = 0) && (!decide ((d i).n ≤ (d i).s.s3) && !Fl.anyG (fun j => clB (d i) (d j)) i))
def okU (d : Nat → Dn) : Nat → Bool | 0 => true | k + 1 => okU d k && okB d k
def rtB (d : Nat → Dn) (n : Nat) : Bool := decide (n ≤ 64) && okU d n
theorem okU_no (d : Nat → Dn) (k : Nat) (h : okB d k = false) : ∀ n, k < n → okU d n = false
 | 0, hk => by omega
 | n + 1, hk => by
  show (okU d n && okB d n) = false
  by_cases e : k = n
  ·subst e; rw [h, Bool.and_false]
  ·rw [okU_no d k h n (by omega), Bool.false_and]
set_option maxHeartbeats 4000000 in
theorem rightH_any (v : Value) (n : Nat) (d : Nat → Dn) (w : World) (hv : DRow w v n d) :
    Calls Tryz.prog 15 #[v] w fun e w' => e = .returned (.bool (rtB d n)) ∧ Old w w' := by
 have hmf : ∀ (fn : Fn) (first cap : Array Value) (w : World), (Instr.makeFunc fn first cap).run Tryz.prog w = .ok (.func fn first cap) w := fun _ _ _ _ => rfl
 have HV := hid hv
 obtain ⟨hm, p, c, rfl, hnc, hcm, hc⟩ := hv
 have HC := hid hc
 have HRt : Hid (rtB d n = (decide (n ≤ 64) && okU d n)) := rfl
 clear hc
 generalize rtB d n = rt at *
 by_cases h64 : n ≤ 64
 ·have l0 : (n : Int) ≤ 64 := by omega
  rw [decide_eq_true h64, Bool.true_and] at HRt
  have l3 : ¬ ((64 : Int) < (n : Int)) := by omega
  clear h64
  go_enter Tryz.func15, Tryz.ntmps15
  go_wp2
  go_loopw [11] (fun i wr => ∃ k : Nat, k ≤ n ∧ i = .int .i64 (k : Nat) ∧ okU d k = true ∧ Old w wr) (fun i _ => n - (intOf i).toNat)
  case atStart => exact ⟨0, Nat.zero_le _, rfl, rfl, Old.refl _⟩
  case round =>
   obtain ⟨k, hk, rfl, h0, hu⟩ := hrel
   have HU := hid hu
   have HOk := hid h0
   clear h0
   by_cases hlt : k < n
   ·obtain ⟨g, off, ha, c0, hs⟩ := HC.out k hlt
    subst ha
    obtain ⟨x0, x1, x2, x3, x4, x5, x6⟩ := c0.old hu
    have l1 : (0 : Int) ≤ (k : Int) := by omega
    have l2 : (k : Int) < (n : Int) := by omega
    have l4 : (k : Int) ≤ (c : Int) := by omega
    have l5 : (k : Int) ≤ (n : Int) := by omega
    have HCk := hid (show ∀ W, Old wr W → Calls Tryz.prog 40 #[.agg #[.int .i64 (d k).s.s1, .int .i64 (d k).s.s2, .int .i64 (d k).s.s3, .slice (d k).s.a1 (d k).s.n1 (d k).s.c1, .slice (d k).s.a2 (d k).s.n2 (d k).s.c2, .slice (d k).s.a3 (d k).s.n3 (d k).s.c3]] W fun e w' => e = .returned (.int .i64 (d k).s.chk) ∧ Old W w' from fun W u => check_any _ _ _ _ _ _ _ _ _ _ _ _ _ _ _ hs.b1 hs.b2 hs.b3 W (hs.h1.old (hu.trans u)) (hs.h2.old (hu.trans u)) (hs.h3.old (hu.trans u)))
    have HCl := hid (fun (W : World) (u : Old wr W) (hb : DnBox wr.heap.size (d k) W) => contains_cl _ k d (fun j => clB (d k) (d j)) wr.heap.size W ((HV.out.take k hk).old (hu.trans u)) (fun j hj V kk => clash_any (d k) (d j) wr.heap.size V (hs.old ((hu.trans u).trans kk)) (by obtain ⟨_, _, _, _, q⟩ := HC.out j (by omega); exact q.old ((hu.trans u).trans kk)) (DnBox.old kk hb)))
    have HSt : Hid (okU d (k + 1) = (okU d k && okB d k)) := rfl
    have HNo := hid (fun (h : okB d k = false) => okU_no d k h n hlt)
    have HOb : Hid (okB d k = (decide ((d k).n = (k : Int) + 1) && (decide ((d k).s.chk = 0) && (!decide ((d k).n ≤ (d k).s.s3) && !Fl.anyG (fun j => clB (d k) (d j)) k)))) := rfl
    clear c0 hs HC hu
    generalize Fl.anyG (fun j => clB (d k) (d j)) k = rc at *
    generalize hck : (d k).s.chk = ck at *
    clear hck
    generalize okB d k = ob at *
    go_upto_region 6 with fail
    generalize hw1 : wr.alloc (.cells #[.int .i64 (d k).n, .int .i64 (d k).s.s1, .int .i64 (d k).s.s2, .int .i64 (d k).s.s3, .slice (d k).s.a1 (d k).s.n1 (d k).s.c1, .slice (d k).s.a2 (d k).s.n2 (d k).s.c2, .slice (d k).s.a3 (d k).s.n3 (d k).s.c3] 44) = w1 at *
    obtain ⟨hb1, hu1⟩ := dn_new wr (d k) w1 hw1 _ rfl
    have B1 := hid hb1
    have U1 := hid hu1
    clear hw1 hb1 hu1 x0 x1 x2 x3 x4 x5 x6
    generalize hmb : wr.heap.size = mb at *
    clear hmb
    obtain ⟨t0, t1, t2, t3, t4, t5, t6⟩ := B1.out
    by_cases q1 : (d k).n = (k : Int) + 1
    ·by_cases q2 : ck = 0
     ·subst q2
      by_cases q3 : (d k).n ≤ (d k).s.s3
      ·have HF := hid (show rt = false from by rw [HRt.out]; exact HNo.out (by rw [HOb.out, decide_eq_true q3]; simp))
       clear HNo HOb HSt HCl
       go_wp2_with (first | (go_at_call 40; refine (HCk.out _ U1.out).mono ?_; rintro e w2 ⟨rfl, v2⟩; have V2 := hid v2; have U2 := hid (U1.out.trans v2); clear t0 t1 t2 t3 t4 t5 t6; obtain ⟨t0, t1, t2, t3, t4, t5, t6⟩ := DnBox.old v2 B1.out; clear v2))
       go_ret
       exact ⟨ret_b (by rw [HF.out]), HU.out.trans U2.out⟩
      ·have q3' : ¬ ((d k).s.s3 ≥ (d k).n) := q3
       cases rc
       ·have HN := hid (show okU d (k + 1) = true from by rw [HSt.out, HOk.out, HOb.out, decide_eq_true q1, decide_eq_false q3]; rfl)
        clear HNo HOb HSt
        go_wp2_with (first | (go_at_call 40; refine (HCk.out _ U1.out).mono ?_; rintro e w2 ⟨rfl, v2⟩; have V2 := hid v2; have U2 := hid (U1.out.trans v2); clear t0 t1 t2 t3 t4 t5 t6; obtain ⟨t0, t1, t2, t3, t4, t5, t6⟩ := DnBox.old v2 B1.out; clear v2) | (go_at_call 41; refine (HCl.out _ U2.out (DnBox.old V2.out B1.out)).mono ?_; rintro e w3 ⟨rfl, v3⟩; have U3 := hid (U2.out.trans v3); clear v3))
        go_roundw
        case rel => exact ⟨k + 1, hlt, by go_num, HN.out, HU.out.trans U3.out⟩
        case measure => simp [intOf]; omega
       ·have HF := hid (show rt = false from by rw [HRt.out]; exact HNo.out (by rw [HOb.out]; simp))
        clear HNo HOb HSt
        go_wp2_with (first | (go_at_call 40; refine (HCk.out _ U1.out).mono ?_; rintro e w2 ⟨rfl, v2⟩; have V2 := hid v2; have U2 := hid (U1.out.trans v2); clear t0 t1 t2 t3 t4 t5 t6; obtain ⟨t0, t1, t2, t3, t4, t5, t6⟩ := DnBox.old v2 B1.out; clear v2) | (go_at_call 41; refine (HCl.out _ U2.out (DnBox.old V2.out B1.out)).mono ?_; rintro e w3 ⟨rfl, v3⟩; have U3 := hid (U2.out.trans v3); clear v3))
        go_ret
        exact ⟨ret_b (by rw [HF.out]), HU.out.trans U3.out⟩
     ·have HF := hid (show rt = false from by rw [HRt.out]; exact HNo.out (by rw [HOb.out, decide_eq_false q2]; simp))
      have q2' : (ck == 0) = false := by rw [beq_eq_false_iff_ne]; exact q2
      have q2'' : (ck != 0) = true := by rw [bne_iff_ne]; exact q2
      clear HNo HOb HSt HCl
      go_wp2_with (first | (go_at_call 40; refine (HCk.out _ U1.out).mono ?_; rintro e w2 ⟨rfl, v2⟩; have V2 := hid v2; have U2 := hid (U1.out.trans v2); clear t0 t1 t2 t3 t4 t5 t6; obtain ⟨t0, t1, t2, t3, t4, t5, t6⟩ := DnBox.old v2 B1.out; clear v2))
      go_ret
      exact ⟨ret_b (by rw [HF.out]), HU.out.trans U2.out⟩
    ·have HF := hid (show rt = false from by rw [HRt.out]; exact HNo.out (by rw [HOb.out, decide_eq_false q1]; simp))
     have q1' : ((d k).n == (k : Int) + 1) = false := by rw [beq_eq_false_iff_ne]; exact q1
     clear HNo HOb HSt HCl HCk
     go_wp2
     go_ret
     exact ⟨ret_b (by rw [HF.out]), HU.out.trans U1.out⟩
   ·obtain rfl : k = n := by omega
    have HF := hid (show rt = true from by rw [HRt.out, HOk.out])
    clear HRt HOk
    go_wp2
    go_ret
    exact ⟨ret_b (by rw [HF.out]), HU.out⟩
 ·rw [decide_eq_false h64, Bool.false_and] at HRt
  have l3 : (64 : Int) < (n : Int) := by omega
  have HF := hid HRt.out
  clear h64 HRt
  go_enter Tryz.func15, Tryz.ntmps15
  go_wp2
  go_ret
  exact ⟨ret_b (by rw [HF.out]), Old.refl _⟩
end Go.Proofs.YtgeinnaljlajoaaGreat
namespace Go.Proofs.YtgeinnaljlajoaaGreat
open Go.RowKit Go.Lib
set_option linter.unusedVariables false
set_option linter.unusedSimpArgs false
set_option maxRecDepth 20000
def ec (e : Int × Int) : List Value := [.int .i64 e.1, .int .i64 e.2]
def ecs (L : List (Int × Int)) : List Value := L.flatMap ec
theorem ecs_app (L M : List (Int × Int)) : ecs L ++ ecs M = ecs (L ++ M) := by simp [ecs]
theorem infoEdge : (Tryz.prog.info? 112).map (fun i => (i.zero, i.size, i.bytes)) = some (some (.agg #[.int .i64 0, .int .i64 0]), 2, 16) := by kernel_rfl
def OwnE (base : Nat) (w : World) (v : Value) (L : List (Int × Int)) : Prop := w.ownsRow base 112 2 v L.length (ecs L)
theorem OwnE.old {base : Nat} {w w' : World} {v : Value} {L : List (Int × Int)} (h : OwnE base w v L) (u : Old w w') : OwnE base w' v L := own_old h u
theorem wp_appE {ops : Array Oper} {rest : List Oper} {o : Oper} {a : Act} {Q : Exit → Act → World → Prop} {w : World} (hgd : o.guard = none) (s x : Operand)
    (ho : o.op = .call { callee := .builtin .append, args := #[s, x], argTypes := #[108, 108] }) (base : Nat) (v : Value) (L : List (Int × Int)) (r : Int × Int) (g c1 : Nat)
    (hs : a.eval s = v) (hx : a.eval x = .slice (some ⟨g, 0, none⟩) 1 c1) (hown : OwnE base w v L) (hc : w.cell? ⟨g, 0, none⟩ = some (.int .i64 r.1) ∧ w.cell? ⟨g, 1, none⟩ = some (.int .i64 r.2)) (hb : L.length + 1 ≤ 1000000) (hbase : base ≤ w.heap.size)
    (h : ∀ v' w', OwnE base w' v' (L ++ [r]) → w.grownBy w' v.ownBlock → (v'.ownBlock = v.ownBlock ∨ v'.ownBlock = some w.heap.size) → wpList Tryz.prog ops Q rest (a.put o.dst v') w') : wpList Tryz.prog ops Q (o :: rest) a w := by
 obtain ⟨i0, hi, hz0, hz1, hz2⟩ := info_parts infoEdge
 refine wpList_append_own_at w hgd s x 108 ho base 112 i0 _ 2 16 Tryz.underlying108 hi hz0 hz1 hz2 rfl (by decide) v L.length (ecs L) hs hown ⟨g, 0, none⟩ 1 c1 (ecs [r]) hx rfl ?_ ?_ (by unfold maxLen; omega) (by omega) hbase ?_
 ·intro j u hj
  rw [Go.WideShapes.add_plain]
  match j with
  | 0 => simp [ecs, ec] at hj; subst hj; exact hc.1
  | 1 => simp [ecs, ec] at hj; subst hj; exact hc.2
  | j + 2 => simp [ecs, ec] at hj
 ·intro u hu; simp [ecs, ec] at hu; rcases hu with rfl | rfl <;> rfl
 ·intro v' w' h1 h2 h3 h4
  exact h v' w' (by unfold OwnE; rw [ecs_app] at h1; simpa using h1) h2 h4
theorem DnBox.grown {m : Nat} {d : Dn} {w w' : World} {row : Option Nat} (h : DnBox m d w) (g : w.grownBy w' row) (hn : some m ≠ row) : DnBox m d w' := by
 have hz : m < w.heap.size := World.block_lt_of_cell? w _ h.1
 have C : ∀ j, w'.cell? ⟨m, j, none⟩ = w.cell? ⟨m, j, none⟩ := fun j => g.cell_far ⟨m, j, none⟩ hz hn
 exact ⟨by rw [C]; exact h.1, by rw [C]; exact h.2.1, by rw [C]; exact h.2.2.1, by rw [C]; exact h.2.2.2.1, by rw [C]; exact h.2.2.2.2.1, by rw [C]; exact h.2.2.2.2.2.1, by rw [C]; exact h.2.2.2.2.2.2⟩
theorem cellE (w : World) (a b : Int) (g : Nat) (hg : w.heap.size = g) : (w.alloc (.cells #[.int .i64 a, .int .i64 b] 112)).cell? ⟨g, 0, none⟩ = some (.int .i64 a) ∧ (w.alloc (.cells #[.int .i64 a, .int .i64 b] 112)).cell? ⟨g, 1, none⟩ = some (.int .i64 b) := by subst hg; simp
def edR (d : Nat → Dn) (k : Nat) : Nat → List (Int × Int) | 0 => [] | j + 1 => edR d k j ++ (if ldB (d k) (d j) = true then [((d k).n, (d j).n)] else [])
def edU (d : Nat → Dn) (n : Nat) : Nat → List (Int × Int) | 0 => [] | k + 1 => edU d n k ++ edR d k n
theorem edR_len (d : Nat → Dn) (k : Nat) : ∀ j, (edR d k j).length ≤ j
 | 0 => Nat.le_refl _
 | j + 1 => by
  have h := edR_len d k j
  show (edR d k j ++ _).length ≤ j + 1
  rw [List.length_append]
  split <;> simp <;> omega
theorem edU_len (d : Nat → Dn) (n : Nat) : ∀ k, (edU d n k).length ≤ k * n
 | 0 => Nat.zero_le _
 | k + 1 => by
  have h := edU_len d n k
  have h2 := edR_len d k n
  show (edU d n k ++ _).length ≤ (k + 1) * n
  rw [List.length_append, Nat.succ_mul]
  omega
theorem rtB_64 {d : Nat → Dn} {n : Nat} (h : rtB d n = true) : n ≤ 64 := by
 unfold rtB at h
 rw [Bool.and_eq_true, decide_eq_true_eq] at h
 exact h.1
attribute [local go_sem] run_bits run_frombits run_store_float eqF
set_option maxHeartbeats 8000000 in
theorem edges_any (v : Value) (n : Nat) (d : Nat → Dn) (w : World) (hv : DRow w v n d) :
    Calls Tryz.prog 65 #[v] w fun e w' => ∃ v', e = .returned v' ∧ OwnE w.heap.size w' v' (if rtB d n = true then edU d n n else []) ∧ Old w w' := by
 have HRt := hid (rightH_any v n d w hv)
 have HV := hid hv
 obtain ⟨hm, p, c, rfl, hnc, hcm, hc⟩ := hv
 have HC := hid hc
 have h64 := @rtB_64 d n
 clear hc hm hnc hcm
 cases hr : rtB d n
 ·rw [hr] at HRt
  simp only [Bool.false_eq_true, if_false]
  clear h64 hr
  go_enter Tryz.func65, Tryz.ntmps65
  go_wp2_with (go_at_call 15; refine HRt.out.mono ?_; rintro e w1 ⟨rfl, u1⟩; have U1 := hid u1; clear u1)
  go_ret
  exact ⟨_, rfl, World.ownsRow_nil _ _ _ _, U1.out⟩
 ·have hn64 := h64 hr
  rw [hr] at HRt
  simp only [if_true]
  clear h64 hr
  have l0 : (n : Int) ≤ 64 := by omega
  have HN := hid hn64
  have HEl := hid (edU_len d n)
  have HRl := hid (edR_len d)
  clear hn64
  go_enter Tryz.func65, Tryz.ntmps65
  go_upto_region 3 with (first | (go_at_call 15; refine HRt.out.mono ?_; rintro e w1 ⟨rfl, u1⟩; have U1 := hid u1; clear u1))
  clear HRt
  go_wp2
  go_loopw [3, 13] (fun o i wr => ∃ (k : Nat) (vo : Value), vo = o ∧ k ≤ n ∧ i = .int .i64 (k : Nat) ∧ OwnE w.heap.size wr vo (edU d n k) ∧ Old w wr) (fun _ i _ => n - (intOf i).toNat)
  case atStart => exact ⟨0, _, rfl, Nat.zero_le _, rfl, World.ownsRow_nil _ _ _ _, U1.out⟩
  case round =>
   obtain ⟨k, vo, rfl, hk, rfl, hO, hu⟩ := hrel
   have HO := hid hO
   have HU := hid hu
   clear hO U1
   by_cases hlt : k < n
   ·obtain ⟨g, off, ha, c0, hs⟩ := HC.out k hlt
    subst ha
    obtain ⟨x0, x1, x2, x3, x4, x5, x6⟩ := c0.old hu
    have HSk := hid (fun (W : World) (u : Old w W) => hs.old u)
    have l1 : (0 : Int) ≤ (k : Int) := by omega
    have l2 : (k : Int) < (n : Int) := by omega
    have HSt : Hid (edU d n (k + 1) = edU d n k ++ edR d k n) := rfl
    have HKl := hid (show (edU d n k).length ≤ 4096 from Nat.le_trans (HEl.out k) (by have := HN.out; calc k * n ≤ 64 * 64 := Nat.mul_le_mul (by omega) (by omega)))
    clear c0 hs hu
    go_upto_region 7 with fail
    generalize hw1 : wr.alloc (.cells #[.int .i64 (d k).n, .int .i64 (d k).s.s1, .int .i64 (d k).s.s2, .int .i64 (d k).s.s3, .slice (d k).s.a1 (d k).s.n1 (d k).s.c1, .slice (d k).s.a2 (d k).s.n2 (d k).s.c2, .slice (d k).s.a3 (d k).s.n3 (d k).s.c3] 44) = w2 at *
    obtain ⟨hb1, hu1⟩ := dn_new wr (d k) w2 hw1 _ rfl
    have B2 := hid hb1
    have U2 := hid (HU.out.trans hu1)
    have O2 := hid (HO.out.old hu1)
    have HNe := hid (show ∀ g, vo.ownBlock = some g → g < wr.heap.size from fun g e => (World.ownsRow.lt HO.out g e).2)
    have HSz := hid (show w.heap.size ≤ wr.heap.size from HU.out.size)
    clear hw1 hb1 hu1 x0 x1 x2 x3 x4 x5 x6 HO HU
    generalize wr.heap.size = mb at *
    go_wp2
    go_loopw [3, 19] (fun o i wr => ∃ (j : Nat) (vj : Value), vj = o ∧ j ≤ n ∧ i = .int .i64 (j : Nat) ∧ OwnE w.heap.size wr vj (edU d n k ++ edR d k j) ∧ (∀ g, vj.ownBlock = some g → g ≠ mb) ∧ DnBox mb (d k) wr ∧ Old w wr) (fun _ i _ => n - (intOf i).toNat)
    case atStart => exact ⟨0, _, rfl, Nat.zero_le _, rfl, by show OwnE _ _ _ (edU d n k ++ []); rw [List.append_nil]; exact O2.out, fun g e => by have := HNe.out g e; omega, B2.out, U2.out⟩
    case round =>
     obtain ⟨j, vj, rfl, hj, rfl, hO, hne, hB, hu⟩ := hrel
     have HO := hid hO
     have HU := hid hu
     have HB := hid hB
     have HJn := hid hne
     clear hO hB hne O2 U2 B2
     by_cases hjt : j < n
     ·obtain ⟨g', off', ha', c0, hs⟩ := HC.out j hjt
      cases ha'
      obtain ⟨x0, x1, x2, x3, x4, x5, x6⟩ := c0.old hu
      have m1 : (0 : Int) ≤ (j : Int) := by omega
      have m2 : (j : Int) < (n : Int) := by omega
      have HL := hid (fun (W : World) (u : Old w W) => leads_any (d k) (d j) W (HSk.out W u) (hs.old u))
      have HSj : Hid (edR d k (j + 1) = edR d k j ++ (if ldB (d k) (d j) = true then [((d k).n, (d j).n)] else [])) := rfl
      have HJl := hid (show (edU d n k ++ edR d k j).length + 1 ≤ 1000000 by rw [List.length_append]; have := HKl.out; have := HRl.out k j; have := HN.out; omega)
      clear c0 hs hu HC
      go_upto_region 10 with fail
      generalize hw1 : wr.alloc (.cells #[.int .i64 (d j).n, .int .i64 (d j).s.s1, .int .i64 (d j).s.s2, .int .i64 (d j).s.s3, .slice (d j).s.a1 (d j).s.n1 (d j).s.c1, .slice (d j).s.a2 (d j).s.n2 (d j).s.c2, .slice (d j).s.a3 (d j).s.n3 (d j).s.c3] 44) = w3 at *
      obtain ⟨hb1, hu1⟩ := dn_new wr (d j) w3 hw1 _ rfl
      have B3 := hid hb1
      have A3 := hid (DnBox.old hu1 HB.out)
      have U3 := hid (HU.out.trans hu1)
      have O3 := hid (HO.out.old hu1)
      have HZ3 := hid (show mb < wr.heap.size from World.block_lt_of_cell? wr _ HB.out.1)
      clear hw1 hb1 hu1 x0 x1 x2 x3 x4 x5 x6 HO HU HB
      generalize wr.heap.size = mj at *
      obtain ⟨t0, t1, t2, t3, t4, t5, t6⟩ := A3.out
      obtain ⟨u0, u1, u2, u3, u4, u5, u6⟩ := B3.out
      cases hl : ldB (d k) (d j)
      ·rw [hl] at HL HSj
       simp only [Bool.false_eq_true, if_false, List.append_nil] at HSj
       clear hl
       go_wp2_with (go_at_call 96; refine (HL.out _ U3.out).mono ?_; rintro e w4 ⟨rfl, v4⟩; have U4 := hid (U3.out.trans v4); have O4 := hid (O3.out.old v4); have A4 := hid (DnBox.old v4 A3.out); clear v4)
       go_roundw
       case rel => exact ⟨j + 1, _, rfl, hjt, by go_num, by rw [HSj.out]; exact O4.out, HJn.out, A4.out, U4.out⟩
       case measure => simp [intOf]; omega
      ·rw [hl] at HL HSj
       simp only [if_true] at HSj
       clear hl
       go_upto_region 11 with (go_at_call 96; refine (HL.out _ U3.out).mono ?_; rintro e w4 ⟨rfl, v4⟩; have U4 := hid (U3.out.trans v4); have O4 := hid (O3.out.old v4); have A4 := hid (DnBox.old v4 A3.out); have B4 := hid (DnBox.old v4 B3.out); have Z4 := hid (show mb < w4.heap.size from World.block_lt_of_cell? w4 _ (DnBox.old v4 A3.out).1); clear v4)
       clear t0 t1 t2 t3 t4 t5 t6 u0 u1 u2 u3 u4 u5 u6
       obtain ⟨t0, t1, t2, t3, t4, t5, t6⟩ := A4.out
       obtain ⟨u0, u1, u2, u3, u4, u5, u6⟩ := B4.out
       go_wp2_with (first | (at_builtin; refine wp_appE rfl (.tmp 26) (.tmp 32) rfl w.heap.size vj (edU d n k ++ edR d k j) ((d k).n, (d j).n) _ 1 rfl rfl (O4.out.old ((Old.refl _).alloc _)) (cellE _ _ _ _ (by simp)) (by have := HJl.out; omega) (by have := U4.out.size; simp; omega) ?_; intro v8 w8 o8 g8 lo8; have O8 := hid o8; have A8 := hid ((DnBox.old ((Old.refl _).alloc _) A4.out).grown g8 (fun e => HJn.out _ e.symm rfl)); have V8 := hid (show Old w w8 from Below.grown (U4.out.alloc _) g8 (by have := U4.out.size; simp; omega) (fun q e => (World.ownsRow.lt O4.out q e).1)); have N8 := hid (show ∀ q, v8.ownBlock = some q → q ≠ mb from fun q e => by rcases lo8 with h | h; exact HJn.out q (by rw [← h]; exact e); (have := Z4.out; rw [h] at e; simp at e; omega)); clear o8 g8 lo8))
       go_roundw
       case rel => exact ⟨j + 1, _, rfl, hjt, by go_num, by rw [HSj.out, ← List.append_assoc]; exact O8.out, N8.out, A8.out, V8.out⟩
       case measure => simp [intOf]; omega
     ·obtain rfl : j = n := by omega
      go_wp2
      go_roundw
      case rel => exact ⟨k + 1, _, rfl, hlt, by go_num, by rw [HSt.out]; exact HO.out, HU.out⟩
      case measure => simp [intOf]; omega
   ·obtain rfl : k = n := by omega
    go_wp2
    go_ret
    exact ⟨_, rfl, HO.out, HU.out⟩
end Go.Proofs.YtgeinnaljlajoaaGreat
namespace Go.Proofs.YtgeinnaljlajoaaGreat
open Go.RowKit Go.Lib
set_option linter.unusedVariables false
set_option linter.unusedSimpArgs false
set_option maxRecDepth 20000
def WRow (w : World) (g : Nat) (W : List Int) (t : TypeId) : Prop := w.heap[g]? = some (.cells (W.map fun x => Value.int .i64 x).toArray t (0, 0))
theorem WRow.cell {w : World} {g : Nat} {W : List Int} {t : TypeId} (h : WRow w g W t) (i : Nat) (hi : i < W.length) : w.cell? ⟨g, i, none⟩ = some (.int .i64 (W.getD i 0)) ∧ w.frozen? ⟨g, i, none⟩ = false := by
 unfold WRow at h
 refine ⟨?_, by simp [World.frozen?, h]⟩
 simp [World.cell?, h, hi]
theorem WRow.lt {w : World} {g : Nat} {W : List Int} {t : TypeId} (h : WRow w g W t) : g < w.heap.size := lt_of_block h
theorem WRow.set {w : World} {g : Nat} {W : List Int} {t : TypeId} (h : WRow w g W t) (i : Nat) (x : Int) : WRow (w.setCell ⟨g, i, none⟩ (.int .i64 x)) g (W.set i x) t := by
 have q := heap_setCell_same w g i _ _ (.int .i64 x) h
 unfold WRow
 rw [q]
 congr 2
 simp
theorem WRow.old {w w' : World} {g : Nat} {W : List Int} {t : TypeId} (h : WRow w g W t) (u : Old w w') : WRow w' g W t := (u.block g h.lt).trans h
theorem WRow.grown {w w' : World} {g : Nat} {W : List Int} {t : TypeId} {row : Option Nat} (h : WRow w g W t) (k : w.grownBy w' row) (hn : some g ≠ row) : WRow w' g W t := (k.block g h.lt hn).trans h
theorem WRow.other {w : World} {g m o : Nat} {W : List Int} {t : TypeId} (h : WRow w g W t) (hn : m ≠ g) (v : Value) : WRow (w.setCell ⟨m, o, none⟩ v) g W t := (Below.heap_setCell w ⟨m, o, none⟩ v g (fun e => hn e.symm)).trans h
theorem infoInt1 : (Tryz.prog.info? 3).map (fun i => (i.zero, i.size, i.bytes)) = some (some (.int .i64 0), 1, 8) := by kernel_rfl
theorem infoInt2 : (Tryz.prog.info? 2).map (fun i => (i.zero, i.size, i.bytes)) = some (some (.int .i64 0), 1, 8) := by kernel_rfl
theorem mkI (n : Nat) (hn : n ≤ 1000000) (w : World) : (Instr.makeSlice 110 (.int .i64 (n : Int)) (.int .i64 (n : Int))).run Tryz.prog w = .ok (.slice (some ⟨w.heap.size, 0, none⟩) n n) (w.alloc (.cells (madeCells #[.int .i64 0] n) 3)) := by
 obtain ⟨i0, hi, hz0, hz1, hz2⟩ := info_parts infoInt1
 have q := run_make (P := Tryz.prog) w 110 3 i0 _ Tryz.underlying110 hi hz0 .i64 .i64 n n (by omega) (Int.le_refl _) (by rw [hz2]; omega) (by omega)
 rw [hz1] at q
 simp only [Int.toNat_natCast, Nat.mul_one] at q
 exact q
theorem mkL (n : Nat) (hn : n ≤ 1000000) (w : World) : (Instr.makeSlice 45 (.int .i64 (n : Int)) (.int .i64 (n : Int))).run Tryz.prog w = .ok (.slice (some ⟨w.heap.size, 0, none⟩) n n) (w.alloc (.cells (madeCells #[.int .i64 0] n) 2)) := by
 obtain ⟨i0, hi, hz0, hz1, hz2⟩ := info_parts infoInt2
 have q := run_make (P := Tryz.prog) w 45 2 i0 _ Tryz.underlying45 hi hz0 .i64 .i64 n n (by omega) (Int.le_refl _) (by rw [hz2]; omega) (by omega)
 rw [hz1] at q
 simp only [Int.toNat_natCast, Nat.mul_one] at q
 exact q
theorem WRow.new (w : World) (n : Nat) (t : TypeId) (w1 : World) (e : w.alloc (.cells (madeCells #[.int .i64 0] n) t) = w1) (g : Nat) (hg : w.heap.size = g) : WRow w1 g (List.replicate n 0) t ∧ Old w w1 := by
 subst e hg
 refine ⟨?_, (Old.refl w).alloc _⟩
 unfold WRow
 have q := heap_new w (.cells (madeCells #[.int .i64 0] n) t)
 rw [q]
 congr 2
 apply Array.ext
 ·simp [madeCells]
 ·intro i h1 h2
  simp [madeCells]
  have : i % 1 = 0 := by omega
  simp [this]
def toN (e : Int × Int) : Nat := (e.2 - 1).toNat
def cntW : List (Int × Int) → List Int → List Int
 | [], W => W
 | e :: t, W => cntW t (W.set (toN e) (W.getD (toN e) 0 + 1))
def decW (x : Int) : List (Int × Int) → List Int → List Int
 | [], W => W
 | e :: t, W => decW x t (if e.1 = x then W.set (toN e) (W.getD (toN e) 0 - 1) else W)
theorem cntW_len : ∀ (E : List (Int × Int)) (W : List Int), (cntW E W).length = W.length
 | [], W => rfl
 | e :: t, W => by show (cntW t _).length = _; rw [cntW_len t, List.length_set]
theorem decW_len (x : Int) : ∀ (E : List (Int × Int)) (W : List Int), (decW x E W).length = W.length
 | [], W => rfl
 | e :: t, W => by show (decW x t _).length = _; rw [decW_len x t]; split <;> simp
def idx0 : List Int → Option Nat
 | [] => none
 | x :: t => if x = 0 then some 0 else (idx0 t).map (· + 1)
def ils (L : List Int) : List Value := L.map fun b => .int .i64 b
theorem ils_app (L M : List Int) : ils L ++ ils M = ils (L ++ M) := by simp [ils]
theorem infoI64 : (Tryz.prog.info? 2).map (fun i => (i.zero, i.size, i.bytes)) = some (some (.int .i64 0), 1, 8) := by kernel_rfl
def OwnN (base : Nat) (w : World) (v : Value) (L : List Int) : Prop := w.ownsRow base 2 1 v L.length (ils L)
theorem OwnN.up {base : Nat} {w w' : World} {v : Value} {L : List Int} (h : OwnN base w v L) (u : Old w w') : OwnN base w' v L := by
 refine ⟨h.1, ?_⟩
 rcases h.2 with e | ⟨g, cap, cur, e, hb', hg, r⟩
 ·exact .inl e
 ·exact .inr ⟨g, cap, cur, e, hb', by rw [u.block g (lt_of_block hg)]; exact hg, r⟩
theorem OwnN.shape {base : Nat} {w : World} {v : Value} {L : List Int} (h : OwnN base w v L) (hn : 0 < L.length) :
    ∃ g cap, v = .slice (some ⟨g, 0, none⟩) L.length cap ∧ base ≤ g ∧ g < w.heap.size ∧ ∀ i (hi : i < L.length), w.cell? ⟨g, i, none⟩ = some (.int .i64 L[i]) := by
 have h2 := h
 unfold OwnN at h2
 rcases h2.2 with ⟨_, e⟩ | ⟨g, cap, cur, rfl, hb, hg, hnc, hcm, hcs, htk⟩
 ·omega
 ·refine ⟨g, cap, rfl, hb, lt_of_block hg, fun i hi => ?_⟩
  rw [h2.cellAt i (by omega)]
  simp [ils, hi]
theorem wp_appN {ops : Array Oper} {rest : List Oper} {o : Oper} {a : Act} {Q : Exit → Act → World → Prop} {w : World} (hgd : o.guard = none) (s x : Operand)
    (ho : o.op = .call { callee := .builtin .append, args := #[s, x], argTypes := #[45, 45] }) (base : Nat) (v : Value) (L : List Int) (g c1 : Nat) (y : Int)
    (hs : a.eval s = v) (hx : a.eval x = .slice (some ⟨g, 0, none⟩) 1 c1) (hown : OwnN base w v L) (hc : w.cell? ⟨g, 0, none⟩ = some (.int .i64 y)) (hb : L.length + 1 ≤ 1000000) (hbase : base ≤ w.heap.size)
    (h : ∀ v' w', OwnN base w' v' (L ++ [y]) → w.grownBy w' v.ownBlock → wpList Tryz.prog ops Q rest (a.put o.dst v') w') : wpList Tryz.prog ops Q (o :: rest) a w := by
 obtain ⟨i0, hi, hz0, hz1, hz2⟩ := info_parts infoI64
 refine wpList_append_own w hgd s x 45 ho base 2 i0 _ 1 8 Tryz.underlying45 hi hz0 hz1 hz2 rfl (by decide) v L.length (ils L) hs hown ⟨g, 0, none⟩ 1 c1 (ils [y]) hx rfl ?_ ?_ (by unfold maxLen; omega) (by omega) hbase ?_
 ·intro j u hj
  match j with
  | 0 => simp [ils] at hj; subst hj; rw [Go.WideShapes.add_plain]; exact hc
  | j + 1 => simp [ils] at hj
 ·intro u hu; simp [ils] at hu; subst hu; rfl
 ·intro v' w' h1 h2 h3
  exact h v' w' (by unfold OwnN; rw [ils_app] at h1; simpa using h1) h2
theorem cell_oneN (w : World) (y : Int) (g : Nat) (hg : w.heap.size = g) : (w.alloc (.cells #[.int .i64 y] 2)).cell? ⟨g, 0, none⟩ = some (.int .i64 y) := by subst hg; simp
theorem ecs_at : ∀ (L : List (Int × Int)) (i : Nat) (hi : i < L.length), (ecs L)[i * 2]? = some (.int .i64 L[i].1) ∧ (ecs L)[i * 2 + 1]? = some (.int .i64 L[i].2)
 | [], i, hi => by simp at hi
 | e :: t, 0, hi => ⟨rfl, rfl⟩
 | e :: t, i + 1, hi => by
  have q := ecs_at t i (by simpa using hi)
  have e1 : ecs (e :: t) = .int .i64 e.1 :: .int .i64 e.2 :: ecs t := rfl
  rw [e1, show (i + 1) * 2 = i * 2 + 1 + 1 by omega]
  simpa using q
theorem OwnN.len {base : Nat} {w : World} {v : Value} {L : List Int} (h : OwnN base w v L) : ∃ a c, v = .slice a L.length c := by
 rcases h.2 with ⟨rfl, e⟩ | ⟨g, cap, cur, rfl, _⟩
 ·exact ⟨none, 0, by rw [e]⟩
 ·exact ⟨_, _, rfl⟩
theorem OwnN.mono {base b' : Nat} {w : World} {v : Value} {L : List Int} (h : OwnN base w v L) (hb : b' ≤ base) : OwnN b' w v L := by
 refine ⟨h.1, ?_⟩
 rcases h.2 with e | ⟨g, cap, cur, e, hb', r⟩
 ·exact .inl e
 ·exact .inr ⟨g, cap, cur, e, by omega, r⟩
theorem own_far {base : Nat} {t : TypeId} {c n : Nat} {W : World} {v u : Value} {vs : List Value} {a : Addr} (h : W.ownsRow base t c v n vs) (ha : a.block < base) : (W.setCell a u).ownsRow base t c v n vs := by
 refine ⟨h.1, ?_⟩
 rcases h.2 with e | ⟨g, cap, cur, e, hb', hg, r⟩
 ·exact .inl e
 ·exact .inr ⟨g, cap, cur, e, hb', by rw [Below.heap_setCell W a u g (fun q => by omega)]; exact hg, r⟩
theorem OwnE.shape {base : Nat} {w : World} {v : Value} {L : List (Int × Int)} (h : OwnE base w v L) : ∃ p c, v = .slice p L.length c ∧ ∀ i (hi : i < L.length), ∃ g, p = some ⟨g, 0, none⟩ ∧ w.cell? ⟨g, i * 2, none⟩ = some (.int .i64 L[i].1) ∧ w.cell? ⟨g, i * 2 + 1, none⟩ = some (.int .i64 L[i].2) := by
 have h2 := h
 unfold OwnE at h2
 rcases h2.2 with ⟨e1, e⟩ | ⟨g, cap, cur, rfl, hb, hg, hnc, hcm, hcs, htk⟩
 ·exact ⟨none, 0, by rw [e1, e], fun i hi => by omega⟩
 ·refine ⟨_, cap, rfl, fun i hi => ⟨g, rfl, ?_, ?_⟩⟩
  ·rw [h2.cellAt (i * 2) (by omega)]; exact (ecs_at L i hi).1
  ·rw [h2.cellAt (i * 2 + 1) (by omega)]; exact (ecs_at L i hi).2
theorem idx0_some : ∀ (W : List Int) (k : Nat), k < W.length → (∀ i, i < k → W.getD i 0 ≠ 0) → W.getD k 0 = 0 → idx0 W = some k
 | [], k, hk, _, _ => by simp at hk
 | x :: t, 0, _, _, h => by
  have h' : x = 0 := h
  unfold idx0; rw [if_pos h']
 | x :: t, k + 1, hk, hp, h => by
  have h0 : x ≠ 0 := hp 0 (by omega)
  unfold idx0
  rw [if_neg h0, idx0_some t k (by simpa using hk) (fun i hi => hp (i + 1) (by omega)) h]
  rfl
theorem idx0_none : ∀ (W : List Int), (∀ i, i < W.length → W.getD i 0 ≠ 0) → idx0 W = none
 | [], _ => rfl
 | x :: t, hp => by
  have h0 : x ≠ 0 := hp 0 (by simp)
  unfold idx0
  rw [if_neg h0, idx0_none t (fun i hi => hp (i + 1) (by simpa using hi))]
  rfl
theorem idx0_spec : ∀ (W : List Int) (k : Nat), idx0 W = some k → k < W.length ∧ W.getD k 0 = 0
 | [], k, h => by cases h
 | x :: t, k, h => by
  unfold idx0 at h
  split at h
  ·rename_i q; cases h; exact ⟨by simp, q⟩
  ·cases e : idx0 t with
   | none => rw [e] at h; cases h
   | some j =>
    rw [e] at h
    cases h
    have q := idx0_spec t j e
    exact ⟨by simpa using q.1, q.2⟩
def meas : List Int → Nat
 | [] => 0
 | x :: t => (x + 1).toNat + meas t
theorem meas_set : ∀ (W : List Int) (i : Nat) (y : Int), i < W.length → meas (W.set i y) + (W.getD i 0 + 1).toNat = meas W + (y + 1).toNat
 | [], i, y, h => by simp at h
 | x :: t, 0, y, _ => by
  show (y + 1).toNat + meas t + (x + 1).toNat = (x + 1).toNat + meas t + (y + 1).toNat
  omega
 | x :: t, i + 1, y, h => by
  have q := meas_set t i y (by simpa using h)
  show (x + 1).toNat + meas (t.set i y) + (t.getD i 0 + 1).toNat = (x + 1).toNat + meas t + (y + 1).toNat
  omega
theorem set_out {W : List Int} {i : Nat} {y : Int} (h : W.length ≤ i) : W.set i y = W := List.set_eq_of_length_le h
theorem meas_dec (W : List Int) (i : Nat) : meas (W.set i (W.getD i 0 - 1)) ≤ meas W := by
 by_cases h : i < W.length
 ·have := meas_set W i (W.getD i 0 - 1) h; omega
 ·rw [set_out (by omega)]; exact Nat.le_refl _
theorem meas_inc (W : List Int) (i : Nat) : meas (W.set i (W.getD i 0 + 1)) ≤ meas W + 1 := by
 by_cases h : i < W.length
 ·have := meas_set W i (W.getD i 0 + 1) h; omega
 ·rw [set_out (by omega)]; omega
theorem meas_decW (x : Int) : ∀ (E : List (Int × Int)) (W : List Int), meas (decW x E W) ≤ meas W
 | [], W => Nat.le_refl _
 | e :: t, W => by
  show meas (decW x t _) ≤ _
  refine Nat.le_trans (meas_decW x t _) ?_
  split
  ·exact meas_dec _ _
  ·exact Nat.le_refl _
theorem meas_cntW : ∀ (E : List (Int × Int)) (W : List Int), meas (cntW E W) ≤ meas W + E.length
 | [], W => Nat.le_refl _
 | e :: t, W => by
  have := meas_cntW t (W.set (toN e) (W.getD (toN e) 0 + 1))
  have := meas_inc W (toN e)
  show meas (cntW t _) ≤ _
  simp only [List.length_cons]
  omega
theorem meas_zero : ∀ n, meas (List.replicate n 0) = n
 | 0 => rfl
 | n + 1 => by rw [List.replicate_succ]; show (0 + 1 : Int).toNat + meas _ = _; rw [meas_zero n]; omega
theorem cntW_snoc : ∀ (E : List (Int × Int)) (e : Int × Int) (W : List Int), cntW (E ++ [e]) W = (cntW E W).set (toN e) ((cntW E W).getD (toN e) 0 + 1)
 | [], e, W => rfl
 | a :: t, e, W => cntW_snoc t e _
theorem decW_snoc (x : Int) : ∀ (E : List (Int × Int)) (e : Int × Int) (W : List Int), decW x (E ++ [e]) W = if e.1 = x then (decW x E W).set (toN e) ((decW x E W).getD (toN e) 0 - 1) else decW x E W
 | [], e, W => rfl
 | a :: t, e, W => decW_snoc x t e _
def Near (W : List Int) (b : Int) : Prop := ∀ i, -b ≤ W.getD i 0 ∧ W.getD i 0 ≤ b
theorem Near.set {W : List Int} {b : Int} (h : Near W b) (i : Nat) (y c : Int) (hb : b ≤ c) (hy : -c ≤ y ∧ y ≤ c) : Near (W.set i y) c := by
 intro j
 have q := h j
 by_cases e : i = j
 ·subst e
  by_cases hi : i < W.length
  ·rw [List.getD_eq_getElem?_getD, List.getElem?_set_self hi]; exact hy
  ·rw [set_out (by omega)]; omega
 ·rw [List.getD_eq_getElem?_getD, List.getElem?_set_ne e, ← List.getD_eq_getElem?_getD]; omega
def lineF (d : Nat → Dn) (E : List (Int × Int)) : Nat → List Int → List Int → List Int × List Int
 | 0, C, W => (C, W)
 | f + 1, C, W => match idx0 W with
  | none => (C, W)
  | some i => lineF d E f (C ++ [(d i).n]) (decW (d i).n E (W.set i (-1)))
def stkF (d : Nat → Dn) (W : List Int) : Nat → List Int
 | 0 => []
 | k + 1 => stkF d W k ++ (if W.getD k 0 = -1 then [] else [(d k).n])
theorem stkF_len (d : Nat → Dn) (W : List Int) : ∀ k, (stkF d W k).length ≤ k
 | 0 => Nat.le_refl _
 | k + 1 => by
  have := stkF_len d W k
  show (stkF d W k ++ _).length ≤ k + 1
  rw [List.length_append]
  split <;> simp <;> omega
theorem okU_num {d : Nat → Dn} : ∀ {n : Nat}, okU d n = true → ∀ i, i < n → (d i).n = (i : Int) + 1
 | 0, _, i, hi => by omega
 | n + 1, h, i, hi => by
  have h' : (okU d n && okB d n) = true := h
  rw [Bool.and_eq_true] at h'
  by_cases e : i = n
  ·subst e
   have q := h'.2
   unfold okB at q
   rw [Bool.and_eq_true, decide_eq_true_eq] at q
   exact q.1
  ·exact okU_num h'.1 i (by omega)
theorem edR_rng {d : Nat → Dn} {n : Nat} (h : ∀ i, i < n → (d i).n = (i : Int) + 1) (k : Nat) (hk : k < n) : ∀ j, j ≤ n → ∀ e ∈ edR d k j, (1 ≤ e.1 ∧ e.1 ≤ n) ∧ 1 ≤ e.2 ∧ e.2 ≤ n
 | 0, _, e, he => by cases he
 | j + 1, hj, e, he => by
  have h' : e ∈ edR d k j ++ (if ldB (d k) (d j) = true then [((d k).n, (d j).n)] else []) := he
  rcases List.mem_append.1 h' with q | q
  ·exact edR_rng h k hk j (by omega) e q
  ·split at q
   ·simp at q; subst q
    have a := h k hk
    have b := h j (by omega)
    simp only
    omega
   ·cases q
theorem edU_rng {d : Nat → Dn} {n : Nat} (h : ∀ i, i < n → (d i).n = (i : Int) + 1) : ∀ k, k ≤ n → ∀ e ∈ edU d n k, (1 ≤ e.1 ∧ e.1 ≤ n) ∧ 1 ≤ e.2 ∧ e.2 ≤ n
 | 0, _, e, he => by cases he
 | k + 1, hk, e, he => by
  have h' : e ∈ edU d n k ++ edR d k n := he
  rcases List.mem_append.1 h' with q | q
  ·exact edU_rng h k (by omega) e q
  ·exact edR_rng h k (by omega) n (Nat.le_refl _) e q
end Go.Proofs.YtgeinnaljlajoaaGreat
namespace Go.Proofs.YtgeinnaljlajoaaGreat
open Go.RowKit Go.Lib
set_option linter.unusedVariables false
set_option linter.unusedSimpArgs false
set_option maxRecDepth 20000
def lenV : Value → Nat | .slice _ n _ => n | _ => 0
def idxI (W : List Int) : Int := match idx0 W with | none => -1 | some i => (i : Int)
theorem wrap_small (x : Int) (h : -1000000000 ≤ x ∧ x ≤ 1000000000) : IntKind.i64.wrap x = x := by simp [IntKind.wrap, IntKind.bits, IntKind.signed]; omega
theorem take_one {α : Type} (E : List α) (k : Nat) (h : k < E.length) : E.take (k + 1) = E.take k ++ [E[k]] := by
 rw [List.take_add_one, List.getElem?_eq_getElem h]; rfl
theorem take_get (E : List (Int × Int)) (k : Nat) (h : k < E.length) : E.take (k + 1) = E.take k ++ [E.getD k (0, 0)] := by
 rw [take_one E k h]; simp [List.getD_eq_getElem?_getD, h]
theorem mem_get (E : List (Int × Int)) (k : Nat) (h : k < E.length) : E.getD k (0, 0) ∈ E := by
 have e : E.getD k (0, 0) = E[k] := by simp [List.getD_eq_getElem?_getD, h]
 rw [e]; exact List.getElem_mem h
theorem edge_new (w : World) (a b : Int) (w1 : World) (e : w.alloc (.cells #[.int .i64 a, .int .i64 b] 112) = w1) (m : Nat) (hm : w.heap.size = m) : (w1.cell? ⟨m, 0, none⟩ = some (.int .i64 a) ∧ w1.cell? ⟨m, 1, none⟩ = some (.int .i64 b)) ∧ Old w w1 := by
 subst e hm
 exact ⟨⟨by simp, by simp⟩, (Old.refl w).alloc _⟩
attribute [local go_sem] run_bits run_frombits run_store_float eqF
set_option maxHeartbeats 400000 in
theorem index_w (gw n : Nat) (W : List Int) (hl : W.length = n) (hn : n ≤ 1000) (w : World) (h : WRow w gw W 3) :
    Calls Tryz.prog 66 #[.slice (some ⟨gw, 0, none⟩) n n, .int .i64 0] w fun e w' => e = .returned (.int .i64 (idxI W)) ∧ Old w w' := by
 have HC := hid (fun i hi => (h.cell i hi).1)
 have HS := hid (idx0_some W)
 have HN := hid (idx0_none W)
 have HI : Hid (idxI W = match idx0 W with | none => -1 | some i => (i : Int)) := rfl
 have hmm : (n : Int) ≤ 1000 := by omega
 generalize idxI W = r at *
 clear h
 go_enter Tryz.func66, Tryz.ntmps66
 go_wp2
 go_loopw [8] (fun i wr => ∃ k : Nat, k ≤ n ∧ i = .int .i64 (k : Nat) ∧ (∀ i, i < k → W.getD i 0 ≠ 0) ∧ Old w wr) (fun i _ => n - (intOf i).toNat)
 case atStart => exact ⟨0, Nat.zero_le _, rfl, fun i hi => by omega, Old.refl _⟩
 case round =>
  obtain ⟨k, hk, rfl, h0, hu⟩ := hrel
  have H0 := hid h0
  clear h0
  by_cases hlt : k < n
  ·have c0 := hu.keep (HC.out k (by omega))
   have l1 : (0 : Int) ≤ (k : Int) := by omega
   have l2 : (k : Int) < (n : Int) := by omega
   by_cases hz : W.getD k 0 = 0
   ·have HR := hid (show r = (k : Int) from by rw [HI.out, HS.out k (by omega) H0.out hz])
    rw [hz] at c0
    clear HI HS HN HC hz H0
    go_wp2
    go_ret
    exact ⟨by rw [HR.out]; rfl, hu⟩
   ·have HX := hid (show ∀ i, i < k + 1 → W.getD i 0 ≠ 0 from fun i hi => by by_cases e : i = k; (subst e; exact hz); exact H0.out i (by omega))
    generalize W.getD k 0 = x at *
    have hz2 : ((0 : Int) == x) = false := by rw [beq_eq_false_iff_ne]; exact fun e => hz e.symm
    clear HI HS HN HC H0
    go_wp2
    go_roundw
    case rel => exact ⟨k + 1, hlt, by go_num, HX.out, hu⟩
    case measure => simp [intOf]; omega
  ·obtain rfl : k = n := by omega
   have HR := hid (show r = -1 from by rw [HI.out, HN.out (fun i hi => H0.out i (by omega))])
   clear HI HS HN HC H0
   go_wp2
   go_ret
   exact ⟨by rw [HR.out]; rfl, hu⟩
set_option maxHeartbeats 16000000 in
theorem line_any (v : Value) (n : Nat) (d : Nat → Dn) (w : World) (hv : DRow w v n d) (hr : rtB d n = true) (E : List (Int × Int)) (hE0 : E = edU d n n) (CW : List Int × List Int) (hCW : CW = lineF d E (n + E.length) [] (cntW E (List.replicate n 0))) :
    Calls Tryz.prog 36 #[v] w fun e w' => ∃ vc vs, e = .returned (.tuple #[vc, vs]) ∧ OwnN w.heap.size w' vc CW.1 ∧ OwnN w.heap.size w' vs (stkF d CW.2 n) ∧ Old w w' := by
 have hq := edges_any v n d w hv
 rw [hr] at hq
 simp only [if_true] at hq
 rw [← hE0] at hq
 have HEd := hid hq
 clear hq
 have hn64 := rtB_64 hr
 have hnum : ∀ i, i < n → (d i).n = (i : Int) + 1 := by
  unfold rtB at hr
  rw [Bool.and_eq_true] at hr
  exact okU_num hr.2
 have HRg := hid (show ∀ e ∈ E, (1 ≤ e.1 ∧ e.1 ≤ n) ∧ 1 ≤ e.2 ∧ e.2 ≤ n from by rw [hE0]; exact edU_rng hnum n (Nat.le_refl _))
 have hel : E.length ≤ 4096 := by rw [hE0]; exact Nat.le_trans (edU_len d n n) (by calc n * n ≤ 64 * 64 := Nat.mul_le_mul hn64 hn64)
 have HNum := hid hnum
 have HV := hid hv
 obtain ⟨hm, p, c, rfl, hnc, hcm, hc⟩ := hv
 have HC := hid hc
 have HCW := hid hCW
 have l0 : (n : Int) ≤ 64 := by omega
 have le0 : (E.length : Int) ≤ 4096 := by omega
 have hmk := fun W => mkI n (by omega) W
 clear hc hr hE0 hnum hCW hm hnc hcm
 go_enter Tryz.func36, Tryz.ntmps36
 go_upto_region 2 with (first | (go_at_call 65; refine HEd.out.mono ?_; rintro e w1 ⟨ve, rfl, o1, u1⟩; have U1 := hid u1; obtain ⟨pe, ce, hve, hce⟩ := OwnE.shape o1; subst hve; have HCe := hid (show ∀ i, i < E.length → ∃ g, pe = some ⟨g, 0, none⟩ ∧ w1.cell? ⟨g, i * 2, none⟩ = some (.int .i64 (E.getD i (0, 0)).1) ∧ w1.cell? ⟨g, i * 2 + 1, none⟩ = some (.int .i64 (E.getD i (0, 0)).2) from fun i hi => by have q := hce i hi; have e : E.getD i (0, 0) = E[i] := (by simp [List.getD_eq_getElem?_getD, hi]); rw [e]; exact q); clear o1 u1 hce))
 clear HEd
 go_upto_region 3 with fail
 clear hmk
 generalize hw2 : w1.alloc (.cells (madeCells #[.int .i64 0] n) 3) = w2 at *
 generalize hgw : w1.heap.size = gw at *
 obtain ⟨hR2, hU2⟩ := WRow.new w1 n 3 w2 hw2 gw hgw
 have R2 := hid hR2
 have U2 := hid hU2
 have HGW := hid hgw
 clear hw2 hgw hR2 hU2
 generalize hEL : E.length = EL at *
 have HEL := hid hEL
 clear hEL
 go_wp2
 go_loopw [21] (fun i wr => ∃ k : Nat, k ≤ EL ∧ i = .int .i64 (k : Nat) ∧ WRow wr gw (cntW (E.take k) (List.replicate n 0)) 3 ∧ Near (cntW (E.take k) (List.replicate n 0)) k ∧ Old w1 wr) (fun i _ => EL - (intOf i).toNat)
 case atStart => exact ⟨0, Nat.zero_le _, rfl, R2.out, fun i => by simp [cntW, List.getD_eq_getElem?_getD, List.getElem?_replicate]; split <;> simp, U2.out⟩
 case round =>
  obtain ⟨k, hk, rfl, hR, hNr, hu⟩ := hrel
  have R := hid hR
  have U := hid hu
  clear hR hu R2 U2
  by_cases hlt : k < EL
  ·obtain ⟨ge, epe, c0, c1⟩ := HCe.out k (by omega)
   subst epe
   have x0 := U.out.keep c0
   have x1 := U.out.keep c1
   have rg := HRg.out _ (mem_get E k (by have := HEL.out; omega))
   have HSn := hid (show cntW (E.take (k + 1)) (List.replicate n 0) = (cntW (E.take k) (List.replicate n 0)).set (toN (E.getD k (0, 0))) ((cntW (E.take k) (List.replicate n 0)).getD (toN (E.getD k (0, 0))) 0 + 1) from by rw [take_get E k (by have := HEL.out; omega), cntW_snoc])
   have hWl : (cntW (E.take k) (List.replicate n 0)).length = n := by rw [cntW_len, List.length_replicate]
   generalize cntW (E.take k) (List.replicate n 0) = W at *
   obtain ⟨t, ht⟩ : ∃ t : Nat, (E.getD k (0, 0)).2 = (t : Int) + 1 := ⟨((E.getD k (0, 0)).2 - 1).toNat, by omega⟩
   have htn : toN (E.getD k (0, 0)) = t := by unfold toN; rw [ht]; omega
   rw [htn] at HSn
   rw [ht] at x1
   have tlt : t < n := by omega
   generalize (E.getD k (0, 0)).1 = ea at *
   clear c0 c1 rg ht htn
   have l1 : (0 : Int) ≤ (k : Int) := by omega
   have l2 : (k : Int) < (EL : Int) := by omega
   have l3 : (0 : Int) ≤ (t : Int) := by omega
   have l4 : (t : Int) < (n : Int) := by omega
   have hb := hNr t
   have hwr : IntKind.i64.wrap (W.getD t 0 + 1) = W.getD t 0 + 1 := wrap_small _ (by omega)
   have HNx := hid (hNr.set t (W.getD t 0 + 1) ((k + 1 : Nat) : Int) (by omega) ⟨by omega, by omega⟩)
   have HWl := hid hWl
   clear hNr hb hWl
   go_upto_region 6 with fail
   generalize hw3 : wr.alloc (.cells #[.int .i64 ea, .int .i64 ((t : Int) + 1)] 112) = w3 at *
   generalize hbx : wr.heap.size = bx at *
   obtain ⟨⟨y0, y1⟩, v3⟩ := edge_new wr ea _ w3 hw3 bx hbx
   have R3 := hid (R.out.old v3)
   have U3 := hid (U.out.trans v3)
   obtain ⟨z0, z1⟩ := R3.out.cell t (by have := HWl.out; omega)
   have HGl := hid (show w1.heap.size ≤ gw by have := HGW.out; omega)
   clear hw3 hbx v3 x0 x1 R U
   generalize W.getD t 0 = xx at *
   go_wp2
   go_roundw
   case rel => exact ⟨k + 1, hlt, by go_num, by rw [HSn.out]; exact R3.out.set t _, by rw [HSn.out]; exact HNx.out, U3.out.setCell (p := ⟨gw, t, none⟩) HGl.out _⟩
   case measure => simp [intOf]; omega
  ·obtain rfl : k = EL := by omega
   have hfull : E.take k = E := List.take_of_length_le (by have := HEL.out; omega)
   rw [hfull] at R hNr
   have hWl : (cntW E (List.replicate n 0)).length = n := by rw [cntW_len, List.length_replicate]
   have hms : meas (cntW E (List.replicate n 0)) ≤ n + k := by have := meas_cntW E (List.replicate n 0); rw [meas_zero] at this; have := HEL.out; omega
   generalize cntW E (List.replicate n 0) = W0 at *
   have HI := hid (show W0.length = n ∧ meas W0 ≤ n + k ∧ Near W0 k from ⟨hWl, hms, hNr⟩)
   clear hfull hWl hms hNr hlt
   go_wp2
   go_loopw [2] (fun o wr => ∃ (f : Nat) (C W : List Int) (vc : Value), vc = o ∧ W.length = n ∧ f + C.length = n + k ∧ meas W ≤ f ∧ CW = lineF d E f C W ∧ OwnN (gw + 1) wr vc C ∧ WRow wr gw W 3 ∧ Near W (k + 4097 * C.length) ∧ Old w1 wr) (fun o _ => n + k - lenV o)
   case atStart => exact ⟨n + k, [], W0, _, rfl, HI.out.1, rfl, HI.out.2.1, HCW.out, World.ownsRow_nil _ _ _ _, R.out, by simpa using HI.out.2.2, U.out⟩
   case round =>
    obtain ⟨f, C, W, vc, rfl, hWl, hf, hms, hL, hO, hR, hNr, hu⟩ := hrel
    have HO := hid hO
    have RR := hid hR
    have UU := hid hu
    have HLi := hid hL
    have HIx := hid (fun (w' : World) (h : WRow w' gw W 3) => index_w gw n W hWl (by omega) w' h)
    obtain ⟨pc, cc, evc⟩ := hO.len
    subst evc
    clear hO hR hu hL HI HCW R U
    unfold idxI at HIx
    cases hi : idx0 W with
    | none =>
     rw [hi] at HIx
     have HD := hid (show CW = (C, W) from by
      rw [HLi.out]
      cases f with
      | zero => rfl
      | succ f => unfold lineF; rw [hi])
     clear HLi hi
     go_upto_region 9 with (first | (go_at_call 66; refine (HIx.out _ RR.out).mono ?_; rintro e w4 ⟨rfl, v4⟩; have U4 := hid (UU.out.trans v4); have R4 := hid (RR.out.old v4); have O4 := hid (HO.out.up v4); clear v4))
     clear HIx RR UU HO
     obtain ⟨B3, hB3⟩ : ∃ B3, B3 = w4.heap.size := ⟨_, rfl⟩
     have HB3 := hid (show gw + 1 ≤ B3 by have := R4.out.lt; omega)
     have HLC := hid (show ∀ q, (Value.slice pc C.length cc).ownBlock = some q → q < B3 from fun q e => by rw [hB3]; exact (World.ownsRow.lt O4.out q e).2)
     have HY := hid (show B3 ≤ w4.heap.size by omega)
     clear hB3
     go_wp2
     go_loopw [3, 71] (fun o i wr => ∃ (j : Nat) (vs : Value), vs = o ∧ j ≤ n ∧ i = .int .i64 (j : Nat) ∧ OwnN B3 wr vs (stkF d W j) ∧ OwnN (gw + 1) wr (.slice pc C.length cc) C ∧ WRow wr gw W 3 ∧ Old w1 wr ∧ B3 ≤ wr.heap.size) (fun _ i _ => n - (intOf i).toNat)
     case atStart => exact ⟨0, _, rfl, Nat.zero_le _, rfl, World.ownsRow_nil _ _ _ _, O4.out, R4.out, U4.out, HY.out⟩
     case round =>
      obtain ⟨j, vs, rfl, hj, rfl, hS, hO, hR, hu, hy⟩ := hrel
      have HS := hid hS
      have HO := hid hO
      have RR := hid hR
      have UU := hid hu
      have HYr := hid hy
      clear hS hO hR hu hy O4 R4 U4 HY
      by_cases hjt : j < n
      ·obtain ⟨z0, _⟩ := RR.out.cell j (by omega)
       obtain ⟨g, off, ha, cD, _⟩ := HC.out j hjt
       subst ha
       have x0 := (cD.old (U1.out.trans UU.out)).1
       have q1 : (0 : Int) ≤ (j : Int) := by omega
       have q2 : (j : Int) < (n : Int) := by omega
       have HSt : Hid (stkF d W (j + 1) = stkF d W j ++ (if W.getD j 0 = -1 then [] else [(d j).n])) := rfl
       have HSl := hid (stkF_len d W j)
       clear cD
       by_cases hz : W.getD j 0 = -1
       ·rw [if_pos hz, List.append_nil] at HSt
        rw [hz] at z0
        clear hz
        go_wp2
        go_roundw
        case rel => exact ⟨j + 1, _, rfl, hjt, by go_num, by rw [HSt.out]; exact HS.out, HO.out, RR.out, UU.out, HYr.out⟩
        case measure => simp [intOf]; omega
       ·rw [if_neg hz] at HSt
        generalize W.getD j 0 = x at *
        have hz2 : (x == (-1 : Int)) = false := by rw [beq_eq_false_iff_ne]; exact hz
        have hz3 : (x != (-1 : Int)) = true := by rw [bne_iff_ne]; exact hz
        go_wp2_with (first | (at_builtin; refine wp_appN rfl (.tmp 78) (.tmp 84) rfl B3 vs (stkF d W j) _ 1 (d j).n rfl rfl (OwnN.up HS.out ((Old.refl _).alloc _)) (cell_oneN _ _ _ (by simp)) (by have := HSl.out; omega) (by have := HYr.out; simp; omega) ?_; intro v8 w8 o8 g8; have O8 := hid o8; have C8 := hid (show OwnN (gw + 1) w8 _ C from World.ownsRow.kept (OwnN.up HO.out ((Old.refl _).alloc _)) g8 (Classical.byCases (fun e => .inl e) fun e => .inr fun e2 => by obtain ⟨q, hq⟩ := Option.ne_none_iff_exists'.1 e; have := HLC.out q hq; have := (World.ownsRow.lt HS.out q (by rw [← e2]; exact hq)).1; omega)); have R8 := hid ((RR.out.old ((Old.refl _).alloc _)).grown g8 (fun e => by have := (World.ownsRow.lt HS.out gw e.symm).1; have := HB3.out; omega)); have V8 := hid (show Old w1 w8 from Below.grown (UU.out.alloc _) g8 (by have := UU.out.size; simp; omega) (fun q e => by have := (World.ownsRow.lt HS.out q e).1; have := HB3.out; have := HGW.out; omega)); have Y8 := hid (show B3 ≤ w8.heap.size from Nat.le_trans HYr.out (Nat.le_trans (by simp) g8.size)); clear o8 g8))
        go_roundw
        case rel => exact ⟨j + 1, _, rfl, hjt, by go_num, by rw [HSt.out]; exact O8.out, C8.out, R8.out, V8.out, Y8.out⟩
        case measure => simp [intOf]; omega
      ·obtain rfl : j = n := by omega
       obtain ⟨ps, cs, evs⟩ := HS.out.len
       subst evs
       go_wp2
       refine bodyPost_ret (v := .tuple #[.slice pc C.length cc, .slice ps (stkF d W j).length cs]) (by simp [results, Tryz.results36, go_sem]) rfl ⟨_, _, rfl, ?_, ?_, U1.out.trans UU.out⟩
       ·rw [HD.out]; exact HO.out.mono (by have := HGW.out; have := U1.out.size; omega)
       ·rw [HD.out]; exact HS.out.mono (by have := HB3.out; have := HGW.out; have := U1.out.size; omega)
    | some i =>
     rw [hi] at HIx
     obtain ⟨hil, hiz⟩ := idx0_spec W i hi
     obtain ⟨f', rfl⟩ : ∃ f', f = f' + 1 := by
      cases f with
      | zero =>
       have := meas_set W i (-1) hil
       rw [hiz] at this
       simp at this
       omega
      | succ f => exact ⟨f, rfl⟩
     have HD := hid (show CW = lineF d E f' (C ++ [(d i).n]) (decW (d i).n E (W.set i (-1))) from by rw [HLi.out]; show (match idx0 W with | none => (C, W) | some i => lineF d E f' (C ++ [(d i).n]) (decW (d i).n E (W.set i (-1)))) = _; rw [hi])
     have hms2 : meas (W.set i (-1)) ≤ f' := by
      have := meas_set W i (-1) hil
      rw [hiz] at this
      simp at this
      omega
     have hin : i < n := by omega
     obtain ⟨g, off, ha, cD, _⟩ := HC.out i hin
     subst ha
     have q1 : (0 : Int) ≤ (i : Int) := by omega
     have q2 : (i : Int) < (n : Int) := by omega
     clear HLi hi hiz hms
     have HWl := hid hWl
     have HMs := hid hms2
     have HNr := hid hNr
     have HFl := hid hf
     generalize hx : (d i).n = x at *
     have HX := hid hx
     clear hWl hms2 hNr hf hx
     go_upto_region 10 with (first | (go_at_call 66; refine (HIx.out _ RR.out).mono ?_; rintro e w4 ⟨rfl, v4⟩; have U4 := hid (UU.out.trans v4); have R4 := hid (RR.out.old v4); have O4 := hid (HO.out.up v4); clear v4))
     clear HIx RR UU HO
     have x0 : w4.cell? ⟨g, off + i * 7, none⟩ = some (.int .i64 x) := by have q := (cD.old (U1.out.trans U4.out)).1; rw [HX.out] at q; exact q
     clear cD
     have HSz := hid (show gw + 1 ≤ w4.heap.size from R4.out.lt)
     have HCl := hid (show C.length + 1 ≤ 1000000 by have := HFl.out; omega)
     go_upto_region 12 with (first | (at_builtin; refine wp_appN rfl (.tmp 43) (.tmp 45) rfl (gw + 1) (.slice pc C.length cc) C _ 1 x rfl rfl (OwnN.up O4.out ((Old.refl _).alloc _)) (cell_oneN _ _ _ (by first | rfl | simp)) (by have := HFl.out; omega) (by have := HSz.out; first | omega | (simp; omega)) ?_; intro v5 w5 o5 g5; have O5 := hid o5; have R5 := hid ((R4.out.old ((Old.refl _).alloc _)).grown g5 (fun e => by have := (World.ownsRow.lt O4.out gw e.symm).1; omega)); have U5 := hid (show Old w1 w5 from Below.grown (U4.out.alloc _) g5 (by have := U4.out.size; first | omega | (simp; omega)) (fun q e => by have := (World.ownsRow.lt O4.out q e).1; have := HGW.out; omega)); clear o5 g5))
     obtain ⟨pd, cd, evd⟩ := O5.out.len
     subst evd
     clear O4 R4 U4 x0
     obtain ⟨z0, z1⟩ := R5.out.cell i (by have := HWl.out; omega)
     go_upto_region 13 with fail
     have R6 := hid (R5.out.set i (-1))
     have U6 := hid (U5.out.setCell (p := ⟨gw, i, none⟩) (by show w1.heap.size ≤ gw; have := HGW.out; omega) (.int .i64 (-1)))
     have O6 := hid (show OwnN (gw + 1) _ _ (C ++ [x]) from own_far (u := .int .i64 (-1)) (a := ⟨gw, i, none⟩) O5.out (by show gw < gw + 1; omega))
     have N6 := hid (HNr.out.set i (-1) (k + 4097 * C.length + 1) (by omega) ⟨by omega, by omega⟩)
     generalize hw6 : w5.setCell ⟨gw, i, none⟩ (.int .i64 (-1)) = w6 at *
     have HW6l := hid (show (W.set i (-1)).length = n by rw [List.length_set]; exact HWl.out)
     generalize W.set i (-1) = W1 at *
     clear hw6 z0 z1 R5 U5 O5 HNr HWl
     go_wp2
     go_loopw [52] (fun ii wr => ∃ j : Nat, j ≤ k ∧ ii = .int .i64 (j : Nat) ∧ WRow wr gw (decW x (E.take j) W1) 3 ∧ Near (decW x (E.take j) W1) (k + 4097 * C.length + 1 + j) ∧ OwnN (gw + 1) wr (.slice pd (C ++ [x]).length cd) (C ++ [x]) ∧ Old w1 wr) (fun ii _ => k - (intOf ii).toNat)
     case atStart => exact ⟨0, Nat.zero_le _, rfl, R6.out, by simpa [decW] using N6.out, O6.out, U6.out⟩
     case round =>
      obtain ⟨j, hj, rfl, hR, hNj, hO, hu⟩ := hrel
      have RR := hid hR
      have UU := hid hu
      have HO := hid hO
      clear hR hu hO R6 U6 O6 N6
      by_cases hjt : j < k
      ·obtain ⟨ge, epe, c0, c1⟩ := HCe.out j (by omega)
       subst epe
       have y0 := UU.out.keep c0
       have y1 := UU.out.keep c1
       have rg := HRg.out _ (mem_get E j (by have := HEL.out; omega))
       have HSn := hid (show decW x (E.take (j + 1)) W1 = if (E.getD j (0, 0)).1 = x then (decW x (E.take j) W1).set (toN (E.getD j (0, 0))) ((decW x (E.take j) W1).getD (toN (E.getD j (0, 0))) 0 - 1) else decW x (E.take j) W1 from by rw [take_get E j (by have := HEL.out; omega), decW_snoc])
       have hWl : (decW x (E.take j) W1).length = n := by rw [decW_len]; exact HW6l.out
       generalize decW x (E.take j) W1 = W2 at *
       obtain ⟨t, ht⟩ : ∃ t : Nat, (E.getD j (0, 0)).2 = (t : Int) + 1 := ⟨((E.getD j (0, 0)).2 - 1).toNat, by omega⟩
       have htn : toN (E.getD j (0, 0)) = t := by unfold toN; rw [ht]; omega
       rw [htn] at HSn
       rw [ht] at y1
       have tlt : t < n := by omega
       generalize (E.getD j (0, 0)).1 = ea at *
       clear c0 c1 rg ht htn
       have m1 : (0 : Int) ≤ (j : Int) := by omega
       have m2 : (j : Int) < (k : Int) := by omega
       have m3 : (0 : Int) ≤ (t : Int) := by omega
       have m4 : (t : Int) < (n : Int) := by omega
       have hb := hNj t
       have hCl2 := HFl.out
       have hwr : IntKind.i64.wrap (W2.getD t 0 - 1) = W2.getD t 0 - 1 := wrap_small _ (by omega)
       have HNx := hid (hNj.set t (W2.getD t 0 - 1) (k + 4097 * C.length + 1 + (j + 1 : Nat)) (by omega) ⟨by omega, by omega⟩)
       have HNy := hid (show Near W2 (k + 4097 * C.length + 1 + (j + 1 : Nat)) from fun q => by have := hNj q; omega)
       have HWl2 := hid hWl
       clear hNj hb hWl hCl2
       go_upto_region 16 with fail
       generalize hw3 : wr.alloc (.cells #[.int .i64 ea, .int .i64 ((t : Int) + 1)] 112) = w7 at *
       generalize hbx : wr.heap.size = bx at *
       obtain ⟨⟨b0, b1⟩, v7⟩ := edge_new wr ea _ w7 hw3 bx hbx
       have R7 := hid (RR.out.old v7)
       have U7 := hid (UU.out.trans v7)
       have O7 := hid (HO.out.up v7)
       obtain ⟨z0, z1⟩ := R7.out.cell t (by have := HWl2.out; omega)
       have HGl := hid (show w1.heap.size ≤ gw by have := HGW.out; omega)
       clear hw3 hbx v7 y0 y1 RR UU HO
       by_cases hea : ea = x
       ·rw [if_pos hea] at HSn
        subst hea
        have e0 : (ea == ea) = true := by simp
        generalize W2.getD t 0 = xx at *
        go_wp2
        go_roundw
        case rel => exact ⟨j + 1, hjt, by go_num, by rw [HSn.out]; exact R7.out.set t _, by rw [HSn.out]; exact HNx.out, own_far (u := _) (a := ⟨gw, t, none⟩) O7.out (by show gw < gw + 1; omega), U7.out.setCell (p := ⟨gw, t, none⟩) HGl.out _⟩
        case measure => simp [intOf]; omega
       ·rw [if_neg hea] at HSn
        have e0 : (ea == x) = false := by rw [beq_eq_false_iff_ne]; exact hea
        clear hea
        go_wp2
        go_roundw
        case rel => exact ⟨j + 1, hjt, by go_num, by rw [HSn.out]; exact R7.out, by rw [HSn.out]; exact HNy.out, O7.out, U7.out⟩
        case measure => simp [intOf]; omega
      ·obtain rfl : j = k := by omega
       have hfull : E.take j = E := List.take_of_length_le (by have := HEL.out; omega)
       rw [hfull] at RR hNj
       have hl2 : (decW x E W1).length = n := by rw [decW_len]; exact HW6l.out
       have hm2 : meas (decW x E W1) ≤ f' := Nat.le_trans (meas_decW x E W1) HMs.out
       have HNj := hid hNj
       have HF2 := hid (show f' + (C ++ [x]).length = n + j by rw [List.length_append]; have := HFl.out; simp; omega)
       have HML := hid (show n + j - (C.length + 1) < n + j - C.length by have := HFl.out; omega)
       clear hfull hNj
       go_wp2
       go_roundw
       case rel => exact ⟨f', C ++ [x], decW x E W1, _, rfl, hl2, HF2.out, hm2, HD.out, HO.out, RR.out, fun q => by have := HNj.out q; rw [List.length_append]; simp only [List.length_cons, List.length_nil]; omega, UU.out⟩
       case measure => (simp only [lenV]; have := HML.out; simp; omega)
end Go.Proofs.YtgeinnaljlajoaaGreat
namespace Go.Proofs.YtgeinnaljlajoaaGreat
open Go.RowKit Go.Lib
set_option linter.unusedVariables false
set_option linter.unusedSimpArgs false
set_option maxRecDepth 20000
def cwF (d : Nat → Dn) (n : Nat) : List Int × List Int := lineF d (edU d n n) (n + (edU d n n).length) [] (cntW (edU d n n) (List.replicate n 0))
def stB (d : Nat → Dn) (n : Nat) : List Int := if rtB d n = true then stkF d (cwF d n).2 n else []
def orB (d : Nat → Dn) (n : Nat) : Bool := rtB d n && decide (stkF d (cwF d n).2 n = [])
def orL (d : Nat → Dn) (n : Nat) : List Int := if orB d n = true then (cwF d n).1 else []
attribute [local go_sem] run_bits run_frombits run_store_float eqF
set_option maxHeartbeats 1000000 in
theorem stuck_any (v : Value) (n : Nat) (d : Nat → Dn) (w : World) (hv : DRow w v n d) :
    Calls Tryz.prog 17 #[v] w fun e w' => ∃ v', e = .returned v' ∧ OwnN w.heap.size w' v' (stB d n) ∧ Old w w' := by
 have HR := hid (fun (W : World) (u : Old w W) => rightH_any v n d W (hv.old u))
 unfold stB
 cases hr : rtB d n
 ·rw [hr] at HR
  simp only [Bool.false_eq_true, if_false]
  clear hr hv
  go_enter Tryz.func17, Tryz.ntmps17
  go_wp2_with (go_at_call 15; refine (HR.out _ (Old.refl _)).mono ?_; rintro e w1 ⟨rfl, u1⟩; have U1 := hid u1; clear u1)
  go_ret
  exact ⟨_, rfl, World.ownsRow_nil _ _ _ _, U1.out⟩
 ·rw [hr] at HR
  simp only [if_true]
  have HL := hid (fun (W : World) (u : Old w W) => line_any v n d W (hv.old u) hr _ rfl _ rfl)
  unfold cwF
  clear hr hv
  generalize lineF d (edU d n n) (n + (edU d n n).length) [] (cntW (edU d n n) (List.replicate n 0)) = CW at *
  go_enter Tryz.func17, Tryz.ntmps17
  go_wp2_with (first | (go_at_call 15; refine (HR.out _ (Old.refl _)).mono ?_; rintro e w1 ⟨rfl, u1⟩; have U1 := hid u1; clear u1) | (go_at_call 36; refine (HL.out _ U1.out).mono ?_; rintro e w2 ⟨vc, vs, rfl, o1, o2, u2⟩; have O2 := hid o2; have U2 := hid (U1.out.trans u2); clear o1 o2 u2))
  go_ret
  exact ⟨_, rfl, O2.out.mono (U1.out.size), U2.out⟩
set_option maxHeartbeats 1000000 in
theorem order_any (v : Value) (n : Nat) (d : Nat → Dn) (w : World) (hv : DRow w v n d) :
    Calls Tryz.prog 14 #[v] w fun e w' => ∃ v', e = .returned (.tuple #[v', .bool (orB d n)]) ∧ OwnN w.heap.size w' v' (orL d n) ∧ Old w w' := by
 have HR := hid (fun (W : World) (u : Old w W) => rightH_any v n d W (hv.old u))
 unfold orL orB
 cases hr : rtB d n
 ·rw [hr] at HR
  simp only [Bool.false_and, Bool.false_eq_true, if_false]
  clear hr hv
  go_enter Tryz.func14, Tryz.ntmps14
  go_wp2_with (go_at_call 15; refine (HR.out _ (Old.refl _)).mono ?_; rintro e w1 ⟨rfl, u1⟩; have U1 := hid u1; clear u1)
  go_ret2
  exact ⟨_, rfl, World.ownsRow_nil _ _ _ _, U1.out⟩
 ·rw [hr] at HR
  simp only [Bool.true_and]
  have HL := hid (fun (W : World) (u : Old w W) => line_any v n d W (hv.old u) hr _ rfl _ rfl)
  unfold cwF
  clear hr hv
  generalize lineF d (edU d n n) (n + (edU d n n).length) [] (cntW (edU d n n) (List.replicate n 0)) = CW at *
  by_cases hs : stkF d CW.2 n = []
  ·rw [hs] at HL
   simp only [hs, decide_true, if_true]
   clear hs
   go_enter Tryz.func14, Tryz.ntmps14
   go_wp2_with (first | (go_at_call 15; refine (HR.out _ (Old.refl _)).mono ?_; rintro e w1 ⟨rfl, u1⟩; have U1 := hid u1; clear u1) | (go_at_call 36; refine (HL.out _ U1.out).mono ?_; rintro e w2 ⟨vc, vs, rfl, o1, o2, u2⟩; have O1 := hid o1; obtain ⟨ps, cs, es⟩ := o2.len; subst es; have U2 := hid (U1.out.trans u2); clear o1 o2 u2))
   go_ret2
   exact ⟨_, rfl, O1.out.mono (U1.out.size), U2.out⟩
  ·have hz : 0 < (stkF d CW.2 n).length := by cases e : stkF d CW.2 n with | nil => exact absurd e hs | cons a b => simp
   have hl := stkF_len d CW.2 n
   simp only [hs, decide_false, Bool.false_eq_true, if_false]
   generalize stkF d CW.2 n = S at *
   generalize hSl : S.length = SL at *
   have HSl := hid hSl
   have z1 : (0 : Int) < (SL : Int) := by omega
   clear hs hSl
   go_enter Tryz.func14, Tryz.ntmps14
   go_wp2_with (first | (go_at_call 15; refine (HR.out _ (Old.refl _)).mono ?_; rintro e w1 ⟨rfl, u1⟩; have U1 := hid u1; clear u1) | (go_at_call 36; refine (HL.out _ U1.out).mono ?_; rintro e w2 ⟨vc, vs, rfl, o1, o2, u2⟩; obtain ⟨ps, cs, es⟩ := o2.len; rw [HSl.out] at es; subst es; have U2 := hid (U1.out.trans u2); clear o1 o2 u2))
   go_ret2
   exact ⟨_, rfl, World.ownsRow_nil _ _ _ _, U2.out⟩
end Go.Proofs.YtgeinnaljlajoaaGreat
