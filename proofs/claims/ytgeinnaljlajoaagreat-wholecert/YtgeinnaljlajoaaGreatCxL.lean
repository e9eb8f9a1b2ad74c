/- A submission's parts as one letter; sub.Reads, sub.Writes, sub.Meets at every submission; conditions: the rows lie in memory. -/
import Derived.Test.YtgeinnaljlajoaaGreatCxK
namespace Go.Proofs.YtgeinnaljlajoaaGreat
open Go.RowKit Go.Lib
set_option linter.unusedVariables false
set_option linter.unusedSimpArgs false
set_option maxRecDepth 20000
structure Sb where
 s1 : Int
 s2 : Int
 s3 : Int
 a1 : Option Addr
 a2 : Option Addr
 a3 : Option Addr
 n1 : Nat
 n2 : Nat
 n3 : Nat
 c1 : Nat
 c2 : Nat
 c3 : Nat
 x1 : Nat → Nat
 x3 : Nat → Nat
 f2 : Nat → Sp
structure Sb.Ok (s : Sb) (w : World) : Prop where
 h1 : FRow w (.slice s.a1 s.n1 s.c1) s.n1 s.x1
 h2 : SRow w (.slice s.a2 s.n2 s.c2) s.n2 s.f2
 h3 : FRow w (.slice s.a3 s.n3 s.c3) s.n3 s.x3
 b1 : s.n1 ≤ 17592186044000
 b2 : s.n2 ≤ 5864062014805
 b3 : s.n3 ≤ 17592186044000
theorem Sb.Ok.old {s : Sb} {w w' : World} (h : s.Ok w) (u : Old w w') : s.Ok w' := ⟨h.h1.old u, h.h2.old u, h.h3.old u, h.b1, h.b2, h.b3⟩
def Sb.chk (s : Sb) : Int := chkV s.s1 s.s2 s.s3 s.n1 s.n2 s.n3 s.x1 s.x3 s.f2
theorem two_new (w : World) (a b : Sb) (w1 : World) (e : (w.alloc (.cells #[.int .i64 a.s1, .int .i64 a.s2, .int .i64 a.s3, .slice a.a1 a.n1 a.c1, .slice a.a2 a.n2 a.c2, .slice a.a3 a.n3 a.c3] 25)).alloc (.cells #[.int .i64 b.s1, .int .i64 b.s2, .int .i64 b.s3, .slice b.a1 b.n1 b.c1, .slice b.a2 b.n2 b.c2, .slice b.a3 b.n3 b.c3] 25) = w1) (m : Nat) (hm : w.heap.size = m) : SubAt m a.s1 a.s2 a.s3 (.slice a.a1 a.n1 a.c1) (.slice a.a2 a.n2 a.c2) (.slice a.a3 a.n3 a.c3) w1 ∧ SubAt (m + 1) b.s1 b.s2 b.s3 (.slice b.a1 b.n1 b.c1) (.slice b.a2 b.n2 b.c2) (.slice b.a3 b.n3 b.c3) w1 ∧ Old w w1 := by
 have h1 := sub_new w a.s1 a.s2 a.s3 (.slice a.a1 a.n1 a.c1) (.slice a.a2 a.n2 a.c2) (.slice a.a3 a.n3 a.c3) _ rfl m hm
 have h2 := sub_new (w.alloc (.cells #[.int .i64 a.s1, .int .i64 a.s2, .int .i64 a.s3, .slice a.a1 a.n1 a.c1, .slice a.a2 a.n2 a.c2, .slice a.a3 a.n3 a.c3] 25)) b.s1 b.s2 b.s3 _ _ _ w1 e (m + 1) (by simp [hm])
 exact ⟨SubAt.old h2.2 h1.1, h2.1, h1.2.trans h2.2⟩
def keyEq (x k : Nat) : Bool := !Fl.nan x && !Fl.nan k && decide (Fl.code k = Fl.code x)
theorem anyG_no {g : Nat → Bool} : ∀ {n : Nat}, (∀ i, i < n → g i = false) → Fl.anyG g n = false
 | 0, _ => rfl
 | n + 1, h => by
  show (Fl.anyG g n || g n) = false
  rw [anyG_no (fun i hi => h i (by omega)), h n (by omega)]; rfl
theorem anyG_iff {g : Nat → Bool} {n : Nat} : Fl.anyG g n = true ↔ ∃ i, i < n ∧ g i = true := by
 constructor
 ·intro h
  by_cases q : ∃ i, i < n ∧ g i = true
  ·exact q
  ·have : Fl.anyG g n = false := anyG_no fun i hi => by
     cases e : g i
     ·rfl
     ·exact absurd ⟨i, hi, e⟩ q
   rw [this] at h; cases h
 ·rintro ⟨i, hi, h⟩
  exact Fl.anyG_true g n i hi h
attribute [local go_sem] run_bits run_frombits run_store_float eqF
set_option maxHeartbeats 1000000 in
theorem index_am (v : Value) (n : Nat) (f : Nat → Nat) (g : Nat → Bool) (kb : Nat) (w : World) (hv : FRow w v n f) (hf : ∀ i, i < n → ∀ W, Old w W → Calls Tryz.prog 120 #[.float .f64 (f i), .pointer (some ⟨kb, 0, none⟩)] W fun e w' => e = .returned (.bool (g i)) ∧ Old W w') :
    Calls Tryz.prog 80 #[v, .func (.func 120) #[] #[.pointer (some ⟨kb, 0, none⟩)]] w fun e w' => ∃ r : Int, e = .returned (.int .i64 r) ∧ decide (0 ≤ r) = Fl.anyG g n ∧ Old w w' := by
 obtain ⟨hm, a, c, rfl, hc⟩ := hv
 have HC := hid hc
 have HF := hid hf
 have hmm := hm
 clear hc hf hm
 go_enter Tryz.func80, Tryz.ntmps80
 go_wp2
 go_loopw [8] (fun i wr => ∃ k : Nat, k ≤ n ∧ i = .int .i64 (k : Nat) ∧ Fl.anyG g k = false ∧ Old w wr) (fun i _ => n - (intOf i).toNat)
 case atStart => exact ⟨0, Nat.zero_le _, rfl, rfl, Old.refl _⟩
 case round =>
  obtain ⟨k, hk, rfl, h0, hu⟩ := hrel
  by_cases hlt : k < n
  ·obtain ⟨b, off, ha, hW, c0⟩ := HC.out k hlt
   subst ha
   have x0 := hu.keep c0
   have HK := hid (HF.out k hlt)
   have l1 : (0 : Int) ≤ (k : Int) := by omega
   have l2 : (k : Int) < (n : Int) := by omega
   have H0 := hid h0
   clear c0 h0 HF HC
   generalize f k = X at *
   cases hg : g k
   ·rw [hg] at HK
    have HS := hid (Fl.anyG_step g k H0.out hg)
    clear hg
    go_wp2_with (go_at_call 120; refine (HK.out _ hu).mono ?_; rintro o w5 ⟨rfl, u5⟩)
    go_roundw
    case rel => exact ⟨k + 1, hlt, by go_num, HS.out, Old.trans hu u5⟩
    case measure => simp [intOf]; omega
   ·have HT := hid (Fl.anyG_true g n k hlt hg)
    rw [hg] at HK
    clear hg
    go_wp2_with (go_at_call 120; refine (HK.out _ hu).mono ?_; rintro o w5 ⟨rfl, u5⟩)
    go_ret
    exact ⟨_, rfl, by rw [HT.out]; simp, Old.trans hu u5⟩
  ·obtain rfl : k = n := by omega
   have H0 := hid h0
   clear h0
   go_wp2
   go_ret
   exact ⟨_, rfl, by rw [H0.out]; rfl, hu⟩
set_option maxHeartbeats 400000 in
theorem contains_am (v : Value) (n : Nat) (f : Nat → Nat) (g : Nat → Bool) (kb : Nat) (w : World) (hv : FRow w v n f) (hf : ∀ i, i < n → ∀ W, Old w W → Calls Tryz.prog 120 #[.float .f64 (f i), .pointer (some ⟨kb, 0, none⟩)] W fun e w' => e = .returned (.bool (g i)) ∧ Old W w') :
    Calls Tryz.prog 45 #[v, .func (.func 120) #[] #[.pointer (some ⟨kb, 0, none⟩)]] w fun e w' => e = .returned (.bool (Fl.anyG g n)) ∧ Old w w' := by
 have HI := hid (index_am v n f g kb w hv hf)
 clear hv hf
 go_enter Tryz.func45, Tryz.ntmps45
 go_wp2_with (go_at_call 80; refine HI.out.mono ?_; rintro o w5 ⟨r, rfl, hr, u5⟩; have HR := hid hr; clear hr)
 go_ret
 exact ⟨ret_b (by rw [← HR.out]), u5⟩
set_option maxHeartbeats 400000 in
theorem am1_any (x k kb : Nat) (hx : Fl.W x) (hk : Fl.W k) (w : World) (h : w.cell? ⟨kb, 0, none⟩ = some (.float .f64 k)) : Calls Tryz.prog 120 #[.float .f64 x, .pointer (some ⟨kb, 0, none⟩)] w fun e w' => e = .returned (.bool (keyEq x k)) ∧ Old w w' := by
 have HE := hid (ordE x k hx hk)
 go_enter Tryz.func120, Tryz.ntmps120
 go_wp2
 go_ret
 exact ⟨ret_b (by rw [HE.out]; rfl), Old.refl _⟩
set_option maxHeartbeats 1000000 in
theorem among_any (v : Value) (n : Nat) (x : Nat → Nat) (k : Nat) (hk : Fl.W k) (w : World) (hv : FRow w v n x) : Calls Tryz.prog 97 #[v, .float .f64 k] w fun e w' => e = .returned (.bool (Fl.anyG (fun i => keyEq (x i) k) n)) ∧ Old w w' := by
 have hmf : ∀ (fn : Fn) (first cap : Array Value) (w : World), (Instr.makeFunc fn first cap).run Tryz.prog w = .ok (.func fn first cap) w := fun _ _ _ _ => rfl
 have hV := (Old.refl w).alloc (.cells #[.float .f64 k] 37)
 have hc : (w.alloc (.cells #[.float .f64 k] 37)).cell? ⟨w.heap.size, 0, none⟩ = some (.float .f64 k) := by simp
 have HC := hid (contains_am v n x (fun i => keyEq (x i) k) w.heap.size _ (hv.old hV) (fun i hi W u => am1_any (x i) k w.heap.size ((hv.old hV).ws i hi) hk W (u.keep hc)))
 have HV := hid hV
 clear hv hc hV
 go_enter Tryz.func97, Tryz.ntmps97
 go_wp2_with (first | (go_at_call 45; refine HC.out.mono ?_; rintro e w2 ⟨rfl, u2⟩; have U2 := hid (HV.out.trans u2); clear u2))
 go_ret
 exact ⟨rfl, U2.out⟩
def readB (s : Sb) (k : Nat) : Bool := Fl.anyG (fun i => keyEq (s.x1 i) k) s.n1 || Fl.anyG (fun i => Fl.hasS (s.f2 i) k) s.n2
def writeB (s : Sb) (k : Nat) : Bool := Fl.anyG (fun i => keyEq (s.x3 i) k) s.n3
set_option maxHeartbeats 1000000 in
theorem reads_any (s : Sb) (k : Nat) (hk : Fl.W k) (w : World) (hs : s.Ok w) : Calls Tryz.prog 79 #[.agg #[.int .i64 s.s1, .int .i64 s.s2, .int .i64 s.s3, .slice s.a1 s.n1 s.c1, .slice s.a2 s.n2 s.c2, .slice s.a3 s.n3 s.c3], .float .f64 k] w fun e w' => e = .returned (.bool (readB s k)) ∧ Old w w' := by
 have HA := hid (fun (W : World) (u : Old w W) => among_any _ _ _ k hk W (hs.h1.old u))
 have HC := hid (fun (W : World) (u : Old w W) => covers_any _ _ _ k hk W (hs.h2.old u))
 unfold readB
 generalize Fl.anyG (fun i => keyEq (s.x1 i) k) s.n1 = o1 at *
 generalize Fl.anyG (fun i => Fl.hasS (s.f2 i) k) s.n2 = o2 at *
 clear hs
 go_enter Tryz.func79, Tryz.ntmps79
 go_upto_region 1 with fail
 generalize hw1 : w.alloc (.cells #[.int .i64 s.s1, .int .i64 s.s2, .int .i64 s.s3, .slice s.a1 s.n1 s.c1, .slice s.a2 s.n2 s.c2, .slice s.a3 s.n3 s.c3] 25) = w1 at *
 generalize hsb : w.heap.size = sb at *
 have HW := hid (sub_new w s.s1 s.s2 s.s3 _ _ _ w1 hw1 sb hsb)
 clear hw1 hsb
 obtain ⟨⟨t0, t1, t2, t3, t4, t5⟩, _⟩ := HW.out
 cases o1
 ·go_wp2_with (first | (go_at_call 97; refine (HA.out _ HW.out.2).mono ?_; rintro e w2 ⟨rfl, u2⟩; have U2 := hid (HW.out.2.trans u2); obtain ⟨_, _, _, _, t4', _⟩ := SubAt.old u2 HW.out.1; clear u2) | (go_at_call 109; refine (HC.out _ U2.out).mono ?_; rintro e w3 ⟨rfl, u3⟩; have U3 := hid (U2.out.trans u3); clear u3))
  go_ret
  exact ⟨ret_b (by simp), U3.out⟩
 ·go_wp2_with (first | (go_at_call 97; refine (HA.out _ HW.out.2).mono ?_; rintro e w2 ⟨rfl, u2⟩; have U2 := hid (HW.out.2.trans u2); clear u2))
  go_ret
  exact ⟨ret_b (by simp), U2.out⟩
set_option maxHeartbeats 1000000 in
theorem writes_any (s : Sb) (k : Nat) (hk : Fl.W k) (w : World) (hs : s.Ok w) : Calls Tryz.prog 68 #[.agg #[.int .i64 s.s1, .int .i64 s.s2, .int .i64 s.s3, .slice s.a1 s.n1 s.c1, .slice s.a2 s.n2 s.c2, .slice s.a3 s.n3 s.c3], .float .f64 k] w fun e w' => e = .returned (.bool (writeB s k)) ∧ Old w w' := by
 have HA := hid (fun (W : World) (u : Old w W) => among_any _ _ _ k hk W (hs.h3.old u))
 unfold writeB
 generalize Fl.anyG (fun i => keyEq (s.x3 i) k) s.n3 = o1 at *
 clear hs
 go_enter Tryz.func68, Tryz.ntmps68
 go_upto_region 1 with fail
 generalize hw1 : w.alloc (.cells #[.int .i64 s.s1, .int .i64 s.s2, .int .i64 s.s3, .slice s.a1 s.n1 s.c1, .slice s.a2 s.n2 s.c2, .slice s.a3 s.n3 s.c3] 25) = w1 at *
 generalize hsb : w.heap.size = sb at *
 have HW := hid (sub_new w s.s1 s.s2 s.s3 _ _ _ w1 hw1 sb hsb)
 clear hw1 hsb
 obtain ⟨⟨t0, t1, t2, t3, t4, t5⟩, _⟩ := HW.out
 go_wp2_with (first | (go_at_call 97; refine (HA.out _ HW.out.2).mono ?_; rintro e w2 ⟨rfl, u2⟩; have U2 := hid (HW.out.2.trans u2); clear u2))
 go_ret
 exact ⟨rfl, U2.out⟩
set_option maxHeartbeats 1000000 in
theorem index_me (v : Value) (n : Nat) (f : Nat → Nat) (g : Nat → Bool) (kb : Nat) (w : World) (hv : FRow w v n f) (hf : ∀ i, i < n → ∀ W, Old w W → Calls Tryz.prog 115 #[.float .f64 (f i), .pointer (some ⟨kb, 0, none⟩)] W fun e w' => e = .returned (.bool (g i)) ∧ Old W w') :
    Calls Tryz.prog 80 #[v, .func (.func 115) #[] #[.pointer (some ⟨kb, 0, none⟩)]] w fun e w' => ∃ r : Int, e = .returned (.int .i64 r) ∧ decide (0 ≤ r) = Fl.anyG g n ∧ Old w w' := by
 obtain ⟨hm, a, c, rfl, hc⟩ := hv
 have HC := hid hc
 have HF := hid hf
 have hmm := hm
 clear hc hf hm
 go_enter Tryz.func80, Tryz.ntmps80
 go_wp2
 go_loopw [8] (fun i wr => ∃ k : Nat, k ≤ n ∧ i = .int .i64 (k : Nat) ∧ Fl.anyG g k = false ∧ Old w wr) (fun i _ => n - (intOf i).toNat)
 case atStart => exact ⟨0, Nat.zero_le _, rfl, rfl, Old.refl _⟩
 case round =>
  obtain ⟨k, hk, rfl, h0, hu⟩ := hrel
  by_cases hlt : k < n
  ·obtain ⟨b, off, ha, hW, c0⟩ := HC.out k hlt
   subst ha
   have x0 := hu.keep c0
   have HK := hid (HF.out k hlt)
   have l1 : (0 : Int) ≤ (k : Int) := by omega
   have l2 : (k : Int) < (n : Int) := by omega
   have H0 := hid h0
   clear c0 h0 HF HC
   generalize f k = X at *
   cases hg : g k
   ·rw [hg] at HK
    have HS := hid (Fl.anyG_step g k H0.out hg)
    clear hg
    go_wp2_with (go_at_call 115; refine (HK.out _ hu).mono ?_; rintro o w5 ⟨rfl, u5⟩)
    go_roundw
    case rel => exact ⟨k + 1, hlt, by go_num, HS.out, Old.trans hu u5⟩
    case measure => simp [intOf]; omega
   ·have HT := hid (Fl.anyG_true g n k hlt hg)
    rw [hg] at HK
    clear hg
    go_wp2_with (go_at_call 115; refine (HK.out _ hu).mono ?_; rintro o w5 ⟨rfl, u5⟩)
    go_ret
    exact ⟨_, rfl, by rw [HT.out]; simp, Old.trans hu u5⟩
  ·obtain rfl : k = n := by omega
   have H0 := hid h0
   clear h0
   go_wp2
   go_ret
   exact ⟨_, rfl, by rw [H0.out]; rfl, hu⟩
set_option maxHeartbeats 400000 in
theorem contains_me (v : Value) (n : Nat) (f : Nat → Nat) (g : Nat → Bool) (kb : Nat) (w : World) (hv : FRow w v n f) (hf : ∀ i, i < n → ∀ W, Old w W → Calls Tryz.prog 115 #[.float .f64 (f i), .pointer (some ⟨kb, 0, none⟩)] W fun e w' => e = .returned (.bool (g i)) ∧ Old W w') :
    Calls Tryz.prog 45 #[v, .func (.func 115) #[] #[.pointer (some ⟨kb, 0, none⟩)]] w fun e w' => e = .returned (.bool (Fl.anyG g n)) ∧ Old w w' := by
 have HI := hid (index_me v n f g kb w hv hf)
 clear hv hf
 go_enter Tryz.func45, Tryz.ntmps45
 go_wp2_with (go_at_call 80; refine HI.out.mono ?_; rintro o w5 ⟨r, rfl, hr, u5⟩; have HR := hid hr; clear hr)
 go_ret
 exact ⟨ret_b (by rw [← HR.out]), u5⟩
def Sb.val (s : Sb) : Value := .agg #[.int .i64 s.s1, .int .i64 s.s2, .int .i64 s.s3, .slice s.a1 s.n1 s.c1, .slice s.a2 s.n2 s.c2, .slice s.a3 s.n3 s.c3]
def meetB (a b : Sb) : Bool := Fl.anyG (fun i => readB a (b.x3 i)) b.n3
set_option maxHeartbeats 1000000 in
theorem me1_any (a : Sb) (k ab : Nat) (hk : Fl.W k) (w : World) (ha : a.Ok w) (h : SubAt ab a.s1 a.s2 a.s3 (.slice a.a1 a.n1 a.c1) (.slice a.a2 a.n2 a.c2) (.slice a.a3 a.n3 a.c3) w) :
    Calls Tryz.prog 115 #[.float .f64 k, .pointer (some ⟨ab, 0, none⟩)] w fun e w' => e = .returned (.bool (readB a k)) ∧ Old w w' := by
 have HR := hid (reads_any a k hk w ha)
 generalize readB a k = r at *
 obtain ⟨t0, t1, t2, t3, t4, t5⟩ := h
 clear ha
 go_enter Tryz.func115, Tryz.ntmps115
 go_wp2_with (go_at_call 79; refine HR.out.mono ?_; rintro e w2 ⟨rfl, u2⟩; have U2 := hid u2; clear u2)
 go_ret
 exact ⟨rfl, U2.out⟩
set_option maxHeartbeats 1000000 in
theorem meets_any (a b : Sb) (w : World) (ha : a.Ok w) (hb : b.Ok w) :
    Calls Tryz.prog 88 #[.agg #[.int .i64 a.s1, .int .i64 a.s2, .int .i64 a.s3, .slice a.a1 a.n1 a.c1, .slice a.a2 a.n2 a.c2, .slice a.a3 a.n3 a.c3], .agg #[.int .i64 b.s1, .int .i64 b.s2, .int .i64 b.s3, .slice b.a1 b.n1 b.c1, .slice b.a2 b.n2 b.c2, .slice b.a3 b.n3 b.c3]] w fun e w' => e = .returned (.bool (meetB a b)) ∧ Old w w' := by
 have hmf : ∀ (fn : Fn) (first cap : Array Value) (w : World), (Instr.makeFunc fn first cap).run Tryz.prog w = .ok (.func fn first cap) w := fun _ _ _ _ => rfl
 have HC := hid (fun (W : World) (ab : Nat) (u : Old w W) (h : SubAt ab a.s1 a.s2 a.s3 (.slice a.a1 a.n1 a.c1) (.slice a.a2 a.n2 a.c2) (.slice a.a3 a.n3 a.c3) W) => contains_me _ b.n3 b.x3 (fun i => readB a (b.x3 i)) ab W (hb.h3.old u) (fun i hi V k => me1_any a (b.x3 i) ab (hb.h3.ws i hi) V ((ha.old u).old k) (SubAt.old k h)))
 unfold meetB
 generalize Fl.anyG (fun i => readB a (b.x3 i)) b.n3 = r at *
 clear ha hb
 go_enter Tryz.func88, Tryz.ntmps88
 go_upto_region 1 with fail
 generalize hw1 : (w.alloc (.cells #[.int .i64 a.s1, .int .i64 a.s2, .int .i64 a.s3, .slice a.a1 a.n1 a.c1, .slice a.a2 a.n2 a.c2, .slice a.a3 a.n3 a.c3] 25)).alloc (.cells #[.int .i64 b.s1, .int .i64 b.s2, .int .i64 b.s3, .slice b.a1 b.n1 b.c1, .slice b.a2 b.n2 b.c2, .slice b.a3 b.n3 b.c3] 25) = w1 at *
 have HW := hid (two_new w a b w1 hw1 _ rfl)
 generalize w.heap.size = m at *
 clear hw1
 have HC1 := hid (HC.out w1 m HW.out.2.2 HW.out.1)
 obtain ⟨u0, u1, u2, u3, u4, u5⟩ := HW.out.2.1
 clear HC
 go_wp2_with (go_at_call 45; refine HC1.out.mono ?_; rintro e w2 ⟨rfl, v2⟩; have V2 := hid (HW.out.2.2.trans v2); clear v2)
 go_ret
 exact ⟨rfl, V2.out⟩
end Go.Proofs.YtgeinnaljlajoaaGreat
