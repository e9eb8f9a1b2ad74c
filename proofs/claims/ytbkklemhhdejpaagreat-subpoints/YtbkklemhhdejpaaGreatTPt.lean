/- sub.Reads and sub.Writes at every submission; conditions: the rows lie in memory. -/
import Derived.Test.YtbkklemhhdejpaaGreatTB
namespace Go.Proofs.YtbkklemhhdejpaaGreat
open Go.RowKit Go.Lib
set_option linter.unusedVariables false
set_option linter.unusedSimpArgs false
set_option maxRecDepth 20000
/-- Is a key the same as another one? -/
def keyEq (x k : Nat) : Bool := !Fl.nan x && !Fl.nan k && decide (Fl.code k = Fl.code x)
theorem anyG_no {g : Nat → Bool} : ∀ {n : Nat}, (∀ i, i < n → g i = false) → Fl.anyG g n = false
  | 0, _ => rfl
  | n + 1, h => by
    show (Fl.anyG g n || g n) = false
    rw [anyG_no (fun i hi => h i (by omega)), h n (by omega)]; rfl
theorem anyG_iff {g : Nat → Bool} {n : Nat} : Fl.anyG g n = true ↔ ∃ i, i < n ∧ g i = true := by
  constructor
  · intro h
    by_cases q : ∃ i, i < n ∧ g i = true
    · exact q
    · have : Fl.anyG g n = false := anyG_no fun i hi => by
        cases e : g i
        · rfl
        · exact absurd ⟨i, hi, e⟩ q
      rw [this] at h; cases h
  · rintro ⟨i, hi, h⟩
    exact Fl.anyG_true g n i hi h
attribute [local go_sem] run_bits run_frombits run_store_float eqF
set_option maxHeartbeats 1000000 in
set_option maxRecDepth 20000 in
theorem index_am (v : Value) (n : Nat) (f : Nat → Nat) (g : Nat → Bool) (kb : Nat) (w : World) (hv : FRow w v n f) (hf : ∀ i, i < n → ∀ W, Old w W → Calls Tryz.prog 43 #[.float .f64 (f i), .pointer (some ⟨kb, 0, none⟩)] W fun e w' => e = .returned (.bool (g i)) ∧ Old W w') :
    Calls Tryz.prog 42 #[v, .func (.func 43) #[] #[.pointer (some ⟨kb, 0, none⟩)]] w fun e w' => ∃ r : Int, e = .returned (.int .i64 r) ∧ decide (0 ≤ r) = Fl.anyG g n ∧ Old w w' := by
  obtain ⟨hm, a, c, rfl, hc⟩ := hv
  have HC := hid hc
  have HF := hid hf
  have hmm := hm
  clear hc hf hm
  go_enter Tryz.func42, Tryz.ntmps42
  go_wp2
  go_loopw [8] (fun i wr => ∃ k : Nat, k ≤ n ∧ i = .int .i64 (k : Nat) ∧ Fl.anyG g k = false ∧ Old w wr) (fun i _ => n - (intOf i).toNat)
  case atStart => exact ⟨0, Nat.zero_le _, rfl, rfl, Old.refl _⟩
  case round =>
    obtain ⟨k, hk, rfl, h0, hu⟩ := hrel
    by_cases hlt : k < n
    · obtain ⟨b, off, ha, hW, c0⟩ := HC.out k hlt
      subst ha
      have x0 := hu.keep c0
      have HK := hid (HF.out k hlt)
      have l1 : (0 : Int) ≤ (k : Int) := by omega
      have l2 : (k : Int) < (n : Int) := by omega
      have H0 := hid h0
      clear c0 h0 HF HC
      generalize f k = X at *
      cases hg : g k
      · rw [hg] at HK
        have HS := hid (Fl.anyG_step g k H0.out hg)
        clear hg
        go_wp2_with (go_at_call 43; refine (HK.out _ hu).mono ?_; rintro o w5 ⟨rfl, u5⟩)
        go_roundw
        case rel => exact ⟨k + 1, hlt, by go_num, HS.out, Old.trans hu u5⟩
        case measure => simp [intOf]; omega
      · have HT := hid (Fl.anyG_true g n k hlt hg)
        rw [hg] at HK
        clear hg
        go_wp2_with (go_at_call 43; refine (HK.out _ hu).mono ?_; rintro o w5 ⟨rfl, u5⟩)
        go_ret
        exact ⟨_, rfl, by rw [HT.out]; simp, Old.trans hu u5⟩
    · obtain rfl : k = n := by omega
      have H0 := hid h0
      clear h0
      go_wp2
      go_ret
      exact ⟨_, rfl, by rw [H0.out]; rfl, hu⟩
set_option maxHeartbeats 400000 in
set_option maxRecDepth 20000 in
theorem contains_am (v : Value) (n : Nat) (f : Nat → Nat) (g : Nat → Bool) (kb : Nat) (w : World) (hv : FRow w v n f) (hf : ∀ i, i < n → ∀ W, Old w W → Calls Tryz.prog 43 #[.float .f64 (f i), .pointer (some ⟨kb, 0, none⟩)] W fun e w' => e = .returned (.bool (g i)) ∧ Old W w') :
    Calls Tryz.prog 18 #[v, .func (.func 43) #[] #[.pointer (some ⟨kb, 0, none⟩)]] w fun e w' => e = .returned (.bool (Fl.anyG g n)) ∧ Old w w' := by
  have HI := hid (index_am v n f g kb w hv hf)
  clear hv hf
  go_enter Tryz.func18, Tryz.ntmps18
  go_wp2_with (go_at_call 42; refine HI.out.mono ?_; rintro o w5 ⟨r, rfl, hr, u5⟩; have HR := hid hr; clear hr)
  go_ret
  exact ⟨ret_b (by rw [← HR.out]), u5⟩
set_option maxHeartbeats 400000 in
set_option maxRecDepth 20000 in
theorem am1_any (x k kb : Nat) (hx : Fl.W x) (hk : Fl.W k) (w : World) (h : w.cell? ⟨kb, 0, none⟩ = some (.float .f64 k)) : Calls Tryz.prog 43 #[.float .f64 x, .pointer (some ⟨kb, 0, none⟩)] w fun e w' => e = .returned (.bool (keyEq x k)) ∧ Old w w' := by
  have HE := hid (ordE x k hx hk)
  go_enter Tryz.func43, Tryz.ntmps43
  go_wp2
  go_ret
  exact ⟨ret_b (by rw [HE.out]; rfl), Old.refl _⟩
set_option maxHeartbeats 1000000 in
set_option maxRecDepth 20000 in
theorem among_any (v : Value) (n : Nat) (x : Nat → Nat) (k : Nat) (hk : Fl.W k) (w : World) (hv : FRow w v n x) : Calls Tryz.prog 20 #[v, .float .f64 k] w fun e w' => e = .returned (.bool (Fl.anyG (fun i => keyEq (x i) k) n)) ∧ Old w w' := by
  have hmf : ∀ (fn : Fn) (first cap : Array Value) (w : World), (Instr.makeFunc fn first cap).run Tryz.prog w = .ok (.func fn first cap) w := fun _ _ _ _ => rfl
  have hV := (Old.refl w).alloc (.cells #[.float .f64 k] 22)
  have hc : (w.alloc (.cells #[.float .f64 k] 22)).cell? ⟨w.heap.size, 0, none⟩ = some (.float .f64 k) := by simp
  have HC := hid (contains_am v n x (fun i => keyEq (x i) k) w.heap.size _ (hv.old hV) (fun i hi W u => am1_any (x i) k w.heap.size ((hv.old hV).ws i hi) hk W (u.keep hc)))
  have HV := hid hV
  clear hv hc hV
  go_enter Tryz.func20, Tryz.ntmps20
  go_wp2_with (first | (go_at_call 18; refine HC.out.mono ?_; rintro e w2 ⟨rfl, u2⟩; have U2 := hid (HV.out.trans u2); clear u2))
  go_ret
  exact ⟨rfl, U2.out⟩
def readB (s : Sb) (k : Nat) : Bool := Fl.anyG (fun i => keyEq (s.x1 i) k) s.n1 || Fl.anyG (fun i => Fl.hasS (s.f2 i) k) s.n2
def writeB (s : Sb) (k : Nat) : Bool := Fl.anyG (fun i => keyEq (s.x3 i) k) s.n3
set_option maxHeartbeats 1000000 in
set_option maxRecDepth 20000 in
theorem reads_any (s : Sb) (k : Nat) (hk : Fl.W k) (w : World) (hs : s.Ok w) : Calls Tryz.prog 9 #[.agg #[.int .i64 s.s1, .int .i64 s.s2, .int .i64 s.s3, .slice s.a1 s.n1 s.c1, .slice s.a2 s.n2 s.c2, .slice s.a3 s.n3 s.c3], .float .f64 k] w fun e w' => e = .returned (.bool (readB s k)) ∧ Old w w' := by
  have HA := hid (fun (W : World) (u : Old w W) => among_any _ _ _ k hk W (hs.h1.old u))
  have HC := hid (fun (W : World) (u : Old w W) => covers_any _ _ _ k hk W (hs.h2.old u))
  unfold readB
  generalize Fl.anyG (fun i => keyEq (s.x1 i) k) s.n1 = o1 at *
  generalize Fl.anyG (fun i => Fl.hasS (s.f2 i) k) s.n2 = o2 at *
  clear hs
  go_enter Tryz.func9, Tryz.ntmps9
  go_upto_region 1 with fail
  generalize hw1 : w.alloc (.cells #[.int .i64 s.s1, .int .i64 s.s2, .int .i64 s.s3, .slice s.a1 s.n1 s.c1, .slice s.a2 s.n2 s.c2, .slice s.a3 s.n3 s.c3] 28) = w1 at *
  generalize hsb : w.heap.size = sb at *
  have HW := hid (sub_new w s.s1 s.s2 s.s3 _ _ _ w1 hw1 sb hsb)
  clear hw1 hsb
  obtain ⟨⟨t0, t1, t2, t3, t4, t5⟩, _⟩ := HW.out
  cases o1
  · go_wp2_with (first | (go_at_call 20; refine (HA.out _ HW.out.2).mono ?_; rintro e w2 ⟨rfl, u2⟩; have U2 := hid (HW.out.2.trans u2); obtain ⟨_, _, _, _, t4', _⟩ := SubAt.old u2 HW.out.1; clear u2) | (go_at_call 21; refine (HC.out _ U2.out).mono ?_; rintro e w3 ⟨rfl, u3⟩; have U3 := hid (U2.out.trans u3); clear u3))
    go_ret
    exact ⟨ret_b (by simp), U3.out⟩
  · go_wp2_with (first | (go_at_call 20; refine (HA.out _ HW.out.2).mono ?_; rintro e w2 ⟨rfl, u2⟩; have U2 := hid (HW.out.2.trans u2); clear u2))
    go_ret
    exact ⟨ret_b (by simp), U2.out⟩
set_option maxHeartbeats 1000000 in
set_option maxRecDepth 20000 in
theorem writes_any (s : Sb) (k : Nat) (hk : Fl.W k) (w : World) (hs : s.Ok w) : Calls Tryz.prog 10 #[.agg #[.int .i64 s.s1, .int .i64 s.s2, .int .i64 s.s3, .slice s.a1 s.n1 s.c1, .slice s.a2 s.n2 s.c2, .slice s.a3 s.n3 s.c3], .float .f64 k] w fun e w' => e = .returned (.bool (writeB s k)) ∧ Old w w' := by
  have HA := hid (fun (W : World) (u : Old w W) => among_any _ _ _ k hk W (hs.h3.old u))
  unfold writeB
  generalize Fl.anyG (fun i => keyEq (s.x3 i) k) s.n3 = o1 at *
  clear hs
  go_enter Tryz.func10, Tryz.ntmps10
  go_upto_region 1 with fail
  generalize hw1 : w.alloc (.cells #[.int .i64 s.s1, .int .i64 s.s2, .int .i64 s.s3, .slice s.a1 s.n1 s.c1, .slice s.a2 s.n2 s.c2, .slice s.a3 s.n3 s.c3] 28) = w1 at *
  generalize hsb : w.heap.size = sb at *
  have HW := hid (sub_new w s.s1 s.s2 s.s3 _ _ _ w1 hw1 sb hsb)
  clear hw1 hsb
  obtain ⟨⟨t0, t1, t2, t3, t4, t5⟩, _⟩ := HW.out
  go_wp2_with (first | (go_at_call 20; refine (HA.out _ HW.out.2).mono ?_; rintro e w2 ⟨rfl, u2⟩; have U2 := hid (HW.out.2.trans u2); clear u2))
  go_ret
  exact ⟨rfl, U2.out⟩
end Go.Proofs.YtbkklemhhdejpaaGreat
namespace Go.Proofs.YtbkklemhhdejpaaGreat
open Go.RowKit Go.Lib
set_option linter.unusedVariables false
set_option linter.unusedSimpArgs false
set_option maxRecDepth 20000
attribute [local go_sem] run_bits run_frombits run_store_float eqF
set_option maxHeartbeats 1000000 in
set_option maxRecDepth 20000 in
theorem index_me (v : Value) (n : Nat) (f : Nat → Nat) (g : Nat → Bool) (kb : Nat) (w : World) (hv : FRow w v n f) (hf : ∀ i, i < n → ∀ W, Old w W → Calls Tryz.prog 19 #[.float .f64 (f i), .pointer (some ⟨kb, 0, none⟩)] W fun e w' => e = .returned (.bool (g i)) ∧ Old W w') :
    Calls Tryz.prog 42 #[v, .func (.func 19) #[] #[.pointer (some ⟨kb, 0, none⟩)]] w fun e w' => ∃ r : Int, e = .returned (.int .i64 r) ∧ decide (0 ≤ r) = Fl.anyG g n ∧ Old w w' := by
  obtain ⟨hm, a, c, rfl, hc⟩ := hv
  have HC := hid hc
  have HF := hid hf
  have hmm := hm
  clear hc hf hm
  go_enter Tryz.func42, Tryz.ntmps42
  go_wp2
  go_loopw [8] (fun i wr => ∃ k : Nat, k ≤ n ∧ i = .int .i64 (k : Nat) ∧ Fl.anyG g k = false ∧ Old w wr) (fun i _ => n - (intOf i).toNat)
  case atStart => exact ⟨0, Nat.zero_le _, rfl, rfl, Old.refl _⟩
  case round =>
    obtain ⟨k, hk, rfl, h0, hu⟩ := hrel
    by_cases hlt : k < n
    · obtain ⟨b, off, ha, hW, c0⟩ := HC.out k hlt
      subst ha
      have x0 := hu.keep c0
      have HK := hid (HF.out k hlt)
      have l1 : (0 : Int) ≤ (k : Int) := by omega
      have l2 : (k : Int) < (n : Int) := by omega
      have H0 := hid h0
      clear c0 h0 HF HC
      generalize f k = X at *
      cases hg : g k
      · rw [hg] at HK
        have HS := hid (Fl.anyG_step g k H0.out hg)
        clear hg
        go_wp2_with (go_at_call 19; refine (HK.out _ hu).mono ?_; rintro o w5 ⟨rfl, u5⟩)
        go_roundw
        case rel => exact ⟨k + 1, hlt, by go_num, HS.out, Old.trans hu u5⟩
        case measure => simp [intOf]; omega
      · have HT := hid (Fl.anyG_true g n k hlt hg)
        rw [hg] at HK
        clear hg
        go_wp2_with (go_at_call 19; refine (HK.out _ hu).mono ?_; rintro o w5 ⟨rfl, u5⟩)
        go_ret
        exact ⟨_, rfl, by rw [HT.out]; simp, Old.trans hu u5⟩
    · obtain rfl : k = n := by omega
      have H0 := hid h0
      clear h0
      go_wp2
      go_ret
      exact ⟨_, rfl, by rw [H0.out]; rfl, hu⟩
set_option maxHeartbeats 400000 in
set_option maxRecDepth 20000 in
theorem contains_me (v : Value) (n : Nat) (f : Nat → Nat) (g : Nat → Bool) (kb : Nat) (w : World) (hv : FRow w v n f) (hf : ∀ i, i < n → ∀ W, Old w W → Calls Tryz.prog 19 #[.float .f64 (f i), .pointer (some ⟨kb, 0, none⟩)] W fun e w' => e = .returned (.bool (g i)) ∧ Old W w') :
    Calls Tryz.prog 18 #[v, .func (.func 19) #[] #[.pointer (some ⟨kb, 0, none⟩)]] w fun e w' => e = .returned (.bool (Fl.anyG g n)) ∧ Old w w' := by
  have HI := hid (index_me v n f g kb w hv hf)
  clear hv hf
  go_enter Tryz.func18, Tryz.ntmps18
  go_wp2_with (go_at_call 42; refine HI.out.mono ?_; rintro o w5 ⟨r, rfl, hr, u5⟩; have HR := hid hr; clear hr)
  go_ret
  exact ⟨ret_b (by rw [← HR.out]), u5⟩
/-- A submission as it is handed on. -/
def Sb.val (s : Sb) : Value := .agg #[.int .i64 s.s1, .int .i64 s.s2, .int .i64 s.s3, .slice s.a1 s.n1 s.c1, .slice s.a2 s.n2 s.c2, .slice s.a3 s.n3 s.c3]
def meetB (a b : Sb) : Bool := Fl.anyG (fun i => readB a (b.x3 i)) b.n3
set_option maxHeartbeats 1000000 in
set_option maxRecDepth 20000 in
theorem me1_any (a : Sb) (k ab : Nat) (hk : Fl.W k) (w : World) (ha : a.Ok w) (h : SubAt ab a.s1 a.s2 a.s3 (.slice a.a1 a.n1 a.c1) (.slice a.a2 a.n2 a.c2) (.slice a.a3 a.n3 a.c3) w) :
    Calls Tryz.prog 19 #[.float .f64 k, .pointer (some ⟨ab, 0, none⟩)] w fun e w' => e = .returned (.bool (readB a k)) ∧ Old w w' := by
  have HR := hid (reads_any a k hk w ha)
  generalize readB a k = r at *
  obtain ⟨t0, t1, t2, t3, t4, t5⟩ := h
  clear ha
  go_enter Tryz.func19, Tryz.ntmps19
  go_wp2_with (go_at_call 9; refine HR.out.mono ?_; rintro e w2 ⟨rfl, u2⟩; have U2 := hid u2; clear u2)
  go_ret
  exact ⟨rfl, U2.out⟩
set_option maxHeartbeats 1000000 in
set_option maxRecDepth 20000 in
theorem meets_any (a b : Sb) (w : World) (ha : a.Ok w) (hb : b.Ok w) :
    Calls Tryz.prog 7 #[.agg #[.int .i64 a.s1, .int .i64 a.s2, .int .i64 a.s3, .slice a.a1 a.n1 a.c1, .slice a.a2 a.n2 a.c2, .slice a.a3 a.n3 a.c3], .agg #[.int .i64 b.s1, .int .i64 b.s2, .int .i64 b.s3, .slice b.a1 b.n1 b.c1, .slice b.a2 b.n2 b.c2, .slice b.a3 b.n3 b.c3]] w fun e w' => e = .returned (.bool (meetB a b)) ∧ Old w w' := by
  have hmf : ∀ (fn : Fn) (first cap : Array Value) (w : World), (Instr.makeFunc fn first cap).run Tryz.prog w = .ok (.func fn first cap) w := fun _ _ _ _ => rfl
  have HC := hid (fun (W : World) (ab : Nat) (u : Old w W) (h : SubAt ab a.s1 a.s2 a.s3 (.slice a.a1 a.n1 a.c1) (.slice a.a2 a.n2 a.c2) (.slice a.a3 a.n3 a.c3) W) => contains_me _ b.n3 b.x3 (fun i => readB a (b.x3 i)) ab W (hb.h3.old u) (fun i hi V k => me1_any a (b.x3 i) ab (hb.h3.ws i hi) V ((ha.old u).old k) (SubAt.old k h)))
  unfold meetB
  generalize Fl.anyG (fun i => readB a (b.x3 i)) b.n3 = r at *
  clear ha hb
  go_enter Tryz.func7, Tryz.ntmps7
  go_upto_region 1 with fail
  generalize hw1 : (w.alloc (.cells #[.int .i64 a.s1, .int .i64 a.s2, .int .i64 a.s3, .slice a.a1 a.n1 a.c1, .slice a.a2 a.n2 a.c2, .slice a.a3 a.n3 a.c3] 28)).alloc (.cells #[.int .i64 b.s1, .int .i64 b.s2, .int .i64 b.s3, .slice b.a1 b.n1 b.c1, .slice b.a2 b.n2 b.c2, .slice b.a3 b.n3 b.c3] 28) = w1 at *
  have HW := hid (two_new w a b w1 hw1 _ rfl)
  generalize w.heap.size = m at *
  clear hw1
  have HC1 := hid (HC.out w1 m HW.out.2.2 HW.out.1)
  obtain ⟨u0, u1, u2, u3, u4, u5⟩ := HW.out.2.1
  clear HC
  go_wp2_with (go_at_call 18; refine HC1.out.mono ?_; rintro e w2 ⟨rfl, v2⟩; have V2 := hid (HW.out.2.2.trans v2); clear v2)
  go_ret
  exact ⟨rfl, V2.out⟩
end Go.Proofs.YtbkklemhhdejpaaGreat
namespace Go.Proofs.YtbkklemhhdejpaaGreat
open Go.RowKit Go.Lib
set_option linter.unusedVariables false
set_option linter.unusedSimpArgs false
set_option maxRecDepth 20000
theorem keyEq_comm (a b : Nat) : keyEq a b = keyEq b a := by
  unfold keyEq
  rw [Bool.and_comm (!Fl.nan a), show decide (Fl.code b = Fl.code a) = decide (Fl.code a = Fl.code b) from by congr 1; exact propext eq_comm]
/-- A span of one key has it, and no other. -/
theorem hasS_point (a k : Nat) (ha : Fl.W a) (hk : Fl.W k) : Fl.hasS ⟨a, a, false, false⟩ k = keyEq a k := by
  unfold Fl.hasS Fl.hasF keyEq Fl.csU Fl.csV
  have e : Fl.csE a a false false = Fl.nan a := by
    unfold Fl.csE
    simp [Fl.loB, Fl.hiB]
  simp only [e]
  cases hn : Fl.nan a
  · simp only [Fl.loB, Fl.hiB, Fl.code_canon, Bool.not_false, Bool.true_and, Bool.false_eq_true, if_false]
    cases hm : Fl.nan k
    · rw [Bool.eq_iff_iff]
      simp only [Bool.and_eq_true, decide_eq_true_eq, Bool.not_false, Bool.true_and]
      omega
    · have h0 := Fl.code_nan k hm
      have h1 := Fl.V_code ha hn
      unfold Fl.V at h1
      rw [h0, Bool.eq_iff_iff]
      simp
      omega
  · simp
def smallT (g1 g2 g3 : Nat) : Sb := ⟨1, 2, 0, some ⟨g1, 0, none⟩, some ⟨g2, 0, none⟩, some ⟨g3, 0, none⟩, 2, 1, 1, 2, 1, 1, atN [4607182418800017408, 4613937818241073152], atN [4611686018427387904], atS [⟨4607182418800017408, 4613937818241073152, false, false⟩]⟩
theorem smallT_meets (g1 g2 g3 j1 j2 j3 : Nat) : meetB (smallT g1 g2 g3) (smallT j1 j2 j3) = true := by
  have h : (Fl.anyG (fun i => (Fl.anyG (fun j => keyEq (atN [4607182418800017408, 4613937818241073152] j) (atN [4611686018427387904] i)) 2 || Fl.anyG (fun j => Fl.hasS (atS [⟨4607182418800017408, 4613937818241073152, false, false⟩] j) (atN [4611686018427387904] i)) 1)) 1) = true := by decide +kernel
  exact h
def ptX (g a : Nat) : Sb := ⟨1, 1, 0, some ⟨g, 0, none⟩, none, none, 1, 0, 0, 1, 0, 0, fun _ => a, fun _ => 0, fun _ => ⟨0, 0, false, false⟩⟩
def ptY (g a : Nat) : Sb := ⟨1, 1, 0, none, some ⟨g, 0, none⟩, none, 0, 1, 0, 0, 1, 0, fun _ => 0, fun _ => 0, fun _ => ⟨a, a, false, false⟩⟩
def ptW (g b : Nat) : Sb := ⟨1, 1, 0, none, none, some ⟨g, 0, none⟩, 0, 0, 1, 0, 0, 1, fun _ => 0, fun _ => b, fun _ => ⟨0, 0, false, false⟩⟩
theorem frow0 (w : World) (x : Nat → Nat) : FRow w (.slice none 0 0) 0 x := ⟨by omega, _, _, rfl, fun i hi => by omega⟩
theorem srow0 (w : World) (x : Nat → Sp) : SRow w (.slice none 0 0) 0 x := ⟨by omega, _, _, rfl, fun i hi => by omega⟩
theorem ptX_ok (w : World) (g a : Nat) (ha : Fl.W a) (h : w.cell? ⟨g, 0, none⟩ = some (.float .f64 a)) : (ptX g a).Ok w := by
  refine ⟨⟨by simp [ptX], _, _, rfl, fun i hi => ?_⟩, srow0 _ _, frow0 _ _, by simp [ptX], by simp [ptX], by simp [ptX]⟩
  have e : i = 0 := by simp [ptX] at hi; exact hi
  subst e
  exact ⟨g, 0, rfl, ha, h⟩
theorem ptW_ok (w : World) (g b : Nat) (hb : Fl.W b) (h : w.cell? ⟨g, 0, none⟩ = some (.float .f64 b)) : (ptW g b).Ok w := by
  refine ⟨frow0 _ _, srow0 _ _, ⟨by simp [ptW], _, _, rfl, fun i hi => ?_⟩, by simp [ptW], by simp [ptW], by simp [ptW]⟩
  have e : i = 0 := by simp [ptW] at hi; exact hi
  subst e
  exact ⟨g, 0, rfl, hb, h⟩
theorem ptY_ok (w : World) (g a : Nat) (ha : Fl.W a) (h : SpIn w g 0 ⟨a, a, false, false⟩) : (ptY g a).Ok w := by
  refine ⟨frow0 _ _, ⟨by simp [ptY], _, _, rfl, fun i hi => ?_⟩, frow0 _ _, by simp [ptY], by simp [ptY], by simp [ptY]⟩
  have e : i = 0 := by simp [ptY] at hi; exact hi
  subst e
  exact ⟨g, 0, rfl, ha, ha, h⟩
theorem any1 (g : Nat → Bool) : Fl.anyG g 1 = g 0 := by simp [Fl.anyG]
theorem any0 (g : Nat → Bool) : Fl.anyG g 0 = false := rfl
theorem readX (g a k : Nat) : readB (ptX g a) k = keyEq a k := by
  show (Fl.anyG (fun i => keyEq a k) 1 || Fl.anyG (fun i => Fl.hasS ⟨0, 0, false, false⟩ k) 0) = _
  rw [any1, any0, Bool.or_false]
theorem readY (g a k : Nat) (ha : Fl.W a) (hk : Fl.W k) : readB (ptY g a) k = keyEq a k := by
  show (Fl.anyG (fun i => keyEq 0 k) 0 || Fl.anyG (fun i => Fl.hasS ⟨a, a, false, false⟩ k) 1) = _
  rw [any1, any0, Bool.false_or, hasS_point a k ha hk]
theorem writeW (g b k : Nat) : writeB (ptW g b) k = keyEq b k := by
  show Fl.anyG (fun i => keyEq b k) 1 = _
  rw [any1]
theorem meetXW (g h a b : Nat) : meetB (ptX g a) (ptW h b) = keyEq a b := by
  show Fl.anyG (fun i => readB (ptX g a) b) 1 = _
  rw [any1, readX]
theorem meetYW (g h a b : Nat) (ha : Fl.W a) (hb : Fl.W b) : meetB (ptY g a) (ptW h b) = keyEq a b := by
  show Fl.anyG (fun i => readB (ptY g a) b) 1 = _
  rw [any1, readY g a b ha hb]
theorem meetWX (g h a b : Nat) : meetB (ptW h b) (ptX g a) = false := rfl
theorem small_meet (w : World) (g1 g2 g3 j1 j2 j3 : Nat) (h : FRow w (.slice (some ⟨g1, 0, none⟩) 2 2) 2 (atN [4607182418800017408, 4613937818241073152]) ∧ SRow w (.slice (some ⟨g2, 0, none⟩) 1 1) 1 (atS [⟨4607182418800017408, 4613937818241073152, false, false⟩]) ∧ FRow w (.slice (some ⟨g3, 0, none⟩) 1 1) 1 (atN [4611686018427387904])) (k : FRow w (.slice (some ⟨j1, 0, none⟩) 2 2) 2 (atN [4607182418800017408, 4613937818241073152]) ∧ SRow w (.slice (some ⟨j2, 0, none⟩) 1 1) 1 (atS [⟨4607182418800017408, 4613937818241073152, false, false⟩]) ∧ FRow w (.slice (some ⟨j3, 0, none⟩) 1 1) 1 (atN [4611686018427387904])) :
    Calls Tryz.prog 7 #[.agg #[.int .i64 1, .int .i64 2, .int .i64 0, .slice (some ⟨g1, 0, none⟩) 2 2, .slice (some ⟨g2, 0, none⟩) 1 1, .slice (some ⟨g3, 0, none⟩) 1 1], .agg #[.int .i64 1, .int .i64 2, .int .i64 0, .slice (some ⟨j1, 0, none⟩) 2 2, .slice (some ⟨j2, 0, none⟩) 1 1, .slice (some ⟨j3, 0, none⟩) 1 1]] w fun e w' => e = .returned (.bool true) ∧ Old w w' := by
  have q := meets_any (smallT g1 g2 g3) (smallT j1 j2 j3) w ⟨h.1, h.2.1, h.2.2, by simp [smallT], by simp [smallT], by simp [smallT]⟩ ⟨k.1, k.2.1, k.2.2, by simp [smallT], by simp [smallT], by simp [smallT]⟩
  rw [smallT_meets] at q
  exact q
/-- The three boxes. -/
def P3 (m : Nat) (w : World) : Prop := SubAt (m + 1) 1 1 0 (.slice (some ⟨m, 0, none⟩) 1 1) (.slice none 0 0) (.slice none 0 0) w ∧ SubAt (m + 1 + 1 + 1) 1 1 0 (.slice none 0 0) (.slice (some ⟨m + 1 + 1, 0, none⟩) 1 1) (.slice none 0 0) w ∧ SubAt (m + 1 + 1 + 1 + 1 + 1) 1 1 0 (.slice none 0 0) (.slice none 0 0) (.slice (some ⟨m + 1 + 1 + 1 + 1, 0, none⟩) 1 1) w
theorem P3.old {m : Nat} {w w' : World} (h : P3 m w) (u : Old w w') : P3 m w' := ⟨SubAt.old u h.1, SubAt.old u h.2.1, SubAt.old u h.2.2⟩
theorem pts_new (w : World) (a b : Nat) (ha : Fl.W a) (hb : Fl.W b) (m : Nat) (hm : w.heap.size = m) (w6 : World) (e : (((((w.alloc (.cells #[.float .f64 a] 22)).alloc (.cells #[.int .i64 1, .int .i64 1, .int .i64 0, .slice (some ⟨m, 0, none⟩) 1 1, .slice none 0 0, .slice none 0 0] 28)).alloc (.cells #[.float .f64 a, .float .f64 a, .bool false, .bool false] 31)).alloc (.cells #[.int .i64 1, .int .i64 1, .int .i64 0, .slice none 0 0, .slice (some ⟨m + 1 + 1, 0, none⟩) 1 1, .slice none 0 0] 28)).alloc (.cells #[.float .f64 b] 22)).alloc (.cells #[.int .i64 1, .int .i64 1, .int .i64 0, .slice none 0 0, .slice none 0 0, .slice (some ⟨m + 1 + 1 + 1 + 1, 0, none⟩) 1 1] 28) = w6) :
    P3 m w6 ∧ (ptX m a).Ok w6 ∧ (ptY (m + 1 + 1) a).Ok w6 ∧ (ptW (m + 1 + 1 + 1 + 1) b).Ok w6 ∧ Old w w6 := by
  generalize e1 : w.alloc (.cells #[.float .f64 a] 22) = w1 at e
  have s1 : w1.heap.size = m + 1 := by rw [← e1]; simp [hm]
  have u1 : Old w w1 := by rw [← e1]; exact (Old.refl w).alloc _
  have c1 : w1.cell? ⟨m, 0, none⟩ = some (.float .f64 a) := by rw [← e1, ← hm]; simp
  clear e1
  generalize e2 : w1.alloc _ = w2 at e
  obtain ⟨b2, u2⟩ := sub_new w1 1 1 0 _ _ _ w2 e2 (m + 1) s1
  have s2 : w2.heap.size = m + 1 + 1 := by rw [← e2]; simp [s1]
  clear e2
  generalize e3 : w2.alloc _ = w3 at e
  have s3 : w3.heap.size = m + 1 + 1 + 1 := by rw [← e3]; simp [s2]
  have u3 : Old w2 w3 := by rw [← e3]; exact (Old.refl w2).alloc _
  have c3 : SpIn w3 (m + 1 + 1) 0 ⟨a, a, false, false⟩ := by rw [← e3, ← s2]; simp [SpIn]
  clear e3
  generalize e4 : w3.alloc _ = w4 at e
  obtain ⟨b4, u4⟩ := sub_new w3 1 1 0 _ _ _ w4 e4 (m + 1 + 1 + 1) s3
  have s4 : w4.heap.size = m + 1 + 1 + 1 + 1 := by rw [← e4]; simp [s3]
  clear e4
  generalize e5 : w4.alloc _ = w5 at e
  have s5 : w5.heap.size = m + 1 + 1 + 1 + 1 + 1 := by rw [← e5]; simp [s4]
  have u5 : Old w4 w5 := by rw [← e5]; exact (Old.refl w4).alloc _
  have c5 : w5.cell? ⟨m + 1 + 1 + 1 + 1, 0, none⟩ = some (.float .f64 b) := by rw [← e5, ← s4]; simp
  clear e5
  obtain ⟨b6, u6⟩ := sub_new w5 1 1 0 _ _ _ w6 e (m + 1 + 1 + 1 + 1 + 1) s5
  have v5 := u5.trans u6
  have v4 := u4.trans v5
  have v3 := u3.trans v4
  have v2 := u2.trans v3
  refine ⟨⟨SubAt.old v3 b2, SubAt.old v5 b4, b6⟩, ptX_ok w6 m a ha (v2.keep c1), (ptY_ok w3 (m + 1 + 1) a ha c3).old v4, ptW_ok w6 _ b hb (u6.keep c5), u1.trans v2⟩
attribute [local go_sem] run_bits run_frombits run_store_float eqF
set_option maxHeartbeats 4000000 in
set_option maxRecDepth 20000 in
theorem pointsLaw (a b : Nat) (ha : Fl.W a) (hb : Fl.W b) (w : World) :
    Calls Tryz.prog 3 #[.float .f64 a, .float .f64 b] w fun e w' => e = .returned (.bool true) ∧ Old w w' := by
  have HE := hid (show (FloatKind.f64.format.order a b == some .eq) = keyEq a b from ordE a b ha hb)
  go_enter Tryz.func3, Tryz.ntmps3
  go_upto_region 3 with (first | (go_at_call 6; refine (coding_any _).mono ?_; rintro e w2 ⟨rfl, u2⟩; have U2 := hid u2; clear u2) | (go_at_call 8; first | (refine (small_any w2).mono ?_; rintro e w3 ⟨g1, g2, g3, rfl, s3, u3⟩; have S3 := hid s3; have U3 := hid (U2.out.trans u3); clear s3 u3) | (refine (small_any w3).mono ?_; rintro e w4 ⟨j1, j2, j3, rfl, s4, u4⟩; have Q4 := hid (small_meet w4 g1 g2 g3 j1 j2 j3 ⟨S3.out.1.old u4, S3.out.2.1.old u4, S3.out.2.2.old u4⟩ s4); have U4 := hid (U3.out.trans u4); clear s4 u4)) | (go_at_call 7; refine Q4.out.mono ?_; rintro e w5 ⟨rfl, u5⟩; have U5 := hid (U4.out.trans u5); clear u5))
  clear U2 U3 U4 S3 Q4
  go_upto_region 7 with fail
  generalize hm : w5.heap.size = m at *
  generalize hw6 : (((((w5.alloc (.cells #[.float .f64 a] 22)).alloc (.cells #[.int .i64 1, .int .i64 1, .int .i64 0, .slice (some ⟨m, 0, none⟩) 1 1, .slice none 0 0, .slice none 0 0] 28)).alloc (.cells #[.float .f64 a, .float .f64 a, .bool false, .bool false] 31)).alloc (.cells #[.int .i64 1, .int .i64 1, .int .i64 0, .slice none 0 0, .slice (some ⟨m + 1 + 1, 0, none⟩) 1 1, .slice none 0 0] 28)).alloc (.cells #[.float .f64 b] 22)).alloc (.cells #[.int .i64 1, .int .i64 1, .int .i64 0, .slice none 0 0, .slice none 0 0, .slice (some ⟨m + 1 + 1 + 1 + 1, 0, none⟩) 1 1] 28) = w6 at *
  generalize (FloatKind.f64.format.order a b == some .eq) = same at *
  have HN := hid (pts_new w5 a b ha hb m hm w6 hw6)
  have HP := hid HN.out.1
  have V0 := hid (Old.refl w6)
  have HS := HE.out
  clear hm hw6 HE
  have H1 := hid (show ∀ W, Old w6 W → Calls Tryz.prog 7 #[.agg #[.int .i64 1, .int .i64 1, .int .i64 0, .slice (some ⟨m, 0, none⟩) 1 1, .slice none 0 0, .slice none 0 0], .agg #[.int .i64 1, .int .i64 1, .int .i64 0, .slice none 0 0, .slice none 0 0, .slice (some ⟨m + 1 + 1 + 1 + 1, 0, none⟩) 1 1]] W fun e w' => e = .returned (.bool same) ∧ Old W w' from fun W u => by
    have q := meets_any _ _ W (HN.out.2.1.old u) (HN.out.2.2.2.1.old u)
    rw [meetXW, ← HS] at q
    exact q)
  have H2 := hid (show ∀ W, Old w6 W → Calls Tryz.prog 7 #[.agg #[.int .i64 1, .int .i64 1, .int .i64 0, .slice none 0 0, .slice (some ⟨m + 1 + 1, 0, none⟩) 1 1, .slice none 0 0], .agg #[.int .i64 1, .int .i64 1, .int .i64 0, .slice none 0 0, .slice none 0 0, .slice (some ⟨m + 1 + 1 + 1 + 1, 0, none⟩) 1 1]] W fun e w' => e = .returned (.bool same) ∧ Old W w' from fun W u => by
    have q := meets_any _ _ W (HN.out.2.2.1.old u) (HN.out.2.2.2.1.old u)
    rw [meetYW _ _ a b ha hb, ← HS] at q
    exact q)
  have H3 := hid (show ∀ W, Old w6 W → Calls Tryz.prog 7 #[.agg #[.int .i64 1, .int .i64 1, .int .i64 0, .slice none 0 0, .slice none 0 0, .slice (some ⟨m + 1 + 1 + 1 + 1, 0, none⟩) 1 1], .agg #[.int .i64 1, .int .i64 1, .int .i64 0, .slice (some ⟨m, 0, none⟩) 1 1, .slice none 0 0, .slice none 0 0]] W fun e w' => e = .returned (.bool false) ∧ Old W w' from fun W u => by
    have q := meets_any _ _ W (HN.out.2.2.2.1.old u) (HN.out.2.1.old u)
    rw [meetWX] at q
    exact q)
  have H4 := hid (show ∀ W, Old w6 W → Calls Tryz.prog 9 #[.agg #[.int .i64 1, .int .i64 1, .int .i64 0, .slice (some ⟨m, 0, none⟩) 1 1, .slice none 0 0, .slice none 0 0], .float .f64 b] W fun e w' => e = .returned (.bool same) ∧ Old W w' from fun W u => by
    have q := reads_any _ b hb W (HN.out.2.1.old u)
    rw [readX, ← HS] at q
    exact q)
  have H5 := hid (show ∀ W, Old w6 W → Calls Tryz.prog 9 #[.agg #[.int .i64 1, .int .i64 1, .int .i64 0, .slice none 0 0, .slice (some ⟨m + 1 + 1, 0, none⟩) 1 1, .slice none 0 0], .float .f64 b] W fun e w' => e = .returned (.bool same) ∧ Old W w' from fun W u => by
    have q := reads_any _ b hb W (HN.out.2.2.1.old u)
    rw [readY _ a b ha hb, ← HS] at q
    exact q)
  have H6 := hid (show ∀ W, Old w6 W → Calls Tryz.prog 10 #[.agg #[.int .i64 1, .int .i64 1, .int .i64 0, .slice none 0 0, .slice none 0 0, .slice (some ⟨m + 1 + 1 + 1 + 1, 0, none⟩) 1 1], .float .f64 a] W fun e w' => e = .returned (.bool same) ∧ Old W w' from fun W u => by
    have q := writes_any _ a ha W (HN.out.2.2.2.1.old u)
    rw [writeW, keyEq_comm, ← HS] at q
    exact q)
  have U6 := hid (U5.out.trans HN.out.2.2.2.2)
  clear HS HN U5
  obtain ⟨⟨p0, p1, p2, p3, p4, p5⟩, _, ⟨q0, q1, q2, q3, q4, q5⟩⟩ := HP.out
  clear ha hb
  go_wp2_with (first | (go_at_call 7; refine (H1.out _ V0.out).mono ?_; rintro e y1 ⟨rfl, u1⟩; have V1 := hid (V0.out.trans u1); clear p0 p1 p2 p3 p4 p5 q0 q1 q2 q3 q4 q5; clear H1 u1 V0; obtain ⟨_, ⟨p0, p1, p2, p3, p4, p5⟩, ⟨q0, q1, q2, q3, q4, q5⟩⟩ := HP.out.old V1.out) | (go_at_call 7; refine (H2.out _ V1.out).mono ?_; rintro e y2 ⟨rfl, u2⟩; have V2 := hid (V1.out.trans u2); clear p0 p1 p2 p3 p4 p5 q0 q1 q2 q3 q4 q5; clear H2 u2 V1; obtain ⟨⟨q0, q1, q2, q3, q4, q5⟩, _, ⟨p0, p1, p2, p3, p4, p5⟩⟩ := HP.out.old V2.out) | (go_at_call 7; refine (H3.out _ V2.out).mono ?_; rintro e y3 ⟨rfl, u3⟩; have V3 := hid (V2.out.trans u3); clear p0 p1 p2 p3 p4 p5 q0 q1 q2 q3 q4 q5; clear H3 u3 V2; obtain ⟨⟨p0, p1, p2, p3, p4, p5⟩, _, _⟩ := HP.out.old V3.out) | (go_at_call 9; refine (H4.out _ V3.out).mono ?_; rintro e y4 ⟨rfl, u4⟩; have V4 := hid (V3.out.trans u4); clear p0 p1 p2 p3 p4 p5; clear H4 u4 V3; obtain ⟨_, ⟨p0, p1, p2, p3, p4, p5⟩, _⟩ := HP.out.old V4.out) | (go_at_call 9; refine (H5.out _ V4.out).mono ?_; rintro e y5 ⟨rfl, u5⟩; have V5 := hid (V4.out.trans u5); clear p0 p1 p2 p3 p4 p5; clear H5 u5 V4; obtain ⟨_, _, ⟨p0, p1, p2, p3, p4, p5⟩⟩ := HP.out.old V5.out) | (go_at_call 10; refine (H6.out _ V5.out).mono ?_; rintro e y6 ⟨rfl, u6⟩; have V6 := hid (V5.out.trans u6); clear p0 p1 p2 p3 p4 p5; clear H6 u6 V5))
  go_ret
  exact ⟨rfl, U6.out.trans V6.out⟩
end Go.Proofs.YtbkklemhhdejpaaGreat
