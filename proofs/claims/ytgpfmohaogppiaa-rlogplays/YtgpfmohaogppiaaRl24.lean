/- The document's New and Right of layer 16, Right of layer 6, at every argument; conditions: the rows lie in memory. -/
import Derived.Test.YtgpfmohaogppiaaRl23
import Derived.Test.YtgpfmohaogppiaaRv3
namespace Go.Proofs.Ytgpfmohaogppiaa
open Go.RowKit Go.Lib
set_option linter.unusedVariables false
set_option linter.unusedSimpArgs false
set_option maxRecDepth 20000
def r6B (i t k : Int) (n : Nat) : Bool := decide (1 ≤ i ∧ i ≤ 1099511627776 ∧ 0 ≤ t ∧ t ≤ 1099511627776 ∧ 0 ≤ k ∧ k ≤ 2 ∧ n ≤ 2048)
theorem r6_right (i t k : Int) (d : List Nat) : rightE i t k d = (r6B i t k d.length && (decide (k ≠ 2) || (ldConf d).isSome)) := by
  unfold rightE r6B
  cases (ldConf d).isSome <;> rw [Bool.eq_iff_iff] <;> simp <;> omega
theorem doc_new {index term : Int} {p1 p2 : Option Addr} {n1 n2 c1 c2 : Nat} {f1 f2 : Nat → Int} {w : World} (h1 : NRowL w (.slice p1 n1 c1) n1 f1) (h2 : NRowL w (.slice p2 n2 c2) n2 f2) : DocP ⟨clampI index, clampI term, [], lsI f1 n1, lsI f2 n2⟩ ⟨p1, c1, p2, c2, none, 0, []⟩ w := by
  refine ⟨⟨by simp, ⟨none, 0, rfl, by simp, by omega, fun j hj => by simp at hj⟩, fun x hx => by cases hx⟩, rfl, ?_, ?_, ⟨by unfold clampI; dsimp only; omega, by unfold clampI; dsimp only; omega, by unfold clampI; dsimp only; omega, by unfold clampI; dsimp only; omega, trivial⟩⟩
  · show NRowL w (.slice p1 (lsI f1 n1).length c1) (lsI f1 n1).length (gI (lsI f1 n1))
    rw [lsI_len]
    exact h1.congr (fun i hi => (lsI_get f1 n1 i hi).symm)
  · show NRowL w (.slice p2 (lsI f2 n2).length c2) (lsI f2 n2).length (gI (lsI f2 n2))
    rw [lsI_len]
    exact h2.congr (fun i hi => (lsI_get f2 n2 i hi).symm)
set_option maxHeartbeats 4000000 in
set_option maxRecDepth 20000 in
theorem rNew_any (index term : Int) (p1 p2 : Option Addr) (c1 c2 : Nat) (n1 n2 : Nat) (f1 f2 : Nat → Int) (w : World) (h1 : NRowL w (.slice p1 n1 c1) n1 f1) (h2 : NRowL w (.slice p2 n2 c2) n2 f2) :
    Calls Try.prog 23 #[.int .i64 index, .int .i64 term, .agg #[.slice p1 n1 c1, .slice p2 n2 c2]] w fun e w' => e = .returned (DV ⟨clampI index, clampI term, [], lsI f1 n1, lsI f2 n2⟩ ⟨p1, c1, p2, c2, none, 0, []⟩) ∧ DocP ⟨clampI index, clampI term, [], lsI f1 n1, lsI f2 n2⟩ ⟨p1, c1, p2, c2, none, 0, []⟩ w' ∧ Old w w' := by
  have HD := hid (fun (W : World) (u : Old w W) => doc_new (index := index) (term := term) (h1.old u) (h2.old u))
  have HV := hid (show ∀ D : Dg, D = ⟨p1, c1, p2, c2, none, 0, []⟩ → DV ⟨clampI index, clampI term, [], lsI f1 n1, lsI f2 n2⟩ D = .agg #[.int .i64 (clampI index), .int .i64 (clampI term), .slice p1 n1 c1, .slice p2 n2 c2, .slice none 0 0] from fun D e => by subst e; unfold DV Dg.v1 Dg.v2 Dg.ve; rw [lsI_len, lsI_len]; rfl)
  clear h1 h2
  obtain ⟨ci, hci⟩ : ∃ ci, clampI index = ci := ⟨_, rfl⟩
  obtain ⟨ct, hct⟩ : ∃ ct, clampI term = ct := ⟨_, rfl⟩
  have HCI := hid hci
  have HCT := hid hct
  rw [hci, hct] at HD HV ⊢
  clear hci hct
  go_enter Try.func23, Try.ntmps23
  go_upto_region 1 with (fail)
  have U0 := hid (((Old.refl w).alloc (.cells #[.slice p1 n1 c1, .slice p2 n2 c2] 24)).alloc (.cells #[.int .i64 0, .int .i64 0, .slice none 0 0, .slice none 0 0, .slice none 0 0] 54))
  have B2 := hid (((Old.refl _).alloc (.cells #[.int .i64 0, .int .i64 0, .slice none 0 0, .slice none 0 0, .slice none 0 0] 54)).block (alloc_at w (.cells #[.slice p1 n1 c1, .slice p2 n2 c2] 24)))
  have B4 := hid (show ((w.alloc (.cells #[.slice p1 n1 c1, .slice p2 n2 c2] 24)).alloc (.cells #[.int .i64 0, .int .i64 0, .slice none 0 0, .slice none 0 0, .slice none 0 0] 54)).heap[w.heap.size + 1]? = some (.cells #[.int .i64 0, .int .i64 0, .slice none 0 0, .slice none 0 0, .slice none 0 0] 54) from by have := alloc_at (w.alloc (.cells #[.slice p1 n1 c1, .slice p2 n2 c2] 24)) (.cells #[.int .i64 0, .int .i64 0, .slice none 0 0, .slice none 0 0, .slice none 0 0] 54); simpa using this)
  generalize (w.alloc (.cells #[.slice p1 n1 c1, .slice p2 n2 c2] 24)).alloc (.cells #[.int .i64 0, .int .i64 0, .slice none 0 0, .slice none 0 0, .slice none 0 0] 54) = w0 at *
  obtain ⟨a0, a1⟩ := box2 B2.out
  obtain ⟨⟨z0, z1, z2, z3, z4⟩, f0, f1', f2', f3, f4⟩ := box5 B4.out
  have B5 := hid (box5_set (p := .int .i64 ci) (q := .int .i64 ct) (r := .slice p1 n1 c1) (s := .slice p2 n2 c2) (t := .slice none 0 0) B4.out)
  have U9 := hid (U0.out.set5 (b := w.heap.size + 1) (p := .int .i64 ci) (q := .int .i64 ct) (r := .slice p1 n1 c1) (s := .slice p2 n2 c2) (t := .slice none 0 0) (Nat.le_succ _))
  by_cases xl : index < 0
  · have xa : decide (index < 0) = true := decide_eq_true xl
    by_cases yl : term < 0
    · have ya : decide (term < 0) = true := decide_eq_true yl
      obtain rfl : ci = 0 := by rw [← HCI.out]; unfold clampI; omega
      obtain rfl : ct = 0 := by rw [← HCT.out]; unfold clampI; omega
      go_wp2
      obtain ⟨⟨g0, g1, g2, g3, g4⟩, -⟩ := box5 B5.out
      refine bodyPost_ret (v := .agg #[.int .i64 0, .int .i64 0, .slice p1 n1 c1, .slice p2 n2 c2, .slice none 0 0]) (by simp [results, Try.results23, go_sem, g0, g1, g2, g3, g4]) rfl ⟨by rw [HV.out _ rfl], HD.out _ U9.out, U9.out⟩
    · have ya : decide (term < 0) = false := decide_eq_false yl
      by_cases yh : 1099511627776 < term
      · have yb : decide (1099511627776 < term) = true := decide_eq_true yh
        obtain rfl : ci = 0 := by rw [← HCI.out]; unfold clampI; omega
        obtain rfl : ct = 1099511627776 := by rw [← HCT.out]; unfold clampI; omega
        go_wp2
        obtain ⟨⟨g0, g1, g2, g3, g4⟩, -⟩ := box5 B5.out
        refine bodyPost_ret (v := .agg #[.int .i64 0, .int .i64 1099511627776, .slice p1 n1 c1, .slice p2 n2 c2, .slice none 0 0]) (by simp [results, Try.results23, go_sem, g0, g1, g2, g3, g4]) rfl ⟨by rw [HV.out _ rfl], HD.out _ U9.out, U9.out⟩
      · have yb : decide (1099511627776 < term) = false := decide_eq_false yh
        obtain rfl : ci = 0 := by rw [← HCI.out]; unfold clampI; omega
        obtain rfl : term = ct := by have := HCT.out; unfold clampI at this; omega
        go_wp2
        obtain ⟨⟨g0, g1, g2, g3, g4⟩, -⟩ := box5 B5.out
        refine bodyPost_ret (v := .agg #[.int .i64 0, .int .i64 term, .slice p1 n1 c1, .slice p2 n2 c2, .slice none 0 0]) (by simp [results, Try.results23, go_sem, g0, g1, g2, g3, g4]) rfl ⟨by rw [HV.out _ rfl], HD.out _ U9.out, U9.out⟩
  · have xa : decide (index < 0) = false := decide_eq_false xl
    by_cases xh : 1099511627776 < index
    · have xb : decide (1099511627776 < index) = true := decide_eq_true xh
      by_cases yl : term < 0
      · have ya : decide (term < 0) = true := decide_eq_true yl
        obtain rfl : ci = 1099511627776 := by rw [← HCI.out]; unfold clampI; omega
        obtain rfl : ct = 0 := by rw [← HCT.out]; unfold clampI; omega
        go_wp2
        obtain ⟨⟨g0, g1, g2, g3, g4⟩, -⟩ := box5 B5.out
        refine bodyPost_ret (v := .agg #[.int .i64 1099511627776, .int .i64 0, .slice p1 n1 c1, .slice p2 n2 c2, .slice none 0 0]) (by simp [results, Try.results23, go_sem, g0, g1, g2, g3, g4]) rfl ⟨by rw [HV.out _ rfl], HD.out _ U9.out, U9.out⟩
      · have ya : decide (term < 0) = false := decide_eq_false yl
        by_cases yh : 1099511627776 < term
        · have yb : decide (1099511627776 < term) = true := decide_eq_true yh
          obtain rfl : ci = 1099511627776 := by rw [← HCI.out]; unfold clampI; omega
          obtain rfl : ct = 1099511627776 := by rw [← HCT.out]; unfold clampI; omega
          go_wp2
          obtain ⟨⟨g0, g1, g2, g3, g4⟩, -⟩ := box5 B5.out
          refine bodyPost_ret (v := .agg #[.int .i64 1099511627776, .int .i64 1099511627776, .slice p1 n1 c1, .slice p2 n2 c2, .slice none 0 0]) (by simp [results, Try.results23, go_sem, g0, g1, g2, g3, g4]) rfl ⟨by rw [HV.out _ rfl], HD.out _ U9.out, U9.out⟩
        · have yb : decide (1099511627776 < term) = false := decide_eq_false yh
          obtain rfl : ci = 1099511627776 := by rw [← HCI.out]; unfold clampI; omega
          obtain rfl : term = ct := by have := HCT.out; unfold clampI at this; omega
          go_wp2
          obtain ⟨⟨g0, g1, g2, g3, g4⟩, -⟩ := box5 B5.out
          refine bodyPost_ret (v := .agg #[.int .i64 1099511627776, .int .i64 term, .slice p1 n1 c1, .slice p2 n2 c2, .slice none 0 0]) (by simp [results, Try.results23, go_sem, g0, g1, g2, g3, g4]) rfl ⟨by rw [HV.out _ rfl], HD.out _ U9.out, U9.out⟩
    · have xb : decide (1099511627776 < index) = false := decide_eq_false xh
      by_cases yl : term < 0
      · have ya : decide (term < 0) = true := decide_eq_true yl
        obtain rfl : index = ci := by have := HCI.out; unfold clampI at this; omega
        obtain rfl : ct = 0 := by rw [← HCT.out]; unfold clampI; omega
        go_wp2
        obtain ⟨⟨g0, g1, g2, g3, g4⟩, -⟩ := box5 B5.out
        refine bodyPost_ret (v := .agg #[.int .i64 index, .int .i64 0, .slice p1 n1 c1, .slice p2 n2 c2, .slice none 0 0]) (by simp [results, Try.results23, go_sem, g0, g1, g2, g3, g4]) rfl ⟨by rw [HV.out _ rfl], HD.out _ U9.out, U9.out⟩
      · have ya : decide (term < 0) = false := decide_eq_false yl
        by_cases yh : 1099511627776 < term
        · have yb : decide (1099511627776 < term) = true := decide_eq_true yh
          obtain rfl : index = ci := by have := HCI.out; unfold clampI at this; omega
          obtain rfl : ct = 1099511627776 := by rw [← HCT.out]; unfold clampI; omega
          go_wp2
          obtain ⟨⟨g0, g1, g2, g3, g4⟩, -⟩ := box5 B5.out
          refine bodyPost_ret (v := .agg #[.int .i64 index, .int .i64 1099511627776, .slice p1 n1 c1, .slice p2 n2 c2, .slice none 0 0]) (by simp [results, Try.results23, go_sem, g0, g1, g2, g3, g4]) rfl ⟨by rw [HV.out _ rfl], HD.out _ U9.out, U9.out⟩
        · have yb : decide (1099511627776 < term) = false := decide_eq_false yh
          obtain rfl : index = ci := by have := HCI.out; unfold clampI at this; omega
          obtain rfl : term = ct := by have := HCT.out; unfold clampI at this; omega
          go_wp2
          obtain ⟨⟨g0, g1, g2, g3, g4⟩, -⟩ := box5 B5.out
          refine bodyPost_ret (v := .agg #[.int .i64 index, .int .i64 term, .slice p1 n1 c1, .slice p2 n2 c2, .slice none 0 0]) (by simp [results, Try.results23, go_sem, g0, g1, g2, g3, g4]) rfl ⟨by rw [HV.out _ rfl], HD.out _ U9.out, U9.out⟩
set_option maxHeartbeats 4000000 in
set_option maxRecDepth 20000 in
theorem r6Right_any (i t k : Int) (p : Option Addr) (n c : Nat) (w : World) :
    Calls Try.prog 51 #[.agg #[.int .i64 i, .int .i64 t, .int .i64 k, .slice p n c]] w fun e w' => e = .returned (.bool (r6B i t k n)) ∧ Old w w' := by
  obtain ⟨rb, hrb⟩ : ∃ rb, r6B i t k n = rb := ⟨_, rfl⟩
  have HR := hid hrb
  rw [hrb]
  clear hrb
  go_enter Try.func51, Try.ntmps51
  go_upto_region 1 with (fail)
  have U0 := hid ((Old.refl w).alloc (.cells #[.int .i64 i, .int .i64 t, .int .i64 k, .slice p n c] 41))
  have B2 := hid (alloc_at w (.cells #[.int .i64 i, .int .i64 t, .int .i64 k, .slice p n c] 41))
  generalize w.alloc (.cells #[.int .i64 i, .int .i64 t, .int .i64 k, .slice p n c] 41) = w0 at *
  obtain ⟨a0, a1, a2, a3, -⟩ := box4 B2.out
  by_cases h0 : 1 ≤ i
  · have d0 : decide (1 ≤ i) = true := decide_eq_true h0
    by_cases h1 : i ≤ 1099511627776
    · have d1 : decide (i ≤ 1099511627776) = true := decide_eq_true h1
      by_cases h2 : 0 ≤ t
      · have d2 : decide (0 ≤ t) = true := decide_eq_true h2
        by_cases h3 : t ≤ 1099511627776
        · have d3 : decide (t ≤ 1099511627776) = true := decide_eq_true h3
          by_cases h4 : 0 ≤ k
          · have d4 : decide (0 ≤ k) = true := decide_eq_true h4
            by_cases h5 : k ≤ 2
            · have d5 : decide (k ≤ 2) = true := decide_eq_true h5
              by_cases h6 : (n : Int) ≤ 2048
              · have d6 : decide ((n : Int) ≤ 2048) = true := decide_eq_true h6
                obtain rfl : true = rb := by rw [← HR.out]; unfold r6B; symm; rw [decide_eq_true_eq]; omega
                go_wp2
                go_ret
                exact ⟨rfl, U0.out⟩
              · have d6 : decide ((n : Int) ≤ 2048) = false := decide_eq_false h6
                obtain rfl : false = rb := by rw [← HR.out]; unfold r6B; symm; rw [decide_eq_false_iff_not]; omega
                go_wp2
                go_ret
                exact ⟨rfl, U0.out⟩
            · have d5 : decide (k ≤ 2) = false := decide_eq_false h5
              obtain rfl : false = rb := by rw [← HR.out]; unfold r6B; symm; rw [decide_eq_false_iff_not]; omega
              go_wp2
              go_ret
              exact ⟨rfl, U0.out⟩
          · have d4 : decide (0 ≤ k) = false := decide_eq_false h4
            obtain rfl : false = rb := by rw [← HR.out]; unfold r6B; symm; rw [decide_eq_false_iff_not]; omega
            go_wp2
            go_ret
            exact ⟨rfl, U0.out⟩
        · have d3 : decide (t ≤ 1099511627776) = false := decide_eq_false h3
          obtain rfl : false = rb := by rw [← HR.out]; unfold r6B; symm; rw [decide_eq_false_iff_not]; omega
          go_wp2
          go_ret
          exact ⟨rfl, U0.out⟩
      · have d2 : decide (0 ≤ t) = false := decide_eq_false h2
        obtain rfl : false = rb := by rw [← HR.out]; unfold r6B; symm; rw [decide_eq_false_iff_not]; omega
        go_wp2
        go_ret
        exact ⟨rfl, U0.out⟩
    · have d1 : decide (i ≤ 1099511627776) = false := decide_eq_false h1
      obtain rfl : false = rb := by rw [← HR.out]; unfold r6B; symm; rw [decide_eq_false_iff_not]; omega
      go_wp2
      go_ret
      exact ⟨rfl, U0.out⟩
  · have d0 : decide (1 ≤ i) = false := decide_eq_false h0
    obtain rfl : false = rb := by rw [← HR.out]; unfold r6B; symm; rw [decide_eq_false_iff_not]; omega
    go_wp2
    go_ret
    exact ⟨rfl, U0.out⟩
set_option maxHeartbeats 4000000 in
set_option maxRecDepth 20000 in
theorem rRight_any16 (i t k : Int) (v : Value) (d : List Nat) (w : World) (hv : Rw w v d) :
    Calls Try.prog 38 #[.agg #[.int .i64 i, .int .i64 t, .int .i64 k, v]] w fun e w' => e = .returned (.bool (rightE i t k d)) ∧ Old w w' := by
  obtain ⟨p, c, rfl⟩ : ∃ p c, v = .slice p d.length c := Rw.len hv
  have HLd := hid (fun (W : World) (u : Old w W) (hl : d.length ≤ 1048576) => rLoad_any d W (.slice p d.length c) (hv.old u) hl)
  have HRg := hid (r6_right i t k d)
  obtain ⟨n, hn⟩ : ∃ n, d.length = n := ⟨_, rfl⟩
  rw [hn] at HLd HRg ⊢
  clear hn hv
  have H6 := hid (fun (W : World) => r6Right_any i t k p n c W)
  generalize rightE i t k d = rb at *
  obtain ⟨sb, hsb⟩ : ∃ sb, r6B i t k n = sb := ⟨_, rfl⟩
  have HS := hid hsb
  rw [hsb] at HRg H6
  clear hsb
  go_enter Try.func38, Try.ntmps38
  go_upto_region 1 with (fail)
  have U0 := hid ((Old.refl w).alloc (.cells #[.int .i64 i, .int .i64 t, .int .i64 k, .slice p n c] 41))
  have B2 := hid (alloc_at w (.cells #[.int .i64 i, .int .i64 t, .int .i64 k, .slice p n c] 41))
  generalize w.alloc (.cells #[.int .i64 i, .int .i64 t, .int .i64 k, .slice p n c] 41) = w0 at *
  obtain ⟨a0, a1, a2, a3, -⟩ := box4 B2.out
  cases sb with
  | false =>
    have hR := HRg.out
    rw [Bool.false_and] at hR
    subst hR
    go_wp2_with (go_at_call 51; refine (H6.out _).mono ?_; rintro e w1 ⟨rfl, o1⟩; have O1 := hid (U0.out.trans o1); clear o1)
    go_ret
    exact ⟨rfl, O1.out⟩
  | true =>
    have hnl : n ≤ 1048576 := by have := HS.out; unfold r6B at this; rw [decide_eq_true_eq] at this; omega
    have HLn := hid (fun (W : World) (u : Old w W) => HLd.out W u hnl)
    clear HLd hnl HS
    by_cases hk : k = 2
    · subst hk
      have d1 : ((2 : Int) != 2) = false := by decide
      have HRb := hid (show rb = (ldConf d).isSome from by rw [HRg.out]; simp)
      go_upto_region 5 with (go_at_call 51; refine (H6.out _).mono ?_; rintro e w1 ⟨rfl, o1⟩; have O1 := hid (U0.out.trans o1); have B3 := hid (o1.block B2.out); obtain ⟨b0, b1, b2, b3, -⟩ := box4 B3.out; clear o1)
      go_wp2_with (go_at_call 52; refine (HLn.out _ O1.out).mono ?_; rintro e w2 ⟨o2, hq⟩; have O2 := hid (O1.out.trans o2); rcases hq with ⟨x1, x2, t1, t2, z1, z2, hl, rfl, -⟩ | ⟨hl, t1, m1, z1, t2, m2, z2, rfl⟩)
      · go_ret
        exact ⟨by rw [HRb.out, hl]; rfl, O2.out.alloc _⟩
      · go_ret
        exact ⟨by rw [HRb.out, hl]; rfl, O2.out.alloc _⟩
    · have d1 : (k != 2) = true := by simp [hk]
      have hR := HRg.out
      rw [decide_eq_true hk, Bool.true_or, Bool.and_true] at hR
      subst hR
      go_wp2_with (go_at_call 51; refine (H6.out _).mono ?_; rintro e w1 ⟨rfl, o1⟩; have O1 := hid (U0.out.trans o1); have B3 := hid (o1.block B2.out); obtain ⟨b0, b1, b2, b3, -⟩ := box4 B3.out; clear o1)
      go_ret
      exact ⟨rfl, O1.out⟩
end Go.Proofs.Ytgpfmohaogppiaa
