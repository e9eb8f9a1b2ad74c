/- preds: what Put keeps; the document's example; a row of calls as it lies in memory and as an argument; no condition. -/
import Derived.Test.YtodoogcllahfgaaYh
import Derived.Sort.AtCall
import Derived.SizedLaws
import Derived.ProofKit
import Derived.OpenShut
import Derived.Lib.SmallJoins
namespace Go.Proofs.Ytodoogcllahfgaa
open Go.RowKit Go.Lib
set_option linter.unusedVariables false
set_option linter.unusedSimpArgs false
set_option maxRecDepth 20000
theorem put_good {x y : Nat} {p q : Bool} {n most : Int} {L : List It} (hx : Fl.W x) (hy : Fl.W y) (h : Good L) : Good (putR x y p q n most L).2 := by
  have H : Fl.csE x y p q = false → ¬ (n < 1 ∨ 1099511627776 < n) → Good (putL ⟨Fl.csU x y p q, Fl.csV x y p q, false, false, n⟩ L) := fun hn hb => by
    refine ⟨put_asc _ L h.1, fun z hz => ?_⟩
    rcases mem_put _ L z hz with rfl | e | ⟨y', hy', _, rfl⟩
    · have hf := Fl.cs_isForm x y p q hx hy
      rw [hn] at hf
      exact ⟨hf, rfl, rfl, by show 1 ≤ n; omega, by show n ≤ 1099511627776; omega⟩
    · exact h.2 z e
    · have := h.2 y' hy'
      exact ⟨this.1, this.2.1, this.2.2.1, by rw [n_with]; show 1 ≤ max y'.n n; have := this.2.2.2; omega, by rw [n_with]; show max y'.n n ≤ 1099511627776; have := this.2.2.2; omega⟩
  unfold putR
  by_cases h1 : Fl.csE x y p q = true
  · rw [if_pos h1]; exact h
  · rw [if_neg h1]
    by_cases h2 : n < 1 ∨ 1099511627776 < n
    · rw [if_pos h2]; exact h
    · rw [if_neg h2]
      have q' := H (by simpa using h1) h2
      (repeat' split) <;> first | exact q' | exact h
theorem put_most {x y : Nat} {p q : Bool} {n most : Int} {L : List It} (hG : Good L) (h : (L.length : Int) ≤ most) : ((putR x y p q n most L).2.length : Int) ≤ most := by
  unfold putR
  by_cases h1 : Fl.csE x y p q = true
  · rw [if_pos h1]; exact h
  · rw [if_neg h1]
    have h1' : Fl.csE x y p q = false := by simpa using h1
    by_cases h2 : n < 1 ∨ 1099511627776 < n
    · rw [if_pos h2]; exact h
    · rw [if_neg h2]
      by_cases ht : there (skc x y p q) L = true
      · rw [if_pos ht]
        simp [there] at ht
        have hp := put_set ⟨Fl.csU x y p q, Fl.csV x y p q, false, false, n⟩ L hG.1 (by rw [kc_new x y p q n h1']; exact ht.1) (by rw [kc_new x y p q n h1']; exact ht.2)
        simp only [hp, List.length_set]
        exact h
      · rw [if_neg ht]
        by_cases hm : most ≤ (L.length : Int)
        · rw [if_pos hm]; exact h
        · rw [if_neg hm]
          have := put_len ⟨Fl.csU x y p q, Fl.csV x y p q, false, false, n⟩ L
          simp only
          omega
def E1 : It := ⟨4607182418800017408, 4613937818241073151, false, false, 5⟩
def E2 : It := ⟨4611686018427387904, 4616189618054758400, false, false, 3⟩
theorem ex1 : putR 4607182418800017408 4613937818241073152 false true 5 9 [] = (0, [E1]) := by kernel_rfl
theorem ex2 : putR 4611686018427387904 4616189618054758400 false false 3 9 [E1] = (0, [E1, E2]) := by kernel_rfl
theorem ex3 : overT 4607182418800017408 [E1, E2] 2 = 5 := by kernel_rfl
theorem ex4 : overT 4611686018427387904 [E1, E2] 2 = 5 := by kernel_rfl
theorem ex5 : overT 4613937818241073152 [E1, E2] 2 = 3 := by kernel_rfl
theorem ex6 : overT 4617315517961601024 [E1, E2] 2 = 0 := by kernel_rfl
theorem ex7 : keepL 3 [E1, E2] = [E1] := by kernel_rfl
theorem ex8 : mostC 9 = 9 := by kernel_rfl
theorem good0 : Good [] := ⟨List.Pairwise.nil, fun x hx => by simp at hx⟩
theorem w1 : Fl.W 4607182418800017408 := by unfold Fl.W; omega
theorem w2 : Fl.W 4611686018427387904 := by unfold Fl.W; omega
theorem w3 : Fl.W 4613937818241073152 := by unfold Fl.W; omega
theorem w4 : Fl.W 4616189618054758400 := by unfold Fl.W; omega
theorem w5 : Fl.W 4617315517961601024 := by unfold Fl.W; omega
theorem good1 : Good [E1] := by have := put_good (p := false) (q := true) (n := 5) (most := 9) w1 w3 good0; rwa [ex1] at this
theorem good2 : Good [E1, E2] := by have := put_good (p := false) (q := false) (n := 3) (most := 9) w2 w4 good1; rwa [ex2] at this
theorem TabAt.below {base : Nat} {w w' : World} {b : Nat} {most : Int} {v : Value} {L : List It} (h : TabAt base w b most v L) (c : Chg (blks b v) w w') : Below base w w' := c.below base (fun k hk => (h.blk k hk).1) (by have := h.1; have := h.lt; omega)
attribute [local go_sem] run_bits run_frombits run_store_float
set_option maxHeartbeats 4000000 in
set_option maxRecDepth 20000 in
theorem alive_any (w : World) :
    Calls Try.prog 5 #[] w fun e w' => e = .returned (.bool true) ∧ Old w w' := by
  have P1 := hid (fun (W : World) (v : Value) (h : TabAt w.heap.size W w.heap.size 9 v []) => put_any w.heap.size w.heap.size 9 5 v [] 4607182418800017408 4613937818241073152 false true w1 w3 W h good0 (by decide))
  rw [ex1] at P1
  have P2 := hid (fun (W : World) (v : Value) (h : TabAt w.heap.size W w.heap.size 9 v [E1]) => put_any w.heap.size w.heap.size 9 3 v _ 4611686018427387904 4616189618054758400 false false w2 w4 W h good1 (by decide))
  rw [ex2] at P2
  go_enter Try.func5, Try.ntmps5
  go_upto_region 4 with (first | (go_at_call 4; refine (new_any 9 _).mono ?_; rintro e w1 ⟨rfl, t1, u1⟩; rw [ex8] at t1; have T1 := hid t1; have U1 := hid u1; clear t1 u1) | (go_at_call_has 7 (Value.int .i64 5); refine (P1.out _ _ T1.out).mono ?_; rintro e w2 ⟨v2, rfl, t2, c2, n2⟩; have T2 := hid t2; have U2 := hid (U1.out.below (T1.out.below c2)); clear t2 c2 n2) | (go_at_call_has 7 (Value.int .i64 3); refine (P2.out _ _ T2.out).mono ?_; rintro e w4 ⟨v4, rfl, t4, c4, n4⟩; have T4 := hid t4; have U4 := hid (U2.out.below (T2.out.below c4)); clear t4 c4 n4))
  have A1 := hid (fun (W : World) (u : Old w4 W) => at_any w.heap.size w.heap.size 9 v4 _ 4607182418800017408 Go.Proofs.Ytodoogcllahfgaa.w1 W (T4.out.old u) good2 (by decide))
  have A2 := hid (fun (W : World) (u : Old w4 W) => at_any w.heap.size w.heap.size 9 v4 _ 4611686018427387904 Go.Proofs.Ytodoogcllahfgaa.w2 W (T4.out.old u) good2 (by decide))
  have A3 := hid (fun (W : World) (u : Old w4 W) => at_any w.heap.size w.heap.size 9 v4 _ 4613937818241073152 Go.Proofs.Ytodoogcllahfgaa.w3 W (T4.out.old u) good2 (by decide))
  have A4 := hid (fun (W : World) (u : Old w4 W) => at_any w.heap.size w.heap.size 9 v4 _ 4617315517961601024 Go.Proofs.Ytodoogcllahfgaa.w5 W (T4.out.old u) good2 (by decide))
  have D1 := hid (fun (W : World) (u : Old w4 W) => drop_any w.heap.size w.heap.size 9 3 v4 _ W (by decide) (T4.out.old u))
  have HLn := hid (fun (W : World) (u : Old w4 W) => len_any w.heap.size w.heap.size 9 v4 _ W (T4.out.old u))
  rw [ex7] at D1
  simp only [List.length_cons, List.length_nil, Nat.zero_add, Nat.reduceAdd, ex3, ex4, ex5, ex6] at A1 A2 A3 A4 HLn
  clear P1 P2 T1 T2 U1 U2
  go_wp2_with (first | (go_at_call_has 13 (Value.float .f64 4607182418800017408); refine (A1.out _ (Old.refl _)).mono ?_; rintro e x1 ⟨rfl, u1⟩; have V1 := hid u1; clear u1) | (go_at_call_has 13 (Value.float .f64 4611686018427387904); refine (A2.out _ V1.out).mono ?_; rintro e x2 ⟨rfl, u2⟩; have V2 := hid (V1.out.trans u2); clear u2) | (go_at_call_has 13 (Value.float .f64 4613937818241073152); refine (A3.out _ V2.out).mono ?_; rintro e x3 ⟨rfl, u3⟩; have V3 := hid (V2.out.trans u3); clear u3) | (go_at_call_has 13 (Value.float .f64 4617315517961601024); refine (A4.out _ V3.out).mono ?_; rintro e x4 ⟨rfl, u4⟩; have V4 := hid (V3.out.trans u4); clear u4) | (go_at_call 10; refine (D1.out _ V4.out).mono ?_; rintro e x5 ⟨v5, rfl, t5, c5, n5⟩; have T5 := hid t5; have V5 := hid ((U4.out.trans V4.out).below ((T4.out.old V4.out).below c5)); clear t5 c5 n5) | (go_at_call 12; refine (HLn.out _ V4.out).mono ?_; rintro e x6 ⟨rfl, hx5⟩; have hx6 := hx5.symm; subst hx6) | (go_at_call 15; refine (all_any _ _ _ _ _ _ (by decide) T5.out).mono ?_; rintro e x7 ⟨v6, rfl, o6, u6⟩; obtain ⟨a6, c6, hv6⟩ := o6.len; subst hv6; have V6 := hid (V5.out.trans u6); clear o6 u6))
  go_ret
  exact ⟨rfl, V6.out⟩
end Go.Proofs.Ytodoogcllahfgaa
