/- vers: the document's example; no condition. -/
import Derived.Test.YtbjikfcegiagjaaXi
import Derived.Sort.AtCall
namespace Go.Proofs.Ytbjikfcegiagjaa
open Go.RowKit Go.Lib
set_option linter.unusedVariables false
set_option linter.unusedSimpArgs false
set_option maxRecDepth 20000
theorem ex1 : putR 4607182418800017408 5 9 [] = (0, [⟨4607182418800017408, 5⟩]) := by kernel_rfl
theorem ex2 : putR 4607182418800017408 3 9 [⟨4607182418800017408, 5⟩] = (0, [⟨4607182418800017408, 5⟩]) := by kernel_rfl
theorem ex3 : putR 4611686018427387904 7 9 [⟨4607182418800017408, 5⟩] = (0, [⟨4607182418800017408, 5⟩, ⟨4611686018427387904, 7⟩]) := by kernel_rfl
theorem ex4 : atL (Fl.code 4607182418800017408) [⟨4607182418800017408, 5⟩, ⟨4611686018427387904, 7⟩] = 5 := by kernel_rfl
theorem ex5 : overT (hasB 4607182418800017408 4611686018427387904 false true) [⟨4607182418800017408, 5⟩, ⟨4611686018427387904, 7⟩] 2 = 5 := by kernel_rfl
theorem ex6 : overT (hasB 0 4621256167635550208 false false) [⟨4607182418800017408, 5⟩, ⟨4611686018427387904, 7⟩] 2 = 7 := by kernel_rfl
theorem ex7 : keepL 5 [⟨4607182418800017408, 5⟩, ⟨4611686018427387904, 7⟩] = [⟨4611686018427387904, 7⟩] := by kernel_rfl
theorem ex8 : mostC 9 = 9 := by kernel_rfl
theorem good0 : Good [] := ⟨List.Pairwise.nil, fun x hx => by simp at hx⟩
theorem wone : Fl.W 4607182418800017408 := by unfold Fl.W; omega
theorem wtwo : Fl.W 4611686018427387904 := by unfold Fl.W; omega
theorem good1 : Good [⟨4607182418800017408, 5⟩] := by have := put_good (n := 5) (most := 9) wone good0; rwa [ex1] at this
theorem good2 : Good [⟨4607182418800017408, 5⟩, ⟨4611686018427387904, 7⟩] := by have := put_good (n := 7) (most := 9) wtwo good1; rwa [ex3] at this
theorem TabAt.below {base : Nat} {w w' : World} {b : Nat} {most : Int} {v : Value} {L : List It} (h : TabAt base w b most v L) (c : Chg (blks b v) w w') : Below base w w' := c.below base (fun k hk => (h.blk k hk).1) (by have := h.1; have := h.lt; omega)
attribute [local go_sem] run_bits run_frombits run_store_float
set_option maxHeartbeats 4000000 in
set_option maxRecDepth 20000 in
theorem alive_any (w : World) :
    Calls Try.prog 10 #[] w fun e w' => e = .returned (.bool true) ∧ Old w w' := by
  have P1 := hid (fun (W : World) (v : Value) (h : TabAt w.heap.size W w.heap.size 9 v []) => put_any w.heap.size w.heap.size 9 5 v [] 4607182418800017408 wone W h good0 (by decide))
  rw [ex1] at P1
  have P2 := hid (fun (W : World) (v : Value) (h : TabAt w.heap.size W w.heap.size 9 v [⟨4607182418800017408, 5⟩]) => put_any w.heap.size w.heap.size 9 3 v _ 4607182418800017408 wone W h good1 (by decide))
  rw [ex2] at P2
  have P3 := hid (fun (W : World) (v : Value) (h : TabAt w.heap.size W w.heap.size 9 v [⟨4607182418800017408, 5⟩]) => put_any w.heap.size w.heap.size 9 7 v _ 4611686018427387904 wtwo W h good1 (by decide))
  rw [ex3] at P3
  go_enter Try.func10, Try.ntmps10
  go_upto_region 4 with (first | (go_at_call 9; refine (new_any 9 _).mono ?_; rintro e w1 ⟨rfl, t1, u1⟩; rw [ex8] at t1; have T1 := hid t1; have U1 := hid u1; clear t1 u1) | (go_at_call_has 12 (Value.int .i64 5); refine (P1.out _ _ T1.out).mono ?_; rintro e w2 ⟨v2, rfl, t2, c2, n2⟩; have T2 := hid t2; have U2 := hid (U1.out.below (T1.out.below c2)); clear t2 c2 n2) | (go_at_call_has 12 (Value.int .i64 3); refine (P2.out _ _ T2.out).mono ?_; rintro e w3 ⟨v3, rfl, t3, c3, n3⟩; have T3 := hid t3; have U3 := hid (U2.out.below (T2.out.below c3)); clear t3 c3 n3) | (go_at_call_has 12 (Value.int .i64 7); refine (P3.out _ _ T3.out).mono ?_; rintro e w4 ⟨v4, rfl, t4, c4, n4⟩; have T4 := hid t4; have U4 := hid (U3.out.below (T3.out.below c4)); clear t4 c4 n4))
  have A1 := hid (at_any w.heap.size w.heap.size 9 v4 _ 4607182418800017408 wone w4 T4.out good2 (by decide))
  rw [ex4] at A1
  have O1 := hid (fun (W : World) (u : Old w4 W) => over_any w.heap.size w.heap.size 9 v4 _ 4607182418800017408 4611686018427387904 wone wtwo false true W (T4.out.old u) good2 (by decide))
  have O2 := hid (fun (W : World) (u : Old w4 W) => over_any w.heap.size w.heap.size 9 v4 _ 0 4621256167635550208 (by unfold Fl.W; omega) (by unfold Fl.W; omega) false false W (T4.out.old u) good2 (by decide))
  have D1 := hid (fun (W : World) (u : Old w4 W) => drop_any w.heap.size w.heap.size 9 5 v4 _ W (by decide) (T4.out.old u))
  rw [ex7] at D1
  simp only [List.length_cons, List.length_nil, Nat.zero_add, Nat.reduceAdd, ex5, ex6] at O1 O2
  clear P1 P2 P3 T1 T2 T3 U1 U2 U3
  go_wp2_with (first | (go_at_call 14; refine A1.out.mono ?_; rintro e x1 ⟨rfl, u1⟩; have V1 := hid u1; clear u1) | (go_at_call_has 20 (Value.float .f64 4611686018427387904); refine (O1.out _ V1.out).mono ?_; rintro e x2 ⟨rfl, u2⟩; have V2 := hid (V1.out.trans u2); clear u2) | (go_at_call_has 20 (Value.float .f64 4621256167635550208); refine (O2.out _ V2.out).mono ?_; rintro e x3 ⟨rfl, u3⟩; have V3 := hid (V2.out.trans u3); clear u3) | (go_at_call 17; refine (D1.out _ V3.out).mono ?_; rintro e x4 ⟨v5, rfl, t5, c5, n5⟩; have T5 := hid t5; have V4 := hid ((U4.out.trans V3.out).below ((T4.out.old V3.out).below c5)); clear t5 c5 n5) | (go_at_call 19; refine (len_any _ _ _ _ _ _ T5.out).mono ?_; rintro e x5 ⟨rfl, hx5⟩; have hx6 := hx5.symm; subst hx6) | (go_at_call 22; refine (all_any _ _ _ _ _ _ (by decide) T5.out).mono ?_; rintro e x6 ⟨v6, rfl, o6, u6⟩; obtain ⟨a6, c6, hv6⟩ := o6.len; subst hv6; have V6 := hid (V4.out.trans u6); clear o6 u6))
  go_ret
  exact ⟨rfl, V6.out⟩
end Go.Proofs.Ytbjikfcegiagjaa
