/- What a Reader's val does at each kind: the value that is there, or the Reader's own end; conditions: the Reader lies in memory, alive. -/
import Derived.Test.YtpofccnifecpfaaGe
import Derived.Test.YtpofccnifecpfaaRk
namespace Go.Proofs.Ytpofccnifecpfaa
open Go.RowKit
set_option linter.unusedVariables false
attribute [local go_sem] run_store_float
theorem Chg.ofUp {a b : World} (u : Up a b) (S : List Nat) : Chg S a b := ⟨u.os, u.tape, u.output, u.size, fun k hk _ => u.block k hk⟩
theorem RB.up {w w' : World} {R b0 n : Nat} {x : Nat → Nat} (h : RB w R b0 n x) (u : Up w w') : RB w' R b0 n x := h.chg (Chg.ofUp u []) (by simp) (by simp)
/-- A value whose bytes may be written. -/
structure PVF (w : World) (p : PV) : Prop where
  inn : PV.In w p
  fz : p.bn = 0 ∨ ∀ g, p.b.ownBlock = some g → ∀ j, w.frozen? ⟨g, j, none⟩ = false
set_option maxHeartbeats 1000000 in
theorem val_ok1 (R b0 n : Nat) (x : Nat → Nat) (w : World) (h : RB w R b0 n x) (hb : b0 ≠ R) (hbl : b0 < w.heap.size) (hk : lnK x n ≠ 0) :
    Calls Try.prog 28 #[.pointer (some ⟨R, 0, none⟩), .int .i64 1] w fun e w' => e = .returned (.agg #[.int .i64 1, .int .i64 (lnV x n), .float .f64 0, .slice none 0 0, .bool false]) ∧ RB w' R b0 (n - lnK x n) (sh (lnK x n) x) ∧ Chg [R] w w' := by
  have hlt := h.lt
  have HN := hid (fun (W : World) (hW : RB W R b0 n x) => rnum_ok R b0 n x W hW hb hk)
  have HR := hid h
  clear h hk
  generalize lnV x n = V at *
  generalize lnK x n = K at *
  go_enter Try.func28, Try.ntmps28
  go_wp2_with (fail)
  have up0 : Up w ((w.alloc (.cells #[.int .i64 0, .int .i64 0, .float .f64 0, .slice none 0 0, .bool false] 35)).alloc (.cells #[.int .i64 1, .int .i64 0, .float .f64 0, .slice none 0 0, .bool false] 35)) := ((Up.refl w).alloc _).alloc _
  have hr0 := HR.out.up up0
  have hb4 : Box ((w.alloc (.cells #[.int .i64 0, .int .i64 0, .float .f64 0, .slice none 0 0, .bool false] 35)).alloc (.cells #[.int .i64 1, .int .i64 0, .float .f64 0, .slice none 0 0, .bool false] 35)) w.heap.size #[.int .i64 0, .int .i64 0, .float .f64 0, .slice none 0 0, .bool false] := by
    unfold Box; rw [Below.heap_alloc _ _ _ (by simp)]; exact heap_new _ _
  have hb5 : Box ((w.alloc (.cells #[.int .i64 0, .int .i64 0, .float .f64 0, .slice none 0 0, .bool false] 35)).alloc (.cells #[.int .i64 1, .int .i64 0, .float .f64 0, .slice none 0 0, .bool false] 35)) (w.heap.size + 1) #[.int .i64 1, .int .i64 0, .float .f64 0, .slice none 0 0, .bool false] := by
    have := heap_new (w.alloc (.cells #[.int .i64 0, .int .i64 0, .float .f64 0, .slice none 0 0, .bool false] 35)) (.cells #[.int .i64 1, .int .i64 0, .float .f64 0, .slice none 0 0, .bool false] 35)
    rw [show (w.alloc (.cells #[.int .i64 0, .int .i64 0, .float .f64 0, .slice none 0 0, .bool false] 35)).heap.size = w.heap.size + 1 by simp] at this
    exact this
  refine (HN.out _ hr0).mono ?_
  rintro e w1 ⟨rfl, r1, g1⟩
  have hb4' : Box w1 w.heap.size _ := (g1.block _ hb4.lt (by simp; omega)).trans hb4
  have hb5' : Box w1 (w.heap.size + 1) _ := (g1.block _ hb5.lt (by simp; omega)).trans hb5
  have H1 := hid r1
  have G1 := hid g1
  have U0 := hid up0
  clear r1 g1 hr0 hb4 hb5 up0 HR HN
  have d0 := hb5'.cell 0 _ rfl
  have d1 := hb5'.cell 1 _ rfl
  have d2 := hb5'.cell 2 _ rfl
  have d3 := hb5'.cell 3 _ rfl
  have d4 := hb5'.cell 4 _ rfl
  have f1 := hb5'.free 1
  have hq : Box (w1.setCell ⟨w.heap.size + 1, 1, none⟩ (.int .i64 V)) (w.heap.size + 1) #[.int .i64 1, .int .i64 V, .float .f64 0, .slice none 0 0, .bool false] := heap_setCell_same w1 (w.heap.size + 1) 1 _ _ (.int .i64 V) hb5'
  have hp : Box (w1.setCell ⟨w.heap.size + 1, 1, none⟩ (.int .i64 V)) w.heap.size #[.int .i64 0, .int .i64 0, .float .f64 0, .slice none 0 0, .bool false] := (Below.heap_setCell _ _ _ _ (by simp)).trans hb4'
  have q0 := hq.cell 0 _ rfl
  have q1 := hq.cell 1 _ rfl
  have q2 := hq.cell 2 _ rfl
  have q3 := hq.cell 3 _ rfl
  have q4 := hq.cell 4 _ rfl
  have p0 := hp.cell 0 _ rfl
  have p1 := hp.cell 1 _ rfl
  have p2 := hp.cell 2 _ rfl
  have p3 := hp.cell 3 _ rfl
  have p4 := hp.cell 4 _ rfl
  have z0 := hp.free 0
  have z1 := hp.free 1
  have z2 := hp.free 2
  have z3 := hp.free 3
  have z4 := hp.free 4
  have hfin := ((((hp.put 0 (.int .i64 1)).put 1 (.int .i64 V)).put 2 (.float .f64 0)).put 3 (.slice none 0 0)).put 4 (.bool false)
  have HFin := hid hfin
  have HC : Hid (Chg [w.heap.size, w.heap.size + 1] w1 ((((((w1.setCell ⟨w.heap.size + 1, 1, none⟩ (.int .i64 V)).setCell ⟨w.heap.size, 0, none⟩ (.int .i64 1)).setCell ⟨w.heap.size, 1, none⟩ (.int .i64 V)).setCell ⟨w.heap.size, 2, none⟩ (.float .f64 0)).setCell ⟨w.heap.size, 3, none⟩ (.slice none 0 0)).setCell ⟨w.heap.size, 4, none⟩ (.bool false))) := (((((Chg.set _ _ _ (by simp)).trans (Chg.set _ _ _ (by simp))).trans (Chg.set _ _ _ (by simp))).trans (Chg.set _ _ _ (by simp))).trans (Chg.set _ _ _ (by simp))).trans (Chg.set _ _ _ (by simp))
  clear hb4' hb5' hq hp hfin
  go_wp2
  have g0 := HFin.out.cell 0 (.int .i64 1) rfl
  have g1 := HFin.out.cell 1 (.int .i64 V) rfl
  have g2 := HFin.out.cell 2 (.float .f64 0) rfl
  have g3 := HFin.out.cell 3 (.slice none 0 0) rfl
  have g4 := HFin.out.cell 4 (.bool false) rfl
  refine bodyPost_ret (v := .agg #[.int .i64 1, .int .i64 V, .float .f64 0, .slice none 0 0, .bool false]) (by simp [results, Try.results28, go_sem, g0, g1, g2, g3, g4]) rfl ⟨rfl, H1.out.chg HC.out (by simp; omega) (by simp; omega), ?_⟩
  · have c1 := Chg.up U0.out (G1.out.mono (T := [R]) (by simp))
    exact (((((c1.new _ _ (by simp)).new _ _ (by simp)).new _ _ (by simp)).new _ _ (by simp)).new _ _ (by simp)).new _ _ (by simp)
set_option maxHeartbeats 1000000 in
theorem val_no1 (R b0 n : Nat) (x : Nat → Nat) (w : World) (h : RB w R b0 n x) (hb : b0 ≠ R) (hk : lnK x n = 0) :
    Calls Try.prog 28 #[.pointer (some ⟨R, 0, none⟩), .int .i64 1] w fun e w' => e = .panicked (ended R) ∧ RF w' R 30 ∧ Chg [R] w w' := by
  have HN := hid (fun (W : World) (hW : Up w W) => rnum_no R b0 n x W (h.up hW) hk)
  unfold ended at *
  clear h hk
  go_enter Try.func28, Try.ntmps28
  go_wp2_with (go_at_call 17; refine (HN.out _ (((Up.refl w).alloc _).alloc _)).mono ?_; rintro e w1 ⟨rfl, r1, g1⟩; have H1 := hid r1; have G1 := hid g1; clear r1 g1)
  exact ⟨rfl, rfl, H1.out, Chg.up (((Up.refl w).alloc _).alloc _) G1.out⟩
set_option maxHeartbeats 1000000 in
theorem val_ok2 (R b0 n : Nat) (x : Nat → Nat) (w : World) (h : RB w R b0 n x) (hb : b0 ≠ R) (hbl : b0 < w.heap.size) (hk : lkK x n ≠ 0) :
    Calls Try.prog 28 #[.pointer (some ⟨R, 0, none⟩), .int .i64 2] w fun e w' => e = .returned (.agg #[.int .i64 2, .int .i64 0, .float .f64 (lkV x n), .slice none 0 0, .bool false]) ∧ RB w' R b0 (n - lkK x n) (sh (lkK x n) x) ∧ Chg [R] w w' := by
  have hlt := h.lt
  have HN := hid (fun (W : World) (hW : RB W R b0 n x) => rkey_ok R b0 n x W hW hb hk)
  have HR := hid h
  clear h hk
  generalize lkV x n = V at *
  generalize lkK x n = K at *
  go_enter Try.func28, Try.ntmps28
  go_wp2_with (fail)
  have up0 : Up w ((w.alloc (.cells #[.int .i64 0, .int .i64 0, .float .f64 0, .slice none 0 0, .bool false] 35)).alloc (.cells #[.int .i64 2, .int .i64 0, .float .f64 0, .slice none 0 0, .bool false] 35)) := ((Up.refl w).alloc _).alloc _
  have hr0 := HR.out.up up0
  have hb4 : Box ((w.alloc (.cells #[.int .i64 0, .int .i64 0, .float .f64 0, .slice none 0 0, .bool false] 35)).alloc (.cells #[.int .i64 2, .int .i64 0, .float .f64 0, .slice none 0 0, .bool false] 35)) w.heap.size #[.int .i64 0, .int .i64 0, .float .f64 0, .slice none 0 0, .bool false] := by
    unfold Box; rw [Below.heap_alloc _ _ _ (by simp)]; exact heap_new _ _
  have hb5 : Box ((w.alloc (.cells #[.int .i64 0, .int .i64 0, .float .f64 0, .slice none 0 0, .bool false] 35)).alloc (.cells #[.int .i64 2, .int .i64 0, .float .f64 0, .slice none 0 0, .bool false] 35)) (w.heap.size + 1) #[.int .i64 2, .int .i64 0, .float .f64 0, .slice none 0 0, .bool false] := by
    have := heap_new (w.alloc (.cells #[.int .i64 0, .int .i64 0, .float .f64 0, .slice none 0 0, .bool false] 35)) (.cells #[.int .i64 2, .int .i64 0, .float .f64 0, .slice none 0 0, .bool false] 35)
    rw [show (w.alloc (.cells #[.int .i64 0, .int .i64 0, .float .f64 0, .slice none 0 0, .bool false] 35)).heap.size = w.heap.size + 1 by simp] at this
    exact this
  refine (HN.out _ hr0).mono ?_
  rintro e w1 ⟨rfl, r1, g1⟩
  have hb4' : Box w1 w.heap.size _ := (g1.block _ hb4.lt (by simp; omega)).trans hb4
  have hb5' : Box w1 (w.heap.size + 1) _ := (g1.block _ hb5.lt (by simp; omega)).trans hb5
  have H1 := hid r1
  have G1 := hid g1
  have U0 := hid up0
  clear r1 g1 hr0 hb4 hb5 up0 HR HN
  have d0 := hb5'.cell 0 _ rfl
  have d1 := hb5'.cell 1 _ rfl
  have d2 := hb5'.cell 2 _ rfl
  have d3 := hb5'.cell 3 _ rfl
  have d4 := hb5'.cell 4 _ rfl
  have f2 := hb5'.free 2
  have hq : Box (w1.setCell ⟨w.heap.size + 1, 2, none⟩ (.float .f64 V)) (w.heap.size + 1) #[.int .i64 2, .int .i64 0, .float .f64 V, .slice none 0 0, .bool false] := heap_setCell_same w1 (w.heap.size + 1) 2 _ _ (.float .f64 V) hb5'
  have hp : Box (w1.setCell ⟨w.heap.size + 1, 2, none⟩ (.float .f64 V)) w.heap.size #[.int .i64 0, .int .i64 0, .float .f64 0, .slice none 0 0, .bool false] := (Below.heap_setCell _ _ _ _ (by simp)).trans hb4'
  have q0 := hq.cell 0 _ rfl
  have q1 := hq.cell 1 _ rfl
  have q2 := hq.cell 2 _ rfl
  have q3 := hq.cell 3 _ rfl
  have q4 := hq.cell 4 _ rfl
  have p0 := hp.cell 0 _ rfl
  have p1 := hp.cell 1 _ rfl
  have p2 := hp.cell 2 _ rfl
  have p3 := hp.cell 3 _ rfl
  have p4 := hp.cell 4 _ rfl
  have z0 := hp.free 0
  have z1 := hp.free 1
  have z2 := hp.free 2
  have z3 := hp.free 3
  have z4 := hp.free 4
  have hfin := ((((hp.put 0 (.int .i64 2)).put 1 (.int .i64 0)).put 2 (.float .f64 V)).put 3 (.slice none 0 0)).put 4 (.bool false)
  have HFin := hid hfin
  have HC : Hid (Chg [w.heap.size, w.heap.size + 1] w1 ((((((w1.setCell ⟨w.heap.size + 1, 2, none⟩ (.float .f64 V)).setCell ⟨w.heap.size, 0, none⟩ (.int .i64 2)).setCell ⟨w.heap.size, 1, none⟩ (.int .i64 0)).setCell ⟨w.heap.size, 2, none⟩ (.float .f64 V)).setCell ⟨w.heap.size, 3, none⟩ (.slice none 0 0)).setCell ⟨w.heap.size, 4, none⟩ (.bool false))) := (((((Chg.set _ _ _ (by simp)).trans (Chg.set _ _ _ (by simp))).trans (Chg.set _ _ _ (by simp))).trans (Chg.set _ _ _ (by simp))).trans (Chg.set _ _ _ (by simp))).trans (Chg.set _ _ _ (by simp))
  clear hb4' hb5' hq hp hfin
  go_wp2
  have g0 := HFin.out.cell 0 (.int .i64 2) rfl
  have g1 := HFin.out.cell 1 (.int .i64 0) rfl
  have g2 := HFin.out.cell 2 (.float .f64 V) rfl
  have g3 := HFin.out.cell 3 (.slice none 0 0) rfl
  have g4 := HFin.out.cell 4 (.bool false) rfl
  refine bodyPost_ret (v := .agg #[.int .i64 2, .int .i64 0, .float .f64 V, .slice none 0 0, .bool false]) (by simp [results, Try.results28, go_sem, g0, g1, g2, g3, g4]) rfl ⟨rfl, H1.out.chg HC.out (by simp; omega) (by simp; omega), ?_⟩
  · have c1 := Chg.up U0.out (G1.out.mono (T := [R]) (by simp))
    exact (((((c1.new _ _ (by simp)).new _ _ (by simp)).new _ _ (by simp)).new _ _ (by simp)).new _ _ (by simp)).new _ _ (by simp)
set_option maxHeartbeats 1000000 in
theorem val_no2 (R b0 n : Nat) (x : Nat → Nat) (w : World) (h : RB w R b0 n x) (hb : b0 ≠ R) (hk : lkK x n = 0) :
    Calls Try.prog 28 #[.pointer (some ⟨R, 0, none⟩), .int .i64 2] w fun e w' => e = .panicked (ended R) ∧ RF w' R 30 ∧ Chg [R] w w' := by
  have HN := hid (fun (W : World) (hW : Up w W) => rkey_no R b0 n x W (h.up hW) hk)
  unfold ended at *
  clear h hk
  go_enter Try.func28, Try.ntmps28
  go_wp2_with (go_at_call 18; refine (HN.out _ (((Up.refl w).alloc _).alloc _)).mono ?_; rintro e w1 ⟨rfl, r1, g1⟩; have H1 := hid r1; have G1 := hid g1; clear r1 g1)
  exact ⟨rfl, rfl, H1.out, Chg.up (((Up.refl w).alloc _).alloc _) G1.out⟩
set_option maxHeartbeats 1000000 in
theorem val_ok3 (R b0 n : Nat) (x : Nat → Nat) (m : Nat) (w : World) (h : RB w R b0 n x) (hb : b0 ≠ R) (hbl : b0 < w.heap.size) (hk : lnK x n ≠ 0) (hV : lnV x n = (m : Int)) (hm : m ≤ 4096) (hmn : m ≤ n - lnK x n) :
    Calls Try.prog 28 #[.pointer (some ⟨R, 0, none⟩), .int .i64 3] w fun e w' => ∃ V, e = .returned (.agg #[.int .i64 3, .int .i64 0, .float .f64 0, V, .bool false]) ∧ OwnB w.heap.size w' V m (sh (lnK x n) x) ∧ RB w' R b0 (n - lnK x n - m) (sh (lnK x n + m) x) ∧ Chg [R] w w' := by
  have hlt := h.lt
  have HN := hid (fun (W : World) (hW : RB W R b0 n x) (hl : b0 < W.heap.size) => rbytes_ok R b0 n x m W hW hb hl hk hV hm hmn)
  have HR := hid h
  clear h hk hV hm hmn
  go_enter Try.func28, Try.ntmps28
  go_wp2_with (fail)
  have up0 : Up w ((w.alloc (.cells #[.int .i64 0, .int .i64 0, .float .f64 0, .slice none 0 0, .bool false] 35)).alloc (.cells #[.int .i64 3, .int .i64 0, .float .f64 0, .slice none 0 0, .bool false] 35)) := ((Up.refl w).alloc _).alloc _
  have hr0 := HR.out.up up0
  have hb4 : Box ((w.alloc (.cells #[.int .i64 0, .int .i64 0, .float .f64 0, .slice none 0 0, .bool false] 35)).alloc (.cells #[.int .i64 3, .int .i64 0, .float .f64 0, .slice none 0 0, .bool false] 35)) w.heap.size #[.int .i64 0, .int .i64 0, .float .f64 0, .slice none 0 0, .bool false] := by
    unfold Box; rw [Below.heap_alloc _ _ _ (by simp)]; exact heap_new _ _
  have hb5 : Box ((w.alloc (.cells #[.int .i64 0, .int .i64 0, .float .f64 0, .slice none 0 0, .bool false] 35)).alloc (.cells #[.int .i64 3, .int .i64 0, .float .f64 0, .slice none 0 0, .bool false] 35)) (w.heap.size + 1) #[.int .i64 3, .int .i64 0, .float .f64 0, .slice none 0 0, .bool false] := by
    have := heap_new (w.alloc (.cells #[.int .i64 0, .int .i64 0, .float .f64 0, .slice none 0 0, .bool false] 35)) (.cells #[.int .i64 3, .int .i64 0, .float .f64 0, .slice none 0 0, .bool false] 35)
    rw [show (w.alloc (.cells #[.int .i64 0, .int .i64 0, .float .f64 0, .slice none 0 0, .bool false] 35)).heap.size = w.heap.size + 1 by simp] at this
    exact this
  have hsz0 : ((w.alloc (.cells #[.int .i64 0, .int .i64 0, .float .f64 0, .slice none 0 0, .bool false] 35)).alloc (.cells #[.int .i64 3, .int .i64 0, .float .f64 0, .slice none 0 0, .bool false] 35)).heap.size = w.heap.size + 2 := by simp
  refine (HN.out _ hr0 (by rw [hsz0]; omega)).mono ?_
  rintro e w1 ⟨V, rfl, o1, r1, g1⟩
  rw [hsz0] at o1
  have hVs : ∃ va vc, V = .slice va m vc := by obtain ⟨a, c, e, _⟩ := o1.len; exact ⟨a, c, e⟩
  have HO := hid o1
  clear o1
  have hb4' : Box w1 w.heap.size _ := (g1.block _ hb4.lt (by simp; omega)).trans hb4
  have hb5' : Box w1 (w.heap.size + 1) _ := (g1.block _ hb5.lt (by simp; omega)).trans hb5
  have H1 := hid r1
  have G1 := hid g1
  have U0 := hid up0
  clear r1 g1 hr0 hb4 hb5 up0 HR HN
  obtain ⟨va, vc, hVs⟩ := hVs
  subst hVs
  have d0 := hb5'.cell 0 _ rfl
  have d1 := hb5'.cell 1 _ rfl
  have d2 := hb5'.cell 2 _ rfl
  have d3 := hb5'.cell 3 _ rfl
  have d4 := hb5'.cell 4 _ rfl
  have f3 := hb5'.free 3
  have hq : Box (w1.setCell ⟨w.heap.size + 1, 3, none⟩ (.slice va m vc)) (w.heap.size + 1) #[.int .i64 3, .int .i64 0, .float .f64 0, .slice va m vc, .bool false] := heap_setCell_same w1 (w.heap.size + 1) 3 _ _ (.slice va m vc) hb5'
  have hp : Box (w1.setCell ⟨w.heap.size + 1, 3, none⟩ (.slice va m vc)) w.heap.size #[.int .i64 0, .int .i64 0, .float .f64 0, .slice none 0 0, .bool false] := (Below.heap_setCell _ _ _ _ (by simp)).trans hb4'
  have q0 := hq.cell 0 _ rfl
  have q1 := hq.cell 1 _ rfl
  have q2 := hq.cell 2 _ rfl
  have q3 := hq.cell 3 _ rfl
  have q4 := hq.cell 4 _ rfl
  have p0 := hp.cell 0 _ rfl
  have p1 := hp.cell 1 _ rfl
  have p2 := hp.cell 2 _ rfl
  have p3 := hp.cell 3 _ rfl
  have p4 := hp.cell 4 _ rfl
  have z0 := hp.free 0
  have z1 := hp.free 1
  have z2 := hp.free 2
  have z3 := hp.free 3
  have z4 := hp.free 4
  have hfin := ((((hp.put 0 (.int .i64 3)).put 1 (.int .i64 0)).put 2 (.float .f64 0)).put 3 (.slice va m vc)).put 4 (.bool false)
  have HFin := hid hfin
  have HC : Hid (Chg [w.heap.size, w.heap.size + 1] w1 ((((((w1.setCell ⟨w.heap.size + 1, 3, none⟩ (.slice va m vc)).setCell ⟨w.heap.size, 0, none⟩ (.int .i64 3)).setCell ⟨w.heap.size, 1, none⟩ (.int .i64 0)).setCell ⟨w.heap.size, 2, none⟩ (.float .f64 0)).setCell ⟨w.heap.size, 3, none⟩ (.slice va m vc)).setCell ⟨w.heap.size, 4, none⟩ (.bool false))) := (((((Chg.set _ _ _ (by simp)).trans (Chg.set _ _ _ (by simp))).trans (Chg.set _ _ _ (by simp))).trans (Chg.set _ _ _ (by simp))).trans (Chg.set _ _ _ (by simp))).trans (Chg.set _ _ _ (by simp))
  clear hb4' hb5' hq hp hfin
  go_wp2
  have g0 := HFin.out.cell 0 (.int .i64 3) rfl
  have g1 := HFin.out.cell 1 (.int .i64 0) rfl
  have g2 := HFin.out.cell 2 (.float .f64 0) rfl
  have g3 := HFin.out.cell 3 (.slice va m vc) rfl
  have g4 := HFin.out.cell 4 (.bool false) rfl
  refine bodyPost_ret (v := .agg #[.int .i64 3, .int .i64 0, .float .f64 0, .slice va m vc, .bool false]) (by simp [results, Try.results28, go_sem, g0, g1, g2, g3, g4]) rfl ⟨_, rfl, ?_, H1.out.chg HC.out (by simp; omega) (by simp; omega), ?_⟩
  · have hs1 := G1.out.size
    have e1 : w.heap.size + 2 ≤ w1.heap.size := by simpa using hs1
    have gs : ∀ (W : World) (p : Addr) (u : Value), w.heap.size + 2 > p.block → OwnB (w.heap.size + 2) W (.slice va m vc) m (sh (lnK x n) x) → OwnB (w.heap.size + 2) (W.setCell p u) (.slice va m vc) m (sh (lnK x n) x) := by
      intro W p u hp ho
      refine ho.grown (row := some p.block) ⟨rfl, rfl, rfl, by simp, fun k _ hk => Below.heap_setCell _ _ _ k (fun e => hk (by rw [e]))⟩ ?_
      right; intro e; have := (World.ownsRow.lt ho.own _ e).1; omega
    have := gs _ ⟨w.heap.size, 4, none⟩ (.bool false) (by simp) (gs _ ⟨w.heap.size, 3, none⟩ (.slice va m vc) (by simp) (gs _ ⟨w.heap.size, 2, none⟩ (.float .f64 0) (by simp) (gs _ ⟨w.heap.size, 1, none⟩ (.int .i64 0) (by simp) (gs _ ⟨w.heap.size, 0, none⟩ (.int .i64 3) (by simp) (gs _ ⟨w.heap.size + 1, 3, none⟩ (.slice va m vc) (by simp) HO.out)))))
    exact this.mono (by omega)
  · have c1 := Chg.up U0.out (G1.out.mono (T := [R]) (by simp))
    exact (((((c1.new _ _ (by simp)).new _ _ (by simp)).new _ _ (by simp)).new _ _ (by simp)).new _ _ (by simp)).new _ _ (by simp)
set_option maxHeartbeats 1000000 in
theorem val_no3 (R b0 n : Nat) (x : Nat → Nat) (w : World) (h : RB w R b0 n x) (hb : b0 ≠ R) (hk : lbK x n = 0) :
    Calls Try.prog 28 #[.pointer (some ⟨R, 0, none⟩), .int .i64 3] w fun e w' => e = .panicked (ended R) ∧ RF w' R 30 ∧ Chg [R] w w' := by
  have HN := hid (fun (W : World) (hW : Up w W) => rbytes_no R b0 n x W (h.up hW) hb hk)
  unfold ended at *
  clear h hk
  go_enter Try.func28, Try.ntmps28
  go_wp2_with (go_at_call 19; refine (HN.out _ (((Up.refl w).alloc _).alloc _)).mono ?_; rintro e w1 ⟨rfl, r1, g1⟩; have H1 := hid r1; have G1 := hid g1; clear r1 g1)
  exact ⟨rfl, rfl, H1.out, Chg.up (((Up.refl w).alloc _).alloc _) G1.out⟩
set_option maxHeartbeats 1000000 in
theorem val_ok4 (R b0 n : Nat) (x : Nat → Nat) (w : World) (h : RB w R b0 n x) (hb : b0 ≠ R) (hbl : b0 < w.heap.size) (hk : lfK x n ≠ 0) :
    Calls Try.prog 28 #[.pointer (some ⟨R, 0, none⟩), .int .i64 4] w fun e w' => e = .returned (.agg #[.int .i64 4, .int .i64 0, .float .f64 0, .slice none 0 0, .bool (lfV x n)]) ∧ RB w' R b0 (n - lfK x n) (sh (lfK x n) x) ∧ Chg [R] w w' := by
  have hlt := h.lt
  have HN := hid (fun (W : World) (hW : RB W R b0 n x) => rflag_ok R b0 n x W hW hb hk)
  have HR := hid h
  clear h hk
  generalize lfV x n = V at *
  generalize lfK x n = K at *
  go_enter Try.func28, Try.ntmps28
  go_wp2_with (fail)
  have up0 : Up w ((w.alloc (.cells #[.int .i64 0, .int .i64 0, .float .f64 0, .slice none 0 0, .bool false] 35)).alloc (.cells #[.int .i64 4, .int .i64 0, .float .f64 0, .slice none 0 0, .bool false] 35)) := ((Up.refl w).alloc _).alloc _
  have hr0 := HR.out.up up0
  have hb4 : Box ((w.alloc (.cells #[.int .i64 0, .int .i64 0, .float .f64 0, .slice none 0 0, .bool false] 35)).alloc (.cells #[.int .i64 4, .int .i64 0, .float .f64 0, .slice none 0 0, .bool false] 35)) w.heap.size #[.int .i64 0, .int .i64 0, .float .f64 0, .slice none 0 0, .bool false] := by
    unfold Box; rw [Below.heap_alloc _ _ _ (by simp)]; exact heap_new _ _
  have hb5 : Box ((w.alloc (.cells #[.int .i64 0, .int .i64 0, .float .f64 0, .slice none 0 0, .bool false] 35)).alloc (.cells #[.int .i64 4, .int .i64 0, .float .f64 0, .slice none 0 0, .bool false] 35)) (w.heap.size + 1) #[.int .i64 4, .int .i64 0, .float .f64 0, .slice none 0 0, .bool false] := by
    have := heap_new (w.alloc (.cells #[.int .i64 0, .int .i64 0, .float .f64 0, .slice none 0 0, .bool false] 35)) (.cells #[.int .i64 4, .int .i64 0, .float .f64 0, .slice none 0 0, .bool false] 35)
    rw [show (w.alloc (.cells #[.int .i64 0, .int .i64 0, .float .f64 0, .slice none 0 0, .bool false] 35)).heap.size = w.heap.size + 1 by simp] at this
    exact this
  refine (HN.out _ hr0).mono ?_
  rintro e w1 ⟨rfl, r1, g1⟩
  have hb4' : Box w1 w.heap.size _ := (g1.block _ hb4.lt (by simp; omega)).trans hb4
  have hb5' : Box w1 (w.heap.size + 1) _ := (g1.block _ hb5.lt (by simp; omega)).trans hb5
  have H1 := hid r1
  have G1 := hid g1
  have U0 := hid up0
  clear r1 g1 hr0 hb4 hb5 up0 HR HN
  have d0 := hb5'.cell 0 _ rfl
  have d1 := hb5'.cell 1 _ rfl
  have d2 := hb5'.cell 2 _ rfl
  have d3 := hb5'.cell 3 _ rfl
  have d4 := hb5'.cell 4 _ rfl
  have f4 := hb5'.free 4
  have hq : Box (w1.setCell ⟨w.heap.size + 1, 4, none⟩ (.bool V)) (w.heap.size + 1) #[.int .i64 4, .int .i64 0, .float .f64 0, .slice none 0 0, .bool V] := heap_setCell_same w1 (w.heap.size + 1) 4 _ _ (.bool V) hb5'
  have hp : Box (w1.setCell ⟨w.heap.size + 1, 4, none⟩ (.bool V)) w.heap.size #[.int .i64 0, .int .i64 0, .float .f64 0, .slice none 0 0, .bool false] := (Below.heap_setCell _ _ _ _ (by simp)).trans hb4'
  have q0 := hq.cell 0 _ rfl
  have q1 := hq.cell 1 _ rfl
  have q2 := hq.cell 2 _ rfl
  have q3 := hq.cell 3 _ rfl
  have q4 := hq.cell 4 _ rfl
  have p0 := hp.cell 0 _ rfl
  have p1 := hp.cell 1 _ rfl
  have p2 := hp.cell 2 _ rfl
  have p3 := hp.cell 3 _ rfl
  have p4 := hp.cell 4 _ rfl
  have z0 := hp.free 0
  have z1 := hp.free 1
  have z2 := hp.free 2
  have z3 := hp.free 3
  have z4 := hp.free 4
  have hfin := ((((hp.put 0 (.int .i64 4)).put 1 (.int .i64 0)).put 2 (.float .f64 0)).put 3 (.slice none 0 0)).put 4 (.bool V)
  have HFin := hid hfin
  have HC : Hid (Chg [w.heap.size, w.heap.size + 1] w1 ((((((w1.setCell ⟨w.heap.size + 1, 4, none⟩ (.bool V)).setCell ⟨w.heap.size, 0, none⟩ (.int .i64 4)).setCell ⟨w.heap.size, 1, none⟩ (.int .i64 0)).setCell ⟨w.heap.size, 2, none⟩ (.float .f64 0)).setCell ⟨w.heap.size, 3, none⟩ (.slice none 0 0)).setCell ⟨w.heap.size, 4, none⟩ (.bool V))) := (((((Chg.set _ _ _ (by simp)).trans (Chg.set _ _ _ (by simp))).trans (Chg.set _ _ _ (by simp))).trans (Chg.set _ _ _ (by simp))).trans (Chg.set _ _ _ (by simp))).trans (Chg.set _ _ _ (by simp))
  clear hb4' hb5' hq hp hfin
  go_wp2
  have g0 := HFin.out.cell 0 (.int .i64 4) rfl
  have g1 := HFin.out.cell 1 (.int .i64 0) rfl
  have g2 := HFin.out.cell 2 (.float .f64 0) rfl
  have g3 := HFin.out.cell 3 (.slice none 0 0) rfl
  have g4 := HFin.out.cell 4 (.bool V) rfl
  refine bodyPost_ret (v := .agg #[.int .i64 4, .int .i64 0, .float .f64 0, .slice none 0 0, .bool V]) (by simp [results, Try.results28, go_sem, g0, g1, g2, g3, g4]) rfl ⟨rfl, H1.out.chg HC.out (by simp; omega) (by simp; omega), ?_⟩
  · have c1 := Chg.up U0.out (G1.out.mono (T := [R]) (by simp))
    exact (((((c1.new _ _ (by simp)).new _ _ (by simp)).new _ _ (by simp)).new _ _ (by simp)).new _ _ (by simp)).new _ _ (by simp)
set_option maxHeartbeats 1000000 in
theorem val_no4 (R b0 n : Nat) (x : Nat → Nat) (w : World) (h : RB w R b0 n x) (hb : b0 ≠ R) (hk : lfK x n = 0) :
    Calls Try.prog 28 #[.pointer (some ⟨R, 0, none⟩), .int .i64 4] w fun e w' => e = .panicked (ended R) ∧ RF w' R 30 ∧ Chg [R] w w' := by
  have HN := hid (fun (W : World) (hW : Up w W) => rflag_no R b0 n x W (h.up hW) hk)
  unfold ended at *
  clear h hk
  go_enter Try.func28, Try.ntmps28
  go_wp2_with (go_at_call 20; refine (HN.out _ (((Up.refl w).alloc _).alloc _)).mono ?_; rintro e w1 ⟨rfl, r1, g1⟩; have H1 := hid r1; have G1 := hid g1; clear r1 g1)
  exact ⟨rfl, rfl, H1.out, Chg.up (((Up.refl w).alloc _).alloc _) G1.out⟩
/-- How many bytes a value of a kind has; 0: there is none. -/
def vK (q : Int) (x : Nat → Nat) (n : Nat) : Nat := if q = 1 then lnK x n else if q = 2 then lkK x n else if q = 3 then lbK x n else lfK x n
theorem vK_le (q : Int) (x : Nat → Nat) (n : Nat) : vK q x n ≤ n := by
  unfold vK
  split
  · exact ln_le x n 11 0
  · split
    · exact lkK_le x n
    · split
      · exact lbK_le x n
      · exact lfK_le x n
/-- A value as it is read. -/
structure IsV (q : Int) (x : Nat → Nat) (n : Nat) (p : PV) : Prop where
  ek : p.k = q
  en : p.n = if q = 1 then lnV x n else 0
  ex : p.x = if q = 2 then lkV x n else 0
  ebn : p.bn = if q = 3 then (lnV x n).toNat else 0
  ebx : ∀ i, i < p.bn → p.bx i = x (lnK x n + i)
  eon : p.on = if q = 4 then lfV x n else false
  efr : p.bn = 0 → q ≠ 3 → p.b = .slice none 0 0
theorem lnV_in (x : Nat → Nat) (n : Nat) (hx : ∀ i, i < n → x i < 256) : -9223372036854775808 ≤ lnV x n ∧ lnV x n ≤ 9223372036854775807 := by
  have go : ∀ f k, k + f = 11 → -9223372036854775808 ≤ (ln x n f k).1 ∧ (ln x n f k).1 ≤ 9223372036854775807 := by
    intro f
    induction f with
    | zero => intro k _; unfold ln; exact ⟨by decide, by decide⟩
    | succ f ih =>
      intro k hk
      unfold ln
      split
      · split
        · exact ih (k + 1) (by omega)
        · split
          · exact ⟨by decide, by decide⟩
          · next h1 h2 h3 =>
            apply unf_in
            have ha := acc_lt x k
            show acc x k + x k % 128 * 128 ^ k < _
            by_cases h9 : k = 9
            · subst h9
              have : x 9 % 128 ≤ 1 := by omega
              have e : (128 : Nat) ^ 9 = 9223372036854775808 := by decide
              rw [e] at *
              have : x 9 % 128 * 9223372036854775808 ≤ 1 * 9223372036854775808 := Nat.mul_le_mul_right _ this
              omega
            · have hp : (128 : Nat) ^ (k + 1) ≤ 128 ^ 9 := Nat.pow_le_pow_right (by omega) (by omega)
              have e : (128 : Nat) ^ 9 = 9223372036854775808 := by decide
              have := acc_lt x (k + 1)
              have e2 : acc x (k + 1) = acc x k + x k % 128 * 128 ^ k := rfl
              omega
      · exact ⟨by decide, by decide⟩
  exact go 11 0 rfl
theorem lkV_lt (x : Nat → Nat) (n : Nat) (hx : ∀ i, i < n → x i < 256) : lkV x n < 18446744073709551616 := by
  unfold lkV
  split
  · next h => exact Fl.of_lt _ (Nat.lt_of_lt_of_le (lkC_lt x n hx 8 h.1) (by decide))
  · decide
set_option maxHeartbeats 400000 in
theorem val_any (q : Int) (hq : 1 ≤ q ∧ q ≤ 4) (R b0 n : Nat) (x : Nat → Nat) (w : World) (h : RB w R b0 n x) (hb : b0 ≠ R) (hbl : b0 < w.heap.size) :
    Calls Try.prog 28 #[.pointer (some ⟨R, 0, none⟩), .int .i64 q] w fun e w' => (vK q x n ≠ 0 ∧ ∃ p : PV, e = .returned p.agg ∧ IsV q x n p ∧ PVF w' p ∧ (p.bn = 0 ∨ ∃ g, p.b.ownBlock = some g ∧ w.heap.size ≤ g) ∧ RB w' R b0 (n - vK q x n) (sh (vK q x n) x) ∧ Chg [R] w w') ∨ (vK q x n = 0 ∧ e = .panicked (ended R) ∧ RF w' R 30 ∧ Chg [R] w w') := by
  have hx : ∀ i, i < n → x i < 256 := by obtain ⟨v, _, hv, _⟩ := h; exact hv.lt
  have nil : ∀ (W : World), ByRow W (.slice none 0 0) 0 (fun _ => 0) := fun W => .inl ⟨rfl, none, 0, rfl, fun _ => rfl⟩
  obtain rfl | rfl | rfl | rfl : q = 1 ∨ q = 2 ∨ q = 3 ∨ q = 4 := by omega
  · rw [show vK 1 x n = lnK x n by simp [vK]]
    by_cases hk : lnK x n = 0
    · exact (val_no1 R b0 n x w h hb hk).mono (fun e w' ⟨h1, h2, h3⟩ => .inr ⟨hk, h1, h2, h3⟩)
    · refine (val_ok1 R b0 n x w h hb hbl hk).mono (fun e w' ⟨h1, h2, h3⟩ => .inl ⟨hk, ⟨1, lnV x n, 0, .slice none 0 0, 0, fun _ => 0, false⟩, h1, ⟨rfl, rfl, rfl, rfl, fun i hi => absurd hi (by simp), rfl, fun _ _ => rfl⟩, ⟨⟨by simp, lnV_in x n hx, by simp, nil _⟩, .inl rfl⟩, .inl rfl, h2, h3⟩)
  · rw [show vK 2 x n = lkK x n by simp [vK]]
    by_cases hk : lkK x n = 0
    · exact (val_no2 R b0 n x w h hb hk).mono (fun e w' ⟨h1, h2, h3⟩ => .inr ⟨hk, h1, h2, h3⟩)
    · refine (val_ok2 R b0 n x w h hb hbl hk).mono (fun e w' ⟨h1, h2, h3⟩ => .inl ⟨hk, ⟨2, 0, lkV x n, .slice none 0 0, 0, fun _ => 0, false⟩, h1, ⟨rfl, rfl, rfl, rfl, fun i hi => absurd hi (by simp), rfl, fun _ _ => rfl⟩, ⟨⟨by simp, by simp, lkV_lt x n hx, nil _⟩, .inl rfl⟩, .inl rfl, h2, h3⟩)
  · rw [show vK 3 x n = lbK x n by simp [vK]]
    by_cases hk : lbK x n = 0
    · exact (val_no3 R b0 n x w h hb hk).mono (fun e w' ⟨h1, h2, h3⟩ => .inr ⟨hk, h1, h2, h3⟩)
    · have hc : lnK x n ≠ 0 ∧ 0 ≤ lnV x n ∧ lnV x n ≤ 4096 ∧ (lnV x n).toNat ≤ n - lnK x n := by
        unfold lbK at hk
        by_cases hc : lnK x n ≠ 0 ∧ 0 ≤ lnV x n ∧ lnV x n ≤ 4096 ∧ (lnV x n).toNat ≤ n - lnK x n
        · exact hc
        · rw [if_neg hc] at hk; exact absurd rfl hk
      have e : lbK x n = lnK x n + (lnV x n).toNat := by unfold lbK; rw [if_pos hc]
      refine (val_ok3 R b0 n x (lnV x n).toNat w h hb hbl hc.1 (by omega) (by omega) hc.2.2.2).mono ?_
      rintro e' w' ⟨V, h1, h4, h2, h3⟩
      have hfz : (lnV x n).toNat = 0 ∨ ∀ g, V.ownBlock = some g → ∀ j, w'.frozen? ⟨g, j, none⟩ = false := by
        by_cases hz : (lnV x n).toNat = 0
        · exact .inl hz
        · obtain ⟨g', cap', e5, _, _, _, _, _, h6⟩ := h4.shape (by omega)
          right
          intro g hg j
          rw [e5] at hg
          simp [Value.ownBlock] at hg
          subst hg
          exact h6 j
      refine .inl ⟨hk, ⟨3, 0, 0, V, (lnV x n).toNat, sh (lnK x n) x, false⟩, h1, ⟨rfl, rfl, rfl, rfl, fun i hi => rfl, rfl, fun _ h => absurd rfl h⟩, ⟨⟨by simp, by simp, by simp, h4.row⟩, hfz⟩, ?_, by rw [e, show n - (lnK x n + (lnV x n).toNat) = n - lnK x n - (lnV x n).toNat by omega]; exact h2, h3⟩
      by_cases hz : (lnV x n).toNat = 0
      · exact .inl hz
      · obtain ⟨a, c, hv, h5, h6⟩ := h4.len
        right
        cases a with
        | none => exact absurd (h5 rfl).1 hz
        | some ad =>
          refine ⟨ad.block, ?_, (h6 ad rfl).2.2.1⟩
          simp only [hv]; rfl
  · rw [show vK 4 x n = lfK x n by simp [vK]]
    by_cases hk : lfK x n = 0
    · exact (val_no4 R b0 n x w h hb hk).mono (fun e w' ⟨h1, h2, h3⟩ => .inr ⟨hk, h1, h2, h3⟩)
    · refine (val_ok4 R b0 n x w h hb hbl hk).mono (fun e w' ⟨h1, h2, h3⟩ => .inl ⟨hk, ⟨4, 0, 0, .slice none 0 0, 0, fun _ => 0, lfV x n⟩, h1, ⟨rfl, rfl, rfl, rfl, fun i hi => absurd hi (by simp), rfl, fun _ _ => rfl⟩, ⟨⟨by simp, by simp, by simp, nil _⟩, .inl rfl⟩, .inl rfl, h2, h3⟩)
end Go.Proofs.Ytpofccnifecpfaa
