/- The example that the law begins with; no condition. -/
import Derived.Test.YtcnhcamilimnnaaWj
namespace Go.Proofs.Ytcnhcamilimnnaa
open Go.RowKit
set_option linter.unusedVariables false
attribute [local go_sem] run_bits run_frombits run_store_float eqF
def e1 : List Nat := [4613937818241073152, 4607182418800017408, 4613937818241073152]
def e2 : List Sp := [⟨4607182418800017408, 4611686018427387904, false, true⟩, ⟨4611686018427387904, 4613937818241073152, false, false⟩]
def e3 : List Nat := [4611686018427387904]
theorem e1_sort : Fl.sortL (atN e1) 3 = [4607182418800017408, 4613937818241073152] := by decide +kernel
theorem e3_sort : Fl.sortL (atN e3) 1 = [4611686018427387904] := by decide +kernel
theorem e2_norm : Fl.dfold (Fl.cdl (atS e2) 2) = [(13830554455654793216, 13837309855095848960)] := by decide +kernel
theorem e2_spo : [(13830554455654793216, 13837309855095848960)].map Fl.spo = [⟨4607182418800017408, 4613937818241073152, false, false⟩] := by
  show [(⟨Fl.of 13830554455654793216, Fl.of 13837309855095848960, false, false⟩ : Sp)] = _
  rw [show Fl.of 13830554455654793216 = 4607182418800017408 by decide +kernel, show Fl.of 13837309855095848960 = 4613937818241073152 by decide +kernel]
theorem e_code : canC (misB 1 2 0) (crowdB 2 1 1) (Fl.anyG (fun i => Fl.nan (atN [4607182418800017408, 4613937818241073152] i)) 2 || Fl.anyG (fun i => Fl.nan (atN [4611686018427387904] i)) 1) (Fl.anyG (fun i => Fl.nan (atS e2 i).a || Fl.nan (atS e2 i).b) 2) = 0 := by decide +kernel
theorem wlit {b : Nat} (h : b < 18446744073709551616) : Fl.W b := h
theorem e_rows (w : World) (m : Nat) (hm : w.heap.size = m) : FRow (((w.alloc (.cells #[.float .f64 4613937818241073152, .float .f64 4607182418800017408, .float .f64 4613937818241073152] 33)).alloc (.cells #[.float .f64 4607182418800017408, .float .f64 4611686018427387904, .bool false, .bool true, .float .f64 4611686018427387904, .float .f64 4613937818241073152, .bool false, .bool false] 37)).alloc (.cells #[.float .f64 4611686018427387904] 33)) (.slice (some ⟨m, 0, none⟩) 3 3) 3 (atN e1) ∧ SRow (((w.alloc (.cells #[.float .f64 4613937818241073152, .float .f64 4607182418800017408, .float .f64 4613937818241073152] 33)).alloc (.cells #[.float .f64 4607182418800017408, .float .f64 4611686018427387904, .bool false, .bool true, .float .f64 4611686018427387904, .float .f64 4613937818241073152, .bool false, .bool false] 37)).alloc (.cells #[.float .f64 4611686018427387904] 33)) (.slice (some ⟨m + 1, 0, none⟩) 2 2) 2 (atS e2) ∧ FRow (((w.alloc (.cells #[.float .f64 4613937818241073152, .float .f64 4607182418800017408, .float .f64 4613937818241073152] 33)).alloc (.cells #[.float .f64 4607182418800017408, .float .f64 4611686018427387904, .bool false, .bool true, .float .f64 4611686018427387904, .float .f64 4613937818241073152, .bool false, .bool false] 37)).alloc (.cells #[.float .f64 4611686018427387904] 33)) (.slice (some ⟨m + 2, 0, none⟩) 1 1) 1 (atN e3) := by
  subst hm
  have a : FRow (w.alloc (.cells #[.float .f64 4613937818241073152, .float .f64 4607182418800017408, .float .f64 4613937818241073152] 33)) (.slice (some ⟨w.heap.size, 0, none⟩) 3 3) 3 (atN e1) := by
    refine ⟨by omega, _, _, rfl, fun i hi => ⟨w.heap.size, 0, rfl, ?_⟩⟩
    match i, hi with
    | 0, _ => exact ⟨wlit (by decide), by simp [atN, e1]⟩
    | 1, _ => exact ⟨wlit (by decide), by simp [atN, e1]⟩
    | 2, _ => exact ⟨wlit (by decide), by simp [atN, e1]⟩
  have b : SRow ((w.alloc (.cells #[.float .f64 4613937818241073152, .float .f64 4607182418800017408, .float .f64 4613937818241073152] 33)).alloc (.cells #[.float .f64 4607182418800017408, .float .f64 4611686018427387904, .bool false, .bool true, .float .f64 4611686018427387904, .float .f64 4613937818241073152, .bool false, .bool false] 37)) (.slice (some ⟨w.heap.size + 1, 0, none⟩) 2 2) 2 (atS e2) := by
    generalize hW : w.alloc (.cells #[.float .f64 4613937818241073152, .float .f64 4607182418800017408, .float .f64 4613937818241073152] 33) = W
    have hz : w.heap.size + 1 = W.heap.size := by rw [← hW]; simp
    rw [hz]
    refine ⟨by omega, _, _, rfl, fun i hi => ⟨W.heap.size, 0, rfl, ?_⟩⟩
    match i, hi with
    | 0, _ => exact ⟨wlit (by decide), wlit (by decide), by simp [SpIn, atS, e2]⟩
    | 1, _ => exact ⟨wlit (by decide), wlit (by decide), by simp [SpIn, atS, e2]⟩
  have c : FRow (((w.alloc (.cells #[.float .f64 4613937818241073152, .float .f64 4607182418800017408, .float .f64 4613937818241073152] 33)).alloc (.cells #[.float .f64 4607182418800017408, .float .f64 4611686018427387904, .bool false, .bool true, .float .f64 4611686018427387904, .float .f64 4613937818241073152, .bool false, .bool false] 37)).alloc (.cells #[.float .f64 4611686018427387904] 33)) (.slice (some ⟨w.heap.size + 2, 0, none⟩) 1 1) 1 (atN e3) := by
    generalize hW : (w.alloc (.cells #[.float .f64 4613937818241073152, .float .f64 4607182418800017408, .float .f64 4613937818241073152] 33)).alloc (.cells #[.float .f64 4607182418800017408, .float .f64 4611686018427387904, .bool false, .bool true, .float .f64 4611686018427387904, .float .f64 4613937818241073152, .bool false, .bool false] 37) = W
    have hz : w.heap.size + 2 = W.heap.size := by rw [← hW]; simp
    rw [hz]
    refine ⟨by omega, _, _, rfl, fun i hi => ⟨W.heap.size, 0, rfl, ?_⟩⟩
    match i, hi with
    | 0, _ => exact ⟨wlit (by decide), by simp [atN, e3]⟩
  exact ⟨a.old (((Old.refl _).alloc _).alloc _), b.old ((Old.refl _).alloc _), c⟩
theorem canon_ex (w : World) (m : Nat) (hm : w.heap.size = m) :
    Calls Try.prog 5 #[.agg #[.int .i64 1, .int .i64 2, .int .i64 0, .slice (some ⟨m, 0, none⟩) 3 3, .slice (some ⟨m + 1, 0, none⟩) 2 2, .slice (some ⟨m + 2, 0, none⟩) 1 1]] (((w.alloc (.cells #[.float .f64 4613937818241073152, .float .f64 4607182418800017408, .float .f64 4613937818241073152] 33)).alloc (.cells #[.float .f64 4607182418800017408, .float .f64 4611686018427387904, .bool false, .bool true, .float .f64 4611686018427387904, .float .f64 4613937818241073152, .bool false, .bool false] 37)).alloc (.cells #[.float .f64 4611686018427387904] 33)) fun e w' => ∃ (p1 p2 p3 : Option Addr) (q1 q2 q3 : Nat), e = .returned (.tuple #[.agg #[.int .i64 1, .int .i64 2, .int .i64 0, .slice p1 2 q1, .slice p2 1 q2, .slice p3 1 q3], .int .i64 0]) ∧ (FRow w' (.slice p1 2 q1) 2 (atN [4607182418800017408, 4613937818241073152]) ∧ SRow w' (.slice p2 1 q2) 1 (atS [⟨4607182418800017408, 4613937818241073152, false, false⟩]) ∧ FRow w' (.slice p3 1 q3) 1 (atN [4611686018427387904])) ∧ Old w w' := by
  obtain ⟨a, b, c⟩ := e_rows w m hm
  refine (subCanon_any 1 2 0 _ _ _ 3 2 1 3 2 1 (atN e1) (atN e3) (atS e2) (by omega) (by omega) (by omega) _ a b c).mono ?_
  intro e w' h
  rw [e1_sort, e3_sort, e2_norm, e2_spo] at h
  unfold CanPost at h
  obtain ⟨p1, p2, p3, q1, q2, q3, h1, ⟨g1, g2, g3⟩, hu⟩ := h
  split at h1
  case isFalse hne => exact absurd e_code hne
  refine ⟨p1, p2, p3, q1, q2, q3, h1, ⟨g1.row ?_ (by simp), g2.row ?_ (by simp), g3.row ?_ (by simp)⟩, ((((Old.refl w).alloc _).alloc _).alloc _).trans hu⟩
  · intro y hy; simp at hy; rcases hy with rfl | rfl <;> exact wlit (by decide)
  · intro s hs; simp at hs; subst hs; exact ⟨wlit (by decide), wlit (by decide)⟩
  · intro y hy; simp at hy; subst hy; exact wlit (by decide)
theorem s_rows (w : World) (m : Nat) (hm : w.heap.size = m) : FRow (((w.alloc (.cells #[.float .f64 4607182418800017408, .float .f64 4613937818241073152] 33)).alloc (.cells #[.float .f64 4607182418800017408, .float .f64 4613937818241073152, .bool false, .bool false] 37)).alloc (.cells #[.float .f64 4611686018427387904] 33)) (.slice (some ⟨m, 0, none⟩) 2 2) 2 (atN [4607182418800017408, 4613937818241073152]) ∧ SRow (((w.alloc (.cells #[.float .f64 4607182418800017408, .float .f64 4613937818241073152] 33)).alloc (.cells #[.float .f64 4607182418800017408, .float .f64 4613937818241073152, .bool false, .bool false] 37)).alloc (.cells #[.float .f64 4611686018427387904] 33)) (.slice (some ⟨m + 1, 0, none⟩) 1 1) 1 (atS [⟨4607182418800017408, 4613937818241073152, false, false⟩]) ∧ FRow (((w.alloc (.cells #[.float .f64 4607182418800017408, .float .f64 4613937818241073152] 33)).alloc (.cells #[.float .f64 4607182418800017408, .float .f64 4613937818241073152, .bool false, .bool false] 37)).alloc (.cells #[.float .f64 4611686018427387904] 33)) (.slice (some ⟨m + 2, 0, none⟩) 1 1) 1 (atN [4611686018427387904]) := by
  subst hm
  have a : FRow (w.alloc (.cells #[.float .f64 4607182418800017408, .float .f64 4613937818241073152] 33)) (.slice (some ⟨w.heap.size, 0, none⟩) 2 2) 2 (atN [4607182418800017408, 4613937818241073152]) := by
    refine ⟨by omega, _, _, rfl, fun i hi => ⟨w.heap.size, 0, rfl, ?_⟩⟩
    match i, hi with
    | 0, _ => exact ⟨wlit (by decide), by simp [atN]⟩
    | 1, _ => exact ⟨wlit (by decide), by simp [atN]⟩
  have b : SRow ((w.alloc (.cells #[.float .f64 4607182418800017408, .float .f64 4613937818241073152] 33)).alloc (.cells #[.float .f64 4607182418800017408, .float .f64 4613937818241073152, .bool false, .bool false] 37)) (.slice (some ⟨w.heap.size + 1, 0, none⟩) 1 1) 1 (atS [⟨4607182418800017408, 4613937818241073152, false, false⟩]) := by
    generalize hW : w.alloc (.cells #[.float .f64 4607182418800017408, .float .f64 4613937818241073152] 33) = W
    have hz : w.heap.size + 1 = W.heap.size := by rw [← hW]; simp
    rw [hz]
    refine ⟨by omega, _, _, rfl, fun i hi => ⟨W.heap.size, 0, rfl, ?_⟩⟩
    match i, hi with
    | 0, _ => exact ⟨wlit (by decide), wlit (by decide), by simp [SpIn, atS]⟩
  have c : FRow (((w.alloc (.cells #[.float .f64 4607182418800017408, .float .f64 4613937818241073152] 33)).alloc (.cells #[.float .f64 4607182418800017408, .float .f64 4613937818241073152, .bool false, .bool false] 37)).alloc (.cells #[.float .f64 4611686018427387904] 33)) (.slice (some ⟨w.heap.size + 2, 0, none⟩) 1 1) 1 (atN [4611686018427387904]) := by
    generalize hW : (w.alloc (.cells #[.float .f64 4607182418800017408, .float .f64 4613937818241073152] 33)).alloc (.cells #[.float .f64 4607182418800017408, .float .f64 4613937818241073152, .bool false, .bool false] 37) = W
    have hz : w.heap.size + 2 = W.heap.size := by rw [← hW]; simp
    rw [hz]
    refine ⟨by omega, _, _, rfl, fun i hi => ⟨W.heap.size, 0, rfl, ?_⟩⟩
    match i, hi with
    | 0, _ => exact ⟨wlit (by decide), by simp [atN]⟩
  exact ⟨a.old (((Old.refl _).alloc _).alloc _), b.old ((Old.refl _).alloc _), c⟩
set_option maxHeartbeats 1000000 in
set_option maxRecDepth 20000 in
theorem small_any (w : World) :
    Calls Try.prog 9 #[] w fun e w' => ∃ g1 g2 g3 : Nat, e = .returned (.agg #[.int .i64 1, .int .i64 2, .int .i64 0, .slice (some ⟨g1, 0, none⟩) 2 2, .slice (some ⟨g2, 0, none⟩) 1 1, .slice (some ⟨g3, 0, none⟩) 1 1]) ∧ (FRow w' (.slice (some ⟨g1, 0, none⟩) 2 2) 2 (atN [4607182418800017408, 4613937818241073152]) ∧ SRow w' (.slice (some ⟨g2, 0, none⟩) 1 1) 1 (atS [⟨4607182418800017408, 4613937818241073152, false, false⟩]) ∧ FRow w' (.slice (some ⟨g3, 0, none⟩) 1 1) 1 (atN [4611686018427387904])) ∧ Old w w' := by
  go_enter Try.func9, Try.ntmps9
  go_wp2
  refine bodyPost_ret (v := .agg #[.int .i64 1, .int .i64 2, .int .i64 0, .slice (some ⟨w.heap.size + 1, 0, none⟩) 2 2, .slice (some ⟨w.heap.size + 2, 0, none⟩) 1 1, .slice (some ⟨w.heap.size + 3, 0, none⟩) 1 1]) (by simp [results, Try.results9, go_sem]) rfl ⟨w.heap.size + 1, w.heap.size + 2, w.heap.size + 3, rfl, s_rows _ (w.heap.size + 1) (by simp), ((((Old.refl w).alloc _).alloc _).alloc _).alloc _⟩
set_option maxHeartbeats 2000000 in
set_option maxRecDepth 20000 in
theorem canonical_any (w : World) :
    Calls Try.prog 4 #[] w fun e w' => e = .returned (.bool true) ∧ Old w w' := by
  go_enter Try.func4, Try.ntmps4
  go_upto_region 2 with (go_at_call 5; refine (canon_ex _ _ rfl).mono ?_; rintro e w1 ⟨p1, p2, p3, q1, q2, q3, rfl, h1, u1⟩; have H1 := hid h1; have U1 := hid u1; clear h1 u1)
  have hB : SubAt w1.heap.size 1 2 0 (.slice p1 2 q1) (.slice p2 1 q2) (.slice p3 1 q3) (w1.alloc (.cells #[.int .i64 1, .int .i64 2, .int .i64 0, .slice p1 2 q1, .slice p2 1 q2, .slice p3 1 q3] 25)) := by simp [SubAt]
  have V1 : Old w1 (w1.alloc (.cells #[.int .i64 1, .int .i64 2, .int .i64 0, .slice p1 2 q1, .slice p2 1 q2, .slice p3 1 q3] 25)) := (Old.refl w1).alloc _
  generalize (w1.alloc (.cells #[.int .i64 1, .int .i64 2, .int .i64 0, .slice p1 2 q1, .slice p2 1 q2, .slice p3 1 q3] 25)) = w2 at *
  have HB := hid hB
  have HV := hid V1
  clear hB V1
  go_region_held3 (SubAt w1.heap.size 1 2 0 (.slice p1 2 q1) (.slice p2 1 q2) (.slice p3 1 q3)) (first | assumption | exact HB.out | (refine SubAt.old ?_ HB.out; assumption)) (first | (go_at_call 9; refine (small_any _).mono ?_; rintro e w3 ⟨g1, g2, g3, rfl, s3, u3⟩; have U3 : Old w2 w3 := ((Old.refl _).drew).trans u3; have S3 := hid s3; clear s3) | (go_at_call 7; refine (refSame_eq 1 2 0 p1 p2 p3 _ _ _ 2 1 1 q1 q2 q3 2 1 1 _ _ _ _ (H1.out.1.old (HV.out.trans U3)) (H1.out.2.1.old (HV.out.trans U3)) (H1.out.2.2.old (HV.out.trans U3)) S3.out.1 S3.out.2.1 S3.out.2.2).mono ?_; rintro e w4 ⟨rfl, u4⟩; have U4 : Old w2 w4 := U3.trans u4))
  all_goals go_wp2
  all_goals go_ret
  all_goals exact ⟨rfl, (U1.out.trans HV.out).trans U4⟩
end Go.Proofs.Ytcnhcamilimnnaa
