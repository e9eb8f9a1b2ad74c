/- The example of Canon that the laws begin with; no condition. -/
import Derived.Test.YtodnegflaoedbaaGreatTB
namespace Go.Proofs.YtodnegflaoedbaaGreat
open Go.RowKit
set_option linter.unusedVariables false
set_option maxRecDepth 20000
def e1 : List Nat := [4613937818241073152, 4607182418800017408, 4613937818241073152]
def e2 : List Sp := [⟨4607182418800017408, 4611686018427387904, false, true⟩, ⟨4611686018427387904, 4613937818241073152, false, false⟩]
def e3 : List Nat := [4611686018427387904]
theorem e1_sort : Fl.sortL (atN e1) 3 = [4607182418800017408, 4613937818241073152] := by decide +kernel
theorem e3_sort : Fl.sortL (atN e3) 1 = [4611686018427387904] := by decide +kernel
theorem e2_norm : Fl.dfold (Fl.cdl (atS e2) 2) = [(13830554455654793216, 13837309855095848960)] := by decide +kernel
theorem e2_spo : [(13830554455654793216, 13837309855095848960)].map Fl.spo = [⟨4607182418800017408, 4613937818241073152, false, false⟩] := by
  show [(⟨Fl.of 13830554455654793216, Fl.of 13837309855095848960, false, false⟩ : Sp)] = _
  rw [show Fl.of 13830554455654793216 = 4607182418800017408 by decide +kernel, show Fl.of 13837309855095848960 = 4613937818241073152 by decide +kernel]
theorem e_code : canC (misB 1 2 0) (crowdB 2 1 1) (Fl.anyG (fun i => Fl.nan (atN [4607182418800017408, 4613937818241073152] i)) 2 || Fl.anyG (fun i => Fl.nan (atN [4611686018427387904] i)) 1) (Fl.anyG (fun i => Fl.nan (atS e2 i).a || Fl.nan (atS e2 i).b) 2) = 0 := by decide +kernel
theorem e_rows (w : World) (m : Nat) (hm : w.heap.size = m) : FRow (((w.alloc (.cells #[.float .f64 4613937818241073152, .float .f64 4607182418800017408, .float .f64 4613937818241073152] 43)).alloc (.cells #[.float .f64 4607182418800017408, .float .f64 4611686018427387904, .bool false, .bool true, .float .f64 4611686018427387904, .float .f64 4613937818241073152, .bool false, .bool false] 48)).alloc (.cells #[.float .f64 4611686018427387904] 43)) (.slice (some ⟨m, 0, none⟩) 3 3) 3 (atN e1) ∧ SRow (((w.alloc (.cells #[.float .f64 4613937818241073152, .float .f64 4607182418800017408, .float .f64 4613937818241073152] 43)).alloc (.cells #[.float .f64 4607182418800017408, .float .f64 4611686018427387904, .bool false, .bool true, .float .f64 4611686018427387904, .float .f64 4613937818241073152, .bool false, .bool false] 48)).alloc (.cells #[.float .f64 4611686018427387904] 43)) (.slice (some ⟨m + 1, 0, none⟩) 2 2) 2 (atS e2) ∧ FRow (((w.alloc (.cells #[.float .f64 4613937818241073152, .float .f64 4607182418800017408, .float .f64 4613937818241073152] 43)).alloc (.cells #[.float .f64 4607182418800017408, .float .f64 4611686018427387904, .bool false, .bool true, .float .f64 4611686018427387904, .float .f64 4613937818241073152, .bool false, .bool false] 48)).alloc (.cells #[.float .f64 4611686018427387904] 43)) (.slice (some ⟨m + 2, 0, none⟩) 1 1) 1 (atN e3) := by
  subst hm
  have a : FRow (w.alloc (.cells #[.float .f64 4613937818241073152, .float .f64 4607182418800017408, .float .f64 4613937818241073152] 43)) (.slice (some ⟨w.heap.size, 0, none⟩) 3 3) 3 (atN e1) := by
    refine ⟨by omega, _, _, rfl, fun i hi => ⟨w.heap.size, 0, rfl, ?_⟩⟩
    match i, hi with
    | 0, _ => exact ⟨wlit (by decide), by simp [atN, e1]⟩
    | 1, _ => exact ⟨wlit (by decide), by simp [atN, e1]⟩
    | 2, _ => exact ⟨wlit (by decide), by simp [atN, e1]⟩
  have b : SRow ((w.alloc (.cells #[.float .f64 4613937818241073152, .float .f64 4607182418800017408, .float .f64 4613937818241073152] 43)).alloc (.cells #[.float .f64 4607182418800017408, .float .f64 4611686018427387904, .bool false, .bool true, .float .f64 4611686018427387904, .float .f64 4613937818241073152, .bool false, .bool false] 48)) (.slice (some ⟨w.heap.size + 1, 0, none⟩) 2 2) 2 (atS e2) := by
    generalize hW : w.alloc (.cells #[.float .f64 4613937818241073152, .float .f64 4607182418800017408, .float .f64 4613937818241073152] 43) = W
    have hz : w.heap.size + 1 = W.heap.size := by rw [← hW]; simp
    rw [hz]
    refine ⟨by omega, _, _, rfl, fun i hi => ⟨W.heap.size, 0, rfl, ?_⟩⟩
    match i, hi with
    | 0, _ => exact ⟨wlit (by decide), wlit (by decide), by simp [SpIn, atS, e2]⟩
    | 1, _ => exact ⟨wlit (by decide), wlit (by decide), by simp [SpIn, atS, e2]⟩
  have c : FRow (((w.alloc (.cells #[.float .f64 4613937818241073152, .float .f64 4607182418800017408, .float .f64 4613937818241073152] 43)).alloc (.cells #[.float .f64 4607182418800017408, .float .f64 4611686018427387904, .bool false, .bool true, .float .f64 4611686018427387904, .float .f64 4613937818241073152, .bool false, .bool false] 48)).alloc (.cells #[.float .f64 4611686018427387904] 43)) (.slice (some ⟨w.heap.size + 2, 0, none⟩) 1 1) 1 (atN e3) := by
    generalize hW : (w.alloc (.cells #[.float .f64 4613937818241073152, .float .f64 4607182418800017408, .float .f64 4613937818241073152] 43)).alloc (.cells #[.float .f64 4607182418800017408, .float .f64 4611686018427387904, .bool false, .bool true, .float .f64 4611686018427387904, .float .f64 4613937818241073152, .bool false, .bool false] 48) = W
    have hz : w.heap.size + 2 = W.heap.size := by rw [← hW]; simp
    rw [hz]
    refine ⟨by omega, _, _, rfl, fun i hi => ⟨W.heap.size, 0, rfl, ?_⟩⟩
    match i, hi with
    | 0, _ => exact ⟨wlit (by decide), by simp [atN, e3]⟩
  exact ⟨a.old (((Old.refl _).alloc _).alloc _), b.old ((Old.refl _).alloc _), c⟩
theorem canon_ex (w : World) (m : Nat) (hm : w.heap.size = m) :
    Calls Tryz.prog 20 #[.agg #[.int .i64 1, .int .i64 2, .int .i64 0, .slice (some ⟨m, 0, none⟩) 3 3, .slice (some ⟨m + 1, 0, none⟩) 2 2, .slice (some ⟨m + 2, 0, none⟩) 1 1]] (((w.alloc (.cells #[.float .f64 4613937818241073152, .float .f64 4607182418800017408, .float .f64 4613937818241073152] 43)).alloc (.cells #[.float .f64 4607182418800017408, .float .f64 4611686018427387904, .bool false, .bool true, .float .f64 4611686018427387904, .float .f64 4613937818241073152, .bool false, .bool false] 48)).alloc (.cells #[.float .f64 4611686018427387904] 43)) fun e w' => ∃ (p1 p2 p3 : Option Addr) (q1 q2 q3 : Nat), e = .returned (.tuple #[.agg #[.int .i64 1, .int .i64 2, .int .i64 0, .slice p1 2 q1, .slice p2 1 q2, .slice p3 1 q3], .int .i64 0]) ∧ (FRow w' (.slice p1 2 q1) 2 (atN [4607182418800017408, 4613937818241073152]) ∧ SRow w' (.slice p2 1 q2) 1 (atS [⟨4607182418800017408, 4613937818241073152, false, false⟩]) ∧ FRow w' (.slice p3 1 q3) 1 (atN [4611686018427387904])) ∧ Old w w' := by
  obtain ⟨a, b, c⟩ := e_rows w m hm
  refine (subCanon_any 1 2 0 _ _ _ 3 2 1 3 2 1 (atN e1) (atN e3) (atS e2) (by omega) (by omega) (by omega) _ a b c).mono ?_
  intro e w' h
  rw [e1_sort, e3_sort, e2_norm, e2_spo] at h
  unfold CanPost at h
  obtain ⟨p1, p2, p3, q1, q2, q3, h1, ⟨g1, g2, g3⟩, hu⟩ := h
  split at h1
  case isFalse hne => exact absurd e_code hne
  refine ⟨p1, p2, p3, q1, q2, q3, h1, ⟨g1.row ?_ (by simp), g2.row ?_ (by simp), g3.row ?_ (by simp)⟩, ((((Old.refl w).alloc _).alloc _).alloc _).trans hu⟩
  · intro y hy; simp at hy; rcases hy with rfl | rfl <;> exact wlit (by decide)
  · intro s hs; simp at hs; subst hs; exact ⟨wlit (by decide), wlit (by decide)⟩
  · intro y hy; simp at hy; subst hy; exact wlit (by decide)
attribute [local go_sem] run_bits run_frombits run_store_float eqF
set_option maxHeartbeats 2000000 in
set_option maxRecDepth 20000 in
theorem canonical_any (w : World) :
    Calls Tryz.prog 19 #[] w fun e w' => e = .returned (.bool true) ∧ Old w w' := by
  go_enter Tryz.func19, Tryz.ntmps19
  go_upto_region 2 with (go_at_call 20; refine (canon_ex _ _ rfl).mono ?_; rintro e w1 ⟨p1, p2, p3, q1, q2, q3, rfl, h1, u1⟩; have H1 := hid h1; have U1 := hid u1; clear h1 u1)
  have hB : SubAt w1.heap.size 1 2 0 (.slice p1 2 q1) (.slice p2 1 q2) (.slice p3 1 q3) (w1.alloc (.cells #[.int .i64 1, .int .i64 2, .int .i64 0, .slice p1 2 q1, .slice p2 1 q2, .slice p3 1 q3] 25)) := by simp [SubAt]
  have V1 : Old w1 (w1.alloc (.cells #[.int .i64 1, .int .i64 2, .int .i64 0, .slice p1 2 q1, .slice p2 1 q2, .slice p3 1 q3] 25)) := (Old.refl w1).alloc _
  generalize (w1.alloc (.cells #[.int .i64 1, .int .i64 2, .int .i64 0, .slice p1 2 q1, .slice p2 1 q2, .slice p3 1 q3] 25)) = w2 at *
  have HB := hid hB
  have HV := hid V1
  clear hB V1
  go_region_held3 (SubAt w1.heap.size 1 2 0 (.slice p1 2 q1) (.slice p2 1 q2) (.slice p3 1 q3)) (first | assumption | exact HB.out | (refine SubAt.old ?_ HB.out; assumption)) (first | (go_at_call 23; refine (small_any _).mono ?_; rintro e w3 ⟨g1, g2, g3, rfl, s3, u3⟩; have U3 : Old w2 w3 := ((Old.refl _).drew).trans u3; have S3 := hid s3; clear s3) | (go_at_call 15; refine (refSame_eq 1 2 0 p1 p2 p3 _ _ _ 2 1 1 q1 q2 q3 2 1 1 _ _ _ _ (H1.out.1.old (HV.out.trans U3)) (H1.out.2.1.old (HV.out.trans U3)) (H1.out.2.2.old (HV.out.trans U3)) S3.out.1 S3.out.2.1 S3.out.2.2).mono ?_; rintro e w4 ⟨rfl, u4⟩; have U4 : Old w2 w4 := U3.trans u4))
  all_goals go_wp2
  all_goals go_ret
  all_goals exact ⟨rfl, (U1.out.trans HV.out).trans U4⟩
end Go.Proofs.YtodnegflaoedbaaGreat
namespace Go.Proofs.YtodnegflaoedbaaGreat
set_option linter.unusedVariables false
set_option linter.unusedSimpArgs false
set_option maxRecDepth 20000
theorem sameU_refl (x : Nat → Nat) (n : Nat) : Fl.sameU x x n = true := sameU_of fun _ _ => rfl
theorem spU_refl (f : Nat → Sp) (n : Nat) : Fl.spU f f n = true := spU_of fun _ _ => rfl
theorem anyG_none {g : Nat → Bool} : ∀ {n : Nat}, (∀ i, i < n → g i = false) → Fl.anyG g n = false
  | 0, _ => rfl
  | n + 1, h => by
    show (Fl.anyG g n || g n) = false
    rw [anyG_none (fun i hi => h i (by omega)), h n (by omega)]; rfl
theorem ordF_sorted (x : Nat → Nat) (n : Nat) (hx : ∀ i, i < n → Fl.W (x i)) : ordF (atN (Fl.sortL x n)) (Fl.sortL x n).length = true := by
  unfold ordF
  rw [sortL_again x n hx, decide_eq_true rfl, sameU_refl]
  rfl
theorem dfold_nl {D : List (Nat × Nat)} (h : Fl.NL D) : Fl.dfold D = D := by
  have hk := Fl.dfold_ok _ D rfl h.2
  exact Fl.nl_unique _ _ hk.1 h hk.2.1
theorem cdl_again {D : List (Nat × Nat)} (h : Fl.NL D) : Fl.dfold (Fl.cdl (atS (D.map Fl.spo)) (D.map Fl.spo).length) = D := by
  rw [List.length_map, Fl.cdl_spo D h.2, dfold_nl h]
theorem ordS_norm {D : List (Nat × Nat)} (h : Fl.NL D) : ordS (atS (D.map Fl.spo)) (D.map Fl.spo).length = true := by
  unfold ordS
  rw [cdl_again h, List.length_map, decide_eq_true rfl, spU_refl]
  rfl
theorem atS_spo {D : List (Nat × Nat)} (h : Fl.NL D) (i : Nat) (hi : i < (D.map Fl.spo).length) : ∃ r, Fl.RV r ∧ atS (D.map Fl.spo) i = Fl.spo r := by
  rw [atS_get _ i hi, List.getElem_map]
  exact ⟨_, h.2 _ (List.getElem_mem _), rfl⟩
theorem csE_spo {r : Nat × Nat} (h : Fl.RV r) : Fl.csE (Fl.spo r).a (Fl.spo r).b (Fl.spo r).p (Fl.spo r).q = false := (Fl.cs_of_form _ _ _ (Fl.spo_form h)).2.2
theorem canC_parts {m c k z : Bool} (h : canC m c k z = 0) : m = false ∧ c = false ∧ k = false ∧ z = false := by
  unfold canC at h
  cases m <;> cases c <;> cases k <;> cases z <;> simp at h ⊢
theorem canC_zero : canC false false false false = 0 := rfl
/-- What Canon makes is right. -/
theorem canon_right (s1 s2 s3 : Int) (n1 n2 n3 : Nat) (x1 x3 : Nat → Nat) (f2 : Nat → Sp) (h1 : ∀ i, i < n1 → Fl.W (x1 i)) (h2 : ∀ i, i < n2 → Fl.W (f2 i).a ∧ Fl.W (f2 i).b) (h3 : ∀ i, i < n3 → Fl.W (x3 i)) (hm : misB s1 s2 s3 = false) (hc : crowdB (Fl.sortL x1 n1).length ((Fl.dfold (Fl.cdl f2 n2)).map Fl.spo).length (Fl.sortL x3 n3).length = false) (hk : (Fl.anyG (fun i => Fl.nan (atN (Fl.sortL x1 n1) i)) (Fl.sortL x1 n1).length || Fl.anyG (fun i => Fl.nan (atN (Fl.sortL x3 n3) i)) (Fl.sortL x3 n3).length) = false) :
    chkV s1 s2 s3 (Fl.sortL x1 n1).length ((Fl.dfold (Fl.cdl f2 n2)).map Fl.spo).length (Fl.sortL x3 n3).length (atN (Fl.sortL x1 n1)) (atN (Fl.sortL x3 n3)) (atS ((Fl.dfold (Fl.cdl f2 n2)).map Fl.spo)) = 0 := by
  have hD := (Fl.dfold_ok _ (Fl.cdl f2 n2) rfl (Fl.cdl_RV f2 n2 h2)).1
  unfold chkV
  rw [hm, hc, hk, ordF_sorted x1 n1 h1, ordF_sorted x3 n3 h3, ordS_norm hD, anyG_none (fun i hi => by obtain ⟨r, hr, e⟩ := atS_spo hD i hi; rw [e]; exact csE_spo hr)]
  rfl
/-- .. and Canon makes the same of it. -/
theorem canon_code_again (s1 s2 s3 : Int) (n1 n2 n3 : Nat) (x1 x3 : Nat → Nat) (f2 : Nat → Sp) (h1 : ∀ i, i < n1 → Fl.W (x1 i)) (h2 : ∀ i, i < n2 → Fl.W (f2 i).a ∧ Fl.W (f2 i).b) (h3 : ∀ i, i < n3 → Fl.W (x3 i)) : Fl.anyG (fun i => Fl.nan (atS ((Fl.dfold (Fl.cdl f2 n2)).map Fl.spo) i).a || Fl.nan (atS ((Fl.dfold (Fl.cdl f2 n2)).map Fl.spo) i).b) ((Fl.dfold (Fl.cdl f2 n2)).map Fl.spo).length = false := by
  have hD := (Fl.dfold_ok _ (Fl.cdl f2 n2) rfl (Fl.cdl_RV f2 n2 h2)).1
  refine anyG_none fun i hi => ?_
  obtain ⟨r, hr, e⟩ := atS_spo hD i hi
  have q := csE_nan (csE_spo hr)
  rw [e, q.1, q.2]
  rfl
theorem ordF_len {x : Nat → Nat} {n : Nat} (h : ordF x n = true) : n = (Fl.sortL x n).length ∧ ∀ i, i < n → x i = atN (Fl.sortL x n) i := by
  unfold ordF at h
  rw [Bool.and_eq_true, decide_eq_true_eq] at h
  exact ⟨h.1, sameU_each h.2⟩
theorem ordS_len {f : Nat → Sp} {n : Nat} (h : ordS f n = true) : n = ((Fl.dfold (Fl.cdl f n)).map Fl.spo).length ∧ ∀ i, i < n → f i = atS ((Fl.dfold (Fl.cdl f n)).map Fl.spo) i := by
  unfold ordS at h
  rw [Bool.and_eq_true, decide_eq_true_eq] at h
  exact ⟨by rw [List.length_map]; exact h.1, fun i hi => sp_ext (spU_each h.2 i hi)⟩
/-- A right submission is taken by Canon, and is what it makes. -/
theorem right_canon (s1 s2 s3 : Int) (n1 n2 n3 : Nat) (x1 x3 : Nat → Nat) (f2 : Nat → Sp) (h : chkV s1 s2 s3 n1 n2 n3 x1 x3 f2 = 0) : canC (misB s1 s2 s3) (crowdB (Fl.sortL x1 n1).length ((Fl.dfold (Fl.cdl f2 n2)).map Fl.spo).length (Fl.sortL x3 n3).length) (Fl.anyG (fun i => Fl.nan (atN (Fl.sortL x1 n1) i)) (Fl.sortL x1 n1).length || Fl.anyG (fun i => Fl.nan (atN (Fl.sortL x3 n3) i)) (Fl.sortL x3 n3).length) (Fl.anyG (fun i => Fl.nan (f2 i).a || Fl.nan (f2 i).b) n2) = 0 := by
  have p := chk_parts h
  have o1 := ordF_len p.2.2.2.2.1
  have o2 := ordS_len p.2.2.2.2.2.1
  have o3 := ordF_len p.2.2.2.2.2.2
  have k := p.2.2.1
  rw [Bool.or_eq_false_iff] at k
  have k1 := anyG_each k.1
  have k3 := anyG_each k.2
  have z := anyG_each p.2.2.2.1
  rw [← o1.1, ← o2.1, ← o3.1, p.1, p.2.1, anyG_none (fun i hi => by rw [← o1.2 i hi]; exact k1 i hi), anyG_none (fun i hi => by rw [← o3.2 i hi]; exact k3 i hi), anyG_none (fun i hi => by have q := csE_nan (z i hi); rw [q.1, q.2]; rfl)]
  rfl
end Go.Proofs.YtodnegflaoedbaaGreat
namespace Go.Proofs.YtodnegflaoedbaaGreat
open Go.RowKit Go.Lib
set_option linter.unusedVariables false
set_option linter.unusedSimpArgs false
set_option maxRecDepth 20000
namespace Fl
theorem hasS_cov (s : Sp) (k : Nat) : hasS s k = true ↔ Cov (cd s) (code k) := by
  unfold hasS hasF cd
  cases h : csE s.a s.b s.p s.q
  · simp [cov_cons, cov_nil]
  · simp [cov_nil]
theorem anyG_cov (f : Nat → Sp) (k : Nat) : ∀ n, anyG (fun i => hasS (f i) k) n = true ↔ Cov (cdl f n) (code k)
  | 0 => by simp [anyG, cdl, cov_nil]
  | n + 1 => by
    show (anyG (fun i => hasS (f i) k) n || hasS (f n) k) = true ↔ Cov (cdl f n ++ cd (f n)) (code k)
    rw [cov_app, Bool.or_eq_true, anyG_cov f k n, hasS_cov]
theorem cov_zero (L : List (Nat × Nat)) (h : ∀ r ∈ L, RV r) : ¬ Cov L 0 := by
  rintro ⟨r, hr, h1, _⟩
  have := (h r hr).1
  unfold V at this; omega
/-- What covers a key, told by the list that is as few as may be. -/
theorem anyG_norm (f : Nat → Sp) (n k : Nat) (hk : W k) (hR : ∀ r ∈ cdl f n, RV r) : anyG (fun i => hasS (atS ((dfold (cdl f n)).map spo) i) k) (dfold (cdl f n)).length = anyG (fun i => hasS (f i) k) n := by
  have a := dfold_ok _ (cdl f n) rfl hR
  rw [Bool.eq_iff_iff, anyG_cov, anyG_cov, cdl_spo _ a.1.2]
  cases hn : nan k
  · exact a.2.1 _ (V_code hk hn)
  · rw [code_nan k hn]
    exact iff_of_false (cov_zero _ a.1.2) (cov_zero _ hR)
end Fl
/-- Is a key the same as another one? -/
def keyEq (x k : Nat) : Bool := !Fl.nan x && !Fl.nan k && decide (Fl.code k = Fl.code x)
theorem anyG_iff {g : Nat → Bool} {n : Nat} : Fl.anyG g n = true ↔ ∃ i, i < n ∧ g i = true := by
  constructor
  · intro h
    by_cases q : ∃ i, i < n ∧ g i = true
    · exact q
    · have : Fl.anyG g n = false := anyG_none fun i hi => by
        cases e : g i
        · rfl
        · exact absurd ⟨i, hi, e⟩ q
      rw [this] at h; cases h
  · rintro ⟨i, hi, h⟩
    exact Fl.anyG_true g n i hi h
theorem nan_canon' (x : Nat) (hx : Fl.W x) : Fl.nan (Fl.canon x) = Fl.nan x := Fl.nan_canon x
/-- The same keys are among the sorted ones. -/
theorem among_sort (x : Nat → Nat) (n k : Nat) (hx : ∀ i, i < n → Fl.W (x i)) : Fl.anyG (fun i => keyEq (atN (Fl.sortL x n) i) k) (Fl.sortL x n).length = Fl.anyG (fun i => keyEq (x i) k) n := by
  have a := Fl.sortL_all x n hx n (Nat.le_refl _)
  rw [Bool.eq_iff_iff, anyG_iff, anyG_iff]
  constructor
  · rintro ⟨i, hi, h⟩
    rw [atN_get _ i hi] at h
    obtain ⟨j, hj, e⟩ := (a.2.2 _).1 (List.getElem_mem hi)
    refine ⟨j, hj, ?_⟩
    rw [e] at h
    unfold keyEq at h ⊢
    rw [nan_canon' _ (hx j hj), Fl.code_canon] at h
    exact h
  · rintro ⟨j, hj, h⟩
    have hm := (a.2.2 (Fl.canon (x j))).2 ⟨j, hj, rfl⟩
    obtain ⟨i, hi, e⟩ := List.getElem_of_mem hm
    refine ⟨i, hi, ?_⟩
    rw [atN_get _ i hi, e]
    unfold keyEq at h ⊢
    rw [nan_canon' _ (hx j hj), Fl.code_canon]
    exact h
attribute [local go_sem] run_bits run_frombits run_store_float eqF
set_option maxHeartbeats 1000000 in
set_option maxRecDepth 20000 in
theorem index_am (v : Value) (n : Nat) (f : Nat → Nat) (g : Nat → Bool) (kb : Nat) (w : World) (hv : FRow w v n f) (hf : ∀ i, i < n → ∀ W, Old w W → Calls Tryz.prog 89 #[.float .f64 (f i), .pointer (some ⟨kb, 0, none⟩)] W fun e w' => e = .returned (.bool (g i)) ∧ Old W w') :
    Calls Tryz.prog 102 #[v, .func (.func 89) #[] #[.pointer (some ⟨kb, 0, none⟩)]] w fun e w' => ∃ r : Int, e = .returned (.int .i64 r) ∧ decide (0 ≤ r) = Fl.anyG g n ∧ Old w w' := by
  obtain ⟨hm, a, c, rfl, hc⟩ := hv
  have HC := hid hc
  have HF := hid hf
  have hmm := hm
  clear hc hf hm
  go_enter Tryz.func102, Tryz.ntmps102
  go_wp2
  go_loopw [8] (fun i wr => ∃ k : Nat, k ≤ n ∧ i = .int .i64 (k : Nat) ∧ Fl.anyG g k = false ∧ Old w wr) (fun i _ => n - (intOf i).toNat)
  case atStart => exact ⟨0, Nat.zero_le _, rfl, rfl, Old.refl _⟩
  case round =>
    obtain ⟨k, hk, rfl, h0, hu⟩ := hrel
    by_cases hlt : k < n
    · obtain ⟨b, off, ha, hW, c0⟩ := HC.out k hlt
      subst ha
      have x0 := hu.keep c0
      have HK := hid (HF.out k hlt)
      have l1 : (0 : Int) ≤ (k : Int) := by omega
      have l2 : (k : Int) < (n : Int) := by omega
      have H0 := hid h0
      clear c0 h0 HF HC
      generalize f k = X at *
      cases hg : g k
      · rw [hg] at HK
        have HS := hid (Fl.anyG_step g k H0.out hg)
        clear hg
        go_wp2_with (go_at_call 89; refine (HK.out _ hu).mono ?_; rintro o w5 ⟨rfl, u5⟩)
        go_roundw
        case rel => exact ⟨k + 1, hlt, by go_num, HS.out, Old.trans hu u5⟩
        case measure => simp [intOf]; omega
      · have HT := hid (Fl.anyG_true g n k hlt hg)
        rw [hg] at HK
        clear hg
        go_wp2_with (go_at_call 89; refine (HK.out _ hu).mono ?_; rintro o w5 ⟨rfl, u5⟩)
        go_ret
        exact ⟨_, rfl, by rw [HT.out]; simp, Old.trans hu u5⟩
    · obtain rfl : k = n := by omega
      have H0 := hid h0
      clear h0
      go_wp2
      go_ret
      exact ⟨_, rfl, by rw [H0.out]; rfl, hu⟩
set_option maxHeartbeats 400000 in
set_option maxRecDepth 20000 in
theorem contains_am (v : Value) (n : Nat) (f : Nat → Nat) (g : Nat → Bool) (kb : Nat) (w : World) (hv : FRow w v n f) (hf : ∀ i, i < n → ∀ W, Old w W → Calls Tryz.prog 89 #[.float .f64 (f i), .pointer (some ⟨kb, 0, none⟩)] W fun e w' => e = .returned (.bool (g i)) ∧ Old W w') :
    Calls Tryz.prog 77 #[v, .func (.func 89) #[] #[.pointer (some ⟨kb, 0, none⟩)]] w fun e w' => e = .returned (.bool (Fl.anyG g n)) ∧ Old w w' := by
  have HI := hid (index_am v n f g kb w hv hf)
  clear hv hf
  go_enter Tryz.func77, Tryz.ntmps77
  go_wp2_with (go_at_call 102; refine HI.out.mono ?_; rintro o w5 ⟨r, rfl, hr, u5⟩; have HR := hid hr; clear hr)
  go_ret
  exact ⟨ret_b (by rw [← HR.out]), u5⟩
set_option maxHeartbeats 400000 in
set_option maxRecDepth 20000 in
theorem am1_any (x k kb : Nat) (hx : Fl.W x) (hk : Fl.W k) (w : World) (h : w.cell? ⟨kb, 0, none⟩ = some (.float .f64 k)) : Calls Tryz.prog 89 #[.float .f64 x, .pointer (some ⟨kb, 0, none⟩)] w fun e w' => e = .returned (.bool (keyEq x k)) ∧ Old w w' := by
  have HE := hid (ordE x k hx hk)
  go_enter Tryz.func89, Tryz.ntmps89
  go_wp2
  go_ret
  exact ⟨ret_b (by rw [HE.out]; rfl), Old.refl _⟩
set_option maxHeartbeats 1000000 in
set_option maxRecDepth 20000 in
theorem among_any (v : Value) (n : Nat) (x : Nat → Nat) (k : Nat) (hk : Fl.W k) (w : World) (hv : FRow w v n x) : Calls Tryz.prog 55 #[v, .float .f64 k] w fun e w' => e = .returned (.bool (Fl.anyG (fun i => keyEq (x i) k) n)) ∧ Old w w' := by
  have hmf : ∀ (fn : Fn) (first cap : Array Value) (w : World), (Instr.makeFunc fn first cap).run Tryz.prog w = .ok (.func fn first cap) w := fun _ _ _ _ => rfl
  have hV := (Old.refl w).alloc (.cells #[.float .f64 k] 43)
  have hc : (w.alloc (.cells #[.float .f64 k] 43)).cell? ⟨w.heap.size, 0, none⟩ = some (.float .f64 k) := by simp
  have HC := hid (contains_am v n x (fun i => keyEq (x i) k) w.heap.size _ (hv.old hV) (fun i hi W u => am1_any (x i) k w.heap.size ((hv.old hV).ws i hi) hk W (u.keep hc)))
  have HV := hid hV
  clear hv hc hV
  go_enter Tryz.func55, Tryz.ntmps55
  go_wp2_with (first | (go_at_call 77; refine HC.out.mono ?_; rintro e w2 ⟨rfl, u2⟩; have U2 := hid (HV.out.trans u2); clear u2))
  go_ret
  exact ⟨rfl, U2.out⟩
def readB (s : Sb) (k : Nat) : Bool := Fl.anyG (fun i => keyEq (s.x1 i) k) s.n1 || Fl.anyG (fun i => Fl.hasS (s.f2 i) k) s.n2
def writeB (s : Sb) (k : Nat) : Bool := Fl.anyG (fun i => keyEq (s.x3 i) k) s.n3
set_option maxHeartbeats 1000000 in
set_option maxRecDepth 20000 in
theorem reads_any (s : Sb) (k : Nat) (hk : Fl.W k) (w : World) (hs : s.Ok w) : Calls Tryz.prog 21 #[.agg #[.int .i64 s.s1, .int .i64 s.s2, .int .i64 s.s3, .slice s.a1 s.n1 s.c1, .slice s.a2 s.n2 s.c2, .slice s.a3 s.n3 s.c3], .float .f64 k] w fun e w' => e = .returned (.bool (readB s k)) ∧ Old w w' := by
  have HA := hid (fun (W : World) (u : Old w W) => among_any _ _ _ k hk W (hs.h1.old u))
  have HC := hid (fun (W : World) (u : Old w W) => covers_any _ _ _ k hk W (hs.h2.old u))
  unfold readB
  generalize Fl.anyG (fun i => keyEq (s.x1 i) k) s.n1 = o1 at *
  generalize Fl.anyG (fun i => Fl.hasS (s.f2 i) k) s.n2 = o2 at *
  clear hs
  go_enter Tryz.func21, Tryz.ntmps21
  go_upto_region 1 with fail
  generalize hw1 : w.alloc (.cells #[.int .i64 s.s1, .int .i64 s.s2, .int .i64 s.s3, .slice s.a1 s.n1 s.c1, .slice s.a2 s.n2 s.c2, .slice s.a3 s.n3 s.c3] 25) = w1 at *
  generalize hsb : w.heap.size = sb at *
  have HW := hid (sub_new w s.s1 s.s2 s.s3 _ _ _ w1 hw1 sb hsb)
  clear hw1 hsb
  obtain ⟨⟨t0, t1, t2, t3, t4, t5⟩, _⟩ := HW.out
  cases o1
  · go_wp2_with (first | (go_at_call 55; refine (HA.out _ HW.out.2).mono ?_; rintro e w2 ⟨rfl, u2⟩; have U2 := hid (HW.out.2.trans u2); obtain ⟨_, _, _, _, t4', _⟩ := SubAt.old u2 HW.out.1; clear u2) | (go_at_call 56; refine (HC.out _ U2.out).mono ?_; rintro e w3 ⟨rfl, u3⟩; have U3 := hid (U2.out.trans u3); clear u3))
    go_ret
    exact ⟨ret_b (by simp), U3.out⟩
  · go_wp2_with (first | (go_at_call 55; refine (HA.out _ HW.out.2).mono ?_; rintro e w2 ⟨rfl, u2⟩; have U2 := hid (HW.out.2.trans u2); clear u2))
    go_ret
    exact ⟨ret_b (by simp), U2.out⟩
set_option maxHeartbeats 1000000 in
set_option maxRecDepth 20000 in
theorem writes_any (s : Sb) (k : Nat) (hk : Fl.W k) (w : World) (hs : s.Ok w) : Calls Tryz.prog 22 #[.agg #[.int .i64 s.s1, .int .i64 s.s2, .int .i64 s.s3, .slice s.a1 s.n1 s.c1, .slice s.a2 s.n2 s.c2, .slice s.a3 s.n3 s.c3], .float .f64 k] w fun e w' => e = .returned (.bool (writeB s k)) ∧ Old w w' := by
  have HA := hid (fun (W : World) (u : Old w W) => among_any _ _ _ k hk W (hs.h3.old u))
  unfold writeB
  generalize Fl.anyG (fun i => keyEq (s.x3 i) k) s.n3 = o1 at *
  clear hs
  go_enter Tryz.func22, Tryz.ntmps22
  go_upto_region 1 with fail
  generalize hw1 : w.alloc (.cells #[.int .i64 s.s1, .int .i64 s.s2, .int .i64 s.s3, .slice s.a1 s.n1 s.c1, .slice s.a2 s.n2 s.c2, .slice s.a3 s.n3 s.c3] 25) = w1 at *
  generalize hsb : w.heap.size = sb at *
  have HW := hid (sub_new w s.s1 s.s2 s.s3 _ _ _ w1 hw1 sb hsb)
  clear hw1 hsb
  obtain ⟨⟨t0, t1, t2, t3, t4, t5⟩, _⟩ := HW.out
  go_wp2_with (first | (go_at_call 55; refine (HA.out _ HW.out.2).mono ?_; rintro e w2 ⟨rfl, u2⟩; have U2 := hid (HW.out.2.trans u2); clear u2))
  go_ret
  exact ⟨rfl, U2.out⟩
end Go.Proofs.YtodnegflaoedbaaGreat
namespace Go.Proofs.YtodnegflaoedbaaGreat
open Go.RowKit Go.Lib
set_option linter.unusedVariables false
set_option linter.unusedSimpArgs false
set_option maxRecDepth 20000
/-- What Canon makes, as it lies. -/
def mkC (s : Sb) (p1 p2 p3 : Option Addr) (q1 q2 q3 : Nat) : Sb := ⟨s.s1, s.s2, s.s3, p1, p2, p3, (Fl.sortL s.x1 s.n1).length, ((Fl.dfold (Fl.cdl s.f2 s.n2)).map Fl.spo).length, (Fl.sortL s.x3 s.n3).length, q1, q2, q3, atN (Fl.sortL s.x1 s.n1), atN (Fl.sortL s.x3 s.n3), atS ((Fl.dfold (Fl.cdl s.f2 s.n2)).map Fl.spo)⟩
def canK (s : Sb) : Int := canC (misB s.s1 s.s2 s.s3) (crowdB (Fl.sortL s.x1 s.n1).length ((Fl.dfold (Fl.cdl s.f2 s.n2)).map Fl.spo).length (Fl.sortL s.x3 s.n3).length) (Fl.anyG (fun i => Fl.nan (atN (Fl.sortL s.x1 s.n1) i)) (Fl.sortL s.x1 s.n1).length || Fl.anyG (fun i => Fl.nan (atN (Fl.sortL s.x3 s.n3) i)) (Fl.sortL s.x3 s.n3).length) (Fl.anyG (fun i => Fl.nan (s.f2 i).a || Fl.nan (s.f2 i).b) s.n2)
def Sb.Ws (s : Sb) : Prop := (∀ i, i < s.n1 → Fl.W (s.x1 i)) ∧ (∀ i, i < s.n2 → Fl.W (s.f2 i).a ∧ Fl.W (s.f2 i).b) ∧ ∀ i, i < s.n3 → Fl.W (s.x3 i)
theorem mk_again (s : Sb) (h : s.Ws) (p1 p2 p3 r1 r2 r3 : Option Addr) (q1 q2 q3 t1 t2 t3 : Nat) : mkC (mkC s p1 p2 p3 q1 q2 q3) r1 r2 r3 t1 t2 t3 = mkC s r1 r2 r3 t1 t2 t3 := by
  have hD := (Fl.dfold_ok _ (Fl.cdl s.f2 s.n2) rfl (Fl.cdl_RV s.f2 s.n2 h.2.1)).1
  have e1 := sortL_again s.x1 s.n1 h.1
  have e3 := sortL_again s.x3 s.n3 h.2.2
  have e2 := cdl_again hD
  unfold mkC
  simp only [e1, e2, e3]
theorem mk_chk (s : Sb) (h : s.Ws) (hc : canK s = 0) (p1 p2 p3 : Option Addr) (q1 q2 q3 : Nat) : (mkC s p1 p2 p3 q1 q2 q3).chk = 0 := by
  have q := canC_parts hc
  exact canon_right s.s1 s.s2 s.s3 s.n1 s.n2 s.n3 s.x1 s.x3 s.f2 h.1 h.2.1 h.2.2 q.1 q.2.1 q.2.2.1
theorem right_K (s : Sb) (h : s.chk = 0) : canK s = 0 := right_canon s.s1 s.s2 s.s3 s.n1 s.n2 s.n3 s.x1 s.x3 s.f2 h
theorem mk_K (s : Sb) (h : s.Ws) (hc : canK s = 0) (p1 p2 p3 : Option Addr) (q1 q2 q3 : Nat) : canK (mkC s p1 p2 p3 q1 q2 q3) = 0 := right_K _ (mk_chk s h hc p1 p2 p3 q1 q2 q3)
theorem mk_same (s : Sb) (h : s.Ws) (hc : canK s = 0) (p1 p2 p3 r1 r2 r3 : Option Addr) (q1 q2 q3 t1 t2 t3 : Nat) : sameB (mkC s p1 p2 p3 q1 q2 q3) (mkC s r1 r2 r3 t1 t2 t3) = true := by
  have e : (mkC s p1 p2 p3 q1 q2 q3).enc = (mkC s r1 r2 r3 t1 t2 t3).enc := rfl
  unfold sameB
  rw [decide_eq_true (mk_chk s h hc _ _ _ _ _ _), decide_eq_true (mk_chk s h hc _ _ _ _ _ _), decide_eq_true e]
  rfl
theorem self_same (s : Sb) (h : s.Ws) (hc : s.chk = 0) (p1 p2 p3 : Option Addr) (q1 q2 q3 : Nat) : sameB s (mkC s p1 p2 p3 q1 q2 q3) = true := by
  have p := chk_parts hc
  have o1 := ordF_len p.2.2.2.2.1
  have o2 := ordS_len p.2.2.2.2.2.1
  have o3 := ordF_len p.2.2.2.2.2.2
  have g1 : rl s.x1 s.n1 = rl (mkC s p1 p2 p3 q1 q2 q3).x1 (mkC s p1 p2 p3 q1 q2 q3).n1 := by
    show _ = rl (atN (Fl.sortL s.x1 s.n1)) (Fl.sortL s.x1 s.n1).length
    rw [← o1.1]
    exact List.map_congr_left fun i hi => o1.2 i (by simpa using hi)
  have g3 : rl s.x3 s.n3 = rl (mkC s p1 p2 p3 q1 q2 q3).x3 (mkC s p1 p2 p3 q1 q2 q3).n3 := by
    show _ = rl (atN (Fl.sortL s.x3 s.n3)) (Fl.sortL s.x3 s.n3).length
    rw [← o3.1]
    exact List.map_congr_left fun i hi => o3.2 i (by simpa using hi)
  have g2 : rl s.f2 s.n2 = rl (mkC s p1 p2 p3 q1 q2 q3).f2 (mkC s p1 p2 p3 q1 q2 q3).n2 := by
    show _ = rl (atS ((Fl.dfold (Fl.cdl s.f2 s.n2)).map Fl.spo)) ((Fl.dfold (Fl.cdl s.f2 s.n2)).map Fl.spo).length
    rw [← o2.1]
    exact List.map_congr_left fun i hi => o2.2 i (by simpa using hi)
  have e : s.enc = (mkC s p1 p2 p3 q1 q2 q3).enc := by
    unfold Sb.enc
    rw [encS_bytes, encS_bytes]
    unfold bytesS kRest sRest
    rw [g1, g2, g3]
    show _ = Pk.numL s.s1 ++ (Pk.numL s.s2 ++ (Pk.numL s.s3 ++ (Pk.numL ((Fl.sortL s.x1 s.n1).length : Nat) ++ _)))
    rw [← o1.1]
    show _ = Pk.numL s.s1 ++ (Pk.numL s.s2 ++ (Pk.numL s.s3 ++ (Pk.numL s.n1 ++ (_ ++ (Pk.numL (((Fl.dfold (Fl.cdl s.f2 s.n2)).map Fl.spo).length : Nat) ++ (_ ++ (Pk.numL ((Fl.sortL s.x3 s.n3).length : Nat) ++ _)))))))
    rw [← o2.1, ← o3.1]
  unfold sameB
  rw [decide_eq_true hc, decide_eq_true (mk_chk s h (right_K s hc) _ _ _ _ _ _), decide_eq_true e]
  rfl
theorem mk_reads (s : Sb) (h : s.Ws) (k : Nat) (hk : Fl.W k) (p1 p2 p3 : Option Addr) (q1 q2 q3 : Nat) : readB (mkC s p1 p2 p3 q1 q2 q3) k = readB s k := by
  have e1 := among_sort s.x1 s.n1 k h.1
  have e2 := Fl.anyG_norm s.f2 s.n2 k hk (Fl.cdl_RV s.f2 s.n2 h.2.1)
  unfold readB
  show (Fl.anyG (fun i => keyEq (atN (Fl.sortL s.x1 s.n1) i) k) (Fl.sortL s.x1 s.n1).length || Fl.anyG (fun i => Fl.hasS (atS ((Fl.dfold (Fl.cdl s.f2 s.n2)).map Fl.spo) i) k) ((Fl.dfold (Fl.cdl s.f2 s.n2)).map Fl.spo).length) = _
  rw [List.length_map, e1, e2]
theorem mk_writes (s : Sb) (h : s.Ws) (k : Nat) (p1 p2 p3 : Option Addr) (q1 q2 q3 : Nat) : writeB (mkC s p1 p2 p3 q1 q2 q3) k = writeB s k := among_sort s.x3 s.n3 k h.2.2
/-- Canon, a submission told as one letter. -/
theorem canonS_ok (s : Sb) (w : World) (hs : s.Ok w) (hc : canK s = 0) : Calls Tryz.prog 20 #[.agg #[.int .i64 s.s1, .int .i64 s.s2, .int .i64 s.s3, .slice s.a1 s.n1 s.c1, .slice s.a2 s.n2 s.c2, .slice s.a3 s.n3 s.c3]] w fun e w' => ∃ (p1 p2 p3 : Option Addr) (q1 q2 q3 : Nat), e = .returned (.tuple #[.agg #[.int .i64 s.s1, .int .i64 s.s2, .int .i64 s.s3, .slice p1 (mkC s p1 p2 p3 q1 q2 q3).n1 q1, .slice p2 (mkC s p1 p2 p3 q1 q2 q3).n2 q2, .slice p3 (mkC s p1 p2 p3 q1 q2 q3).n3 q3], .int .i64 0]) ∧ (mkC s p1 p2 p3 q1 q2 q3).Ok w' ∧ Old w w' := by
  have hl1 := Fl.sortL_len s.x1 s.n1
  have hl3 := Fl.sortL_len s.x3 s.n3
  have hk := Fl.dfold_ok _ (Fl.cdl s.f2 s.n2) rfl (Fl.cdl_RV s.f2 s.n2 hs.h2.ws)
  have hl2 : ((Fl.dfold (Fl.cdl s.f2 s.n2)).map Fl.spo).length ≤ s.n2 := by rw [List.length_map]; have := hk.2.2; have := Fl.cdl_len s.f2 s.n2; omega
  have b1 := hs.b1
  have b2 := hs.b2
  have b3 := hs.b3
  refine (subCanon_any s.s1 s.s2 s.s3 s.a1 s.a2 s.a3 s.n1 s.n2 s.n3 s.c1 s.c2 s.c3 s.x1 s.x3 s.f2 b1 b2 b3 w hs.h1 hs.h2 hs.h3).mono ?_
  intro e w' h
  unfold CanPost at h
  obtain ⟨p1, p2, p3, q1, q2, q3, he, ⟨o1, o2, o3⟩, u⟩ := h
  unfold canK at hc
  rw [if_pos hc] at he
  refine ⟨p1, p2, p3, q1, q2, q3, he, ⟨o1.row (sortL_W _ _ hs.h1.ws) (by omega), o2.row (fun t ht => by obtain ⟨r, hr, rfl⟩ := List.mem_map.1 ht; exact Fl.spo_W (hk.1.2 r hr)) (by omega), o3.row (sortL_W _ _ hs.h3.ws) (by omega), ?_, ?_, ?_⟩, u⟩
  · show (Fl.sortL s.x1 s.n1).length ≤ _; omega
  · show ((Fl.dfold (Fl.cdl s.f2 s.n2)).map Fl.spo).length ≤ _; omega
  · show (Fl.sortL s.x3 s.n3).length ≤ _; omega
theorem canonS_no (s : Sb) (w : World) (hs : s.Ok w) (hc : canK s ≠ 0) : Calls Tryz.prog 20 #[.agg #[.int .i64 s.s1, .int .i64 s.s2, .int .i64 s.s3, .slice s.a1 s.n1 s.c1, .slice s.a2 s.n2 s.c2, .slice s.a3 s.n3 s.c3]] w fun e w' => e = .returned (.tuple #[.agg #[.int .i64 0, .int .i64 0, .int .i64 0, .slice none 0 0, .slice none 0 0, .slice none 0 0], .int .i64 (canK s)]) ∧ Old w w' := by
  refine (subCanon_any s.s1 s.s2 s.s3 s.a1 s.a2 s.a3 s.n1 s.n2 s.n3 s.c1 s.c2 s.c3 s.x1 s.x3 s.f2 hs.b1 hs.b2 hs.b3 w hs.h1 hs.h2 hs.h3).mono ?_
  intro e w' h
  unfold CanPost at h
  obtain ⟨p1, p2, p3, q1, q2, q3, he, _, u⟩ := h
  unfold canK at hc ⊢
  rw [if_neg hc] at he
  exact ⟨he, u⟩
end Go.Proofs.YtodnegflaoedbaaGreat
namespace Go.Proofs.YtodnegflaoedbaaGreat
open Go.RowKit Go.Lib
set_option linter.unusedVariables false
set_option linter.unusedSimpArgs false
set_option maxRecDepth 20000
theorem ent_rd (args : Array Value) (w : World) : (callFunc 21 args).run Tryz.prog w = .ok (.enter 21 args) w := by kernel_rfl
theorem ent_wr (args : Array Value) (w : World) : (callFunc 22 args).run Tryz.prog w = .ok (.enter 22 args) w := by kernel_rfl
/-- c is what Canon makes of s. -/
def IsC (s c : Sb) : Prop := c = mkC s c.a1 c.a2 c.a3 c.c1 c.c2 c.c3
theorem canonS_c (s : Sb) (w : World) (hs : s.Ok w) (hc : canK s = 0) : Calls Tryz.prog 20 #[.agg #[.int .i64 s.s1, .int .i64 s.s2, .int .i64 s.s3, .slice s.a1 s.n1 s.c1, .slice s.a2 s.n2 s.c2, .slice s.a3 s.n3 s.c3]] w fun e w' => ∃ c : Sb, e = .returned (.tuple #[.agg #[.int .i64 c.s1, .int .i64 c.s2, .int .i64 c.s3, .slice c.a1 c.n1 c.c1, .slice c.a2 c.n2 c.c2, .slice c.a3 c.n3 c.c3], .int .i64 0]) ∧ IsC s c ∧ c.Ok w' ∧ Old w w' :=
  (canonS_ok s w hs hc).mono fun e w' ⟨p1, p2, p3, q1, q2, q3, he, ho, u⟩ => ⟨mkC s p1 p2 p3 q1 q2 q3, he, rfl, ho, u⟩
theorem IsC.chk {s c : Sb} (h : IsC s c) (hw : s.Ws) (hc : canK s = 0) : c.chk = 0 := by
  unfold IsC at h; rw [h]; exact mk_chk s hw hc _ _ _ _ _ _
theorem IsC.kk {s c : Sb} (h : IsC s c) (hw : s.Ws) (hc : canK s = 0) : canK c = 0 := right_K c (h.chk hw hc)
theorem IsC.again {s c d : Sb} (h : IsC s c) (hw : s.Ws) (h2 : IsC c d) : IsC s d := by
  unfold IsC at h h2 ⊢
  exact h2.trans (by rw [h, mk_again s hw])
theorem IsC.same {s c d : Sb} (h : IsC s c) (h2 : IsC s d) (hw : s.Ws) (hc : canK s = 0) : sameB c d = true := by
  unfold IsC at h h2; rw [h, h2]; exact mk_same s hw hc _ _ _ _ _ _ _ _ _ _ _ _
theorem IsC.self {s c : Sb} (h : IsC s c) (hw : s.Ws) (hc : s.chk = 0) : sameB s c = true := by
  unfold IsC at h; rw [h]; exact self_same s hw hc _ _ _ _ _ _
theorem IsC.reads {s c : Sb} (h : IsC s c) (hw : s.Ws) (k : Nat) (hk : Fl.W k) : readB c k = readB s k := by
  unfold IsC at h; rw [h]; exact mk_reads s hw k hk _ _ _ _ _ _
theorem IsC.writes {s c : Sb} (h : IsC s c) (hw : s.Ws) (k : Nat) : writeB c k = writeB s k := by
  unfold IsC at h; rw [h]; exact mk_writes s hw k _ _ _ _ _ _
abbrev P2b (m n : Nat) (s c : Sb) (w : World) : Prop := SubAt m s.s1 s.s2 s.s3 (.slice s.a1 s.n1 s.c1) (.slice s.a2 s.n2 s.c2) (.slice s.a3 s.n3 s.c3) w ∧ SubAt n c.s1 c.s2 c.s3 (.slice c.a1 c.n1 c.c1) (.slice c.a2 c.n2 c.c2) (.slice c.a3 c.n3 c.c3) w
theorem P2b.old {m n : Nat} {s c : Sb} {w w' : World} (u : Old w w') (h : P2b m n s c w) : P2b m n s c w' := ⟨SubAt.old u h.1, SubAt.old u h.2⟩
theorem chkS (s : Sb) (w : World) (hs : s.Ok w) : Calls Tryz.prog 17 #[.agg #[.int .i64 s.s1, .int .i64 s.s2, .int .i64 s.s3, .slice s.a1 s.n1 s.c1, .slice s.a2 s.n2 s.c2, .slice s.a3 s.n3 s.c3]] w fun e w' => e = .returned (.int .i64 s.chk) ∧ Old w w' := check_any _ _ _ _ _ _ _ _ _ _ _ _ _ _ _ hs.b1 hs.b2 hs.b3 w hs.h1 hs.h2 hs.h3
attribute [local go_sem] run_bits run_frombits run_store_float eqF
set_option maxHeartbeats 8000000 in
set_option maxRecDepth 20000 in
theorem staysLaw (s : Sb) (k : Nat) (hk : Fl.W k) (w : World) (hs : s.Ok w) :
    Calls Tryz.prog 6 #[.agg #[.int .i64 s.s1, .int .i64 s.s2, .int .i64 s.s3, .slice s.a1 s.n1 s.c1, .slice s.a2 s.n2 s.c2, .slice s.a3 s.n3 s.c3], .float .f64 k] w fun e w' => e = .returned (.bool true) ∧ Old w w' := by
  have HCk := hid (fun (W : World) (u : Old w W) => chkS s W (hs.old u))
  have HNo := hid (fun (q : canK s ≠ 0) (W : World) (u : Old w W) => canonS_no s W (hs.old u) q)
  have HYe := hid (fun (q : canK s = 0) (W : World) (u : Old w W) => canonS_c s W (hs.old u) q)
  have HOs := hid (fun (W : World) (u : Old w W) => hs.old u)
  have HW := hid (show s.Ws from hs.ws)
  have HK := hid hk
  clear hs hk
  go_enter Tryz.func6, Tryz.ntmps6
  go_upto_region 1 with fail
  generalize hw1 : w.alloc (.cells #[.int .i64 s.s1, .int .i64 s.s2, .int .i64 s.s3, .slice s.a1 s.n1 s.c1, .slice s.a2 s.n2 s.c2, .slice s.a3 s.n3 s.c3] 25) = w1 at *
  generalize hsb : w.heap.size = sb at *
  have HN := hid (sub_new w s.s1 s.s2 s.s3 _ _ _ w1 hw1 sb hsb)
  clear hw1 hsb
  go_upto_region 3 with (first | (go_at_call 19; refine (canonical_any _).mono ?_; rintro e w2 ⟨rfl, u2⟩; have U2 := hid (HN.out.2.trans u2); have B2 := hid (SubAt.old u2 HN.out.1); clear u2) | (go_at_call 9; refine (coding_any _).mono ?_; rintro e w3 ⟨rfl, u3⟩; have U3 := hid (U2.out.trans u3); have B3 := hid (SubAt.old u3 B2.out); clear u3))
  clear HN U2 B2
  obtain ⟨t0, t1, t2, t3, t4, t5⟩ := B3.out
  by_cases hc : canK s = 0
  · have HY := hid (HYe.out hc)
    have HZ := hid hc
    clear HYe HNo hc
    go_upto_region 4 with (first | (go_at_call 20; refine (HY.out _ U3.out).mono ?_; rintro e w4 ⟨c, rfl, i4, o4, u4⟩; have I4 := hid i4; have O4 := hid o4; have U4 := hid (U3.out.trans u4); have B4 := hid (SubAt.old u4 B3.out); clear i4 o4 u4))
    clear t0 t1 t2 t3 t4 t5 HY B3 U3
    generalize hw5 : w4.alloc (.cells #[.int .i64 c.s1, .int .i64 c.s2, .int .i64 c.s3, .slice c.a1 c.n1 c.c1, .slice c.a2 c.n2 c.c2, .slice c.a3 c.n3 c.c3] 25) = w5 at *
    generalize hcb : w4.heap.size = cb at *
    obtain ⟨hB, hV⟩ := sub_new w4 c.s1 c.s2 c.s3 _ _ _ w5 hw5 cb hcb
    have B5 := hid (show P2b sb cb s c w5 from ⟨SubAt.old hV B4.out, hB⟩)
    have O5 := hid (O4.out.old hV)
    have U5 := hid (U4.out.trans hV)
    clear hw5 hcb hB hV B4 O4 U4
    have HZc := hid (I4.out.kk HW.out HZ.out)
    have HCc := hid (fun (W : World) (u : Old w5 W) => chkS c W (O5.out.old u))
    rw [I4.out.chk HW.out HZ.out] at HCc
    obtain ⟨⟨t0, t1, t2, t3, t4, t5⟩, ⟨u0, u1, u2, u3, u4, u5⟩⟩ := B5.out
    go_upto_region 7 with (first | (go_at_call 20; refine (canonS_c c _ O5.out HZc.out).mono ?_; rintro e w6 ⟨d, rfl, i6, o6, u6⟩; have I6 := hid i6; have O6 := hid o6; have V6 := hid u6; clear i6 o6 u6))
    clear t0 t1 t2 t3 t4 t5 u0 u1 u2 u3 u4 u5
    generalize hw7 : w6.alloc (.cells #[.int .i64 d.s1, .int .i64 d.s2, .int .i64 d.s3, .slice d.a1 d.n1 d.c1, .slice d.a2 d.n2 d.c2, .slice d.a3 d.n3 d.c3] 25) = w7 at *
    generalize hdb : w6.heap.size = db at *
    obtain ⟨hB, hV⟩ := sub_new w6 d.s1 d.s2 d.s3 _ _ _ w7 hw7 db hdb
    have B7 := hid (P2b.old (V6.out.trans hV) B5.out)
    have D7 := hid hB
    have O7 := hid (O6.out.old hV)
    have V7 := hid (V6.out.trans hV)
    clear hw7 hdb hB hV V6 O6
    have HSm := hid (fun (W : World) (u : Old w7 W) => subSame_any c d W (O5.out.old (V7.out.trans u)) (O7.out.old u))
    rw [IsC.same I4.out (I4.out.again HW.out I6.out) HW.out HZ.out] at HSm
    obtain ⟨⟨t0, t1, t2, t3, t4, t5⟩, ⟨u0, u1, u2, u3, u4, u5⟩⟩ := B7.out
    obtain ⟨d0, d1, d2, d3, d4, d5⟩ := D7.out
    go_upto_region 9 with (first | (go_at_call 17; refine (HCc.out _ V7.out).mono ?_; rintro e y1 ⟨rfl, v1⟩; have Y1 := hid v1; obtain ⟨⟨t0', t1', t2', t3', t4', t5'⟩, ⟨u0', u1', u2', u3', u4', u5'⟩⟩ := P2b.old v1 B7.out; obtain ⟨d0', d1', d2', d3', d4', d5'⟩ := SubAt.old v1 D7.out; clear v1) | (go_at_call 18; refine (HSm.out _ Y1.out).mono ?_; rintro e w8 ⟨rfl, v8⟩; have Y8 := hid (Y1.out.trans v8); clear v8))
    have B8 := hid (P2b.old Y8.out B7.out)
    have V8 := hid (V7.out.trans Y8.out)
    have U8 := hid (U5.out.trans V8.out)
    have HOc := hid (fun (W : World) (u : Old w8 W) => O5.out.old (V8.out.trans u))
    have HSf := hid (fun (q : s.chk = 0) => I4.out.self HW.out q)
    have HRc := hid (fun (W : World) (u : Old w8 W) => reads_any c k HK.out W (HOc.out W u))
    have HRs := hid (fun (W : World) (u : Old w8 W) => reads_any s k HK.out W (HOs.out W (U8.out.trans u)))
    have HWc := hid (fun (W : World) (u : Old w8 W) => writes_any c k HK.out W (HOc.out W u))
    have HWs := hid (fun (W : World) (u : Old w8 W) => writes_any s k HK.out W (HOs.out W (U8.out.trans u)))
    rw [I4.out.reads HW.out k HK.out] at HRc
    rw [I4.out.writes HW.out k] at HWc
    generalize readB s k = rr at *
    generalize writeB s k = rw' at *
    clear t0 t1 t2 t3 t4 t5 u0 u1 u2 u3 u4 u5 d0 d1 d2 d3 d4 d5 t0' t1' t2' t3' t4' t5' u0' u1' u2' u3' u4' u5' d0' d1' d2' d3' d4' d5' HSm HCc HZc HZ O7 V7 D7 B7 B5 O5 U5 I6 Y1 Y8 V8 I4 HW HK
    refine wp_region_noPanic ?_
    refine wp_region_held_drew (S := P2b sb cb s c) (by kernel_rfl) ?_ (fun hHeld => ?_)
    · exact P2b.old ((Old.refl _).drew) B8.out
    (try simp only [Act.put]); (try simp only [List.setIfInBounds_toArray]); (try simp only [List.set_cons_succ]); (try simp only [List.set_cons_zero])
    clear hHeld
    refine wpAnyH_take (i := 0) (oi := { dst := some 43, op := Op.load 25 (Operand.tmp 5), type := 25, pos := "law.go:118", after := #[], guard := none }) (v := ?vk1) rfl (by kernel_rfl) (by kernel_rfl) (by kernel_rfl) (fun _ _ _ h => h) (Or.inl ⟨by rfl, ?hk1⟩) (P2b.old ((Old.refl w8).drew) B8.out) ?rk1
    case hk1 => (intro wz hSw; (try dsimp only at hSw); go_simp; try with_reducible rfl)
    (try simp only [Act.put]); (try simp only [List.setIfInBounds_toArray]); (try simp only [List.set_cons_succ]); (try simp only [List.set_cons_zero])
    refine wpAnyH_take (i := 1) (oi := { dst := some 44, op := Op.move (Operand.tmp 1), type := 43, pos := "law.go:118", after := #[], guard := none }) (v := ?vk2) rfl (by kernel_rfl) (by kernel_rfl) (by kernel_rfl) (fun _ _ _ h => h) (Or.inl ⟨by rfl, ?hk2⟩) (P2b.old ((Old.refl w8).drew) B8.out) ?rk2
    case hk2 => (intro wz hSw; (try dsimp only at hSw); go_simp; try with_reducible rfl)
    (try simp only [Act.put]); (try simp only [List.setIfInBounds_toArray]); (try simp only [List.set_cons_succ]); (try simp only [List.set_cons_zero])
    refine wpAnyH_take (i := 3) (oi := { dst := some 46, op := Op.load 25 (Operand.tmp 2), type := 25, pos := "law.go:118", after := #[], guard := none }) (v := ?vk3) rfl (by kernel_rfl) (by kernel_rfl) (by kernel_rfl) (fun _ _ _ h => h) (Or.inl ⟨by rfl, ?hk3⟩) (P2b.old ((Old.refl w8).drew) B8.out) ?rk3
    case hk3 => (intro wz hSw; (try dsimp only at hSw); go_simp; try with_reducible rfl)
    (try simp only [Act.put]); (try simp only [List.setIfInBounds_toArray]); (try simp only [List.set_cons_succ]); (try simp only [List.set_cons_zero])
    refine wpAnyH_take (i := 4) (oi := { dst := some 47, op := Op.move (Operand.tmp 1), type := 43, pos := "law.go:118", after := #[], guard := none }) (v := ?vk4) rfl (by kernel_rfl) (by kernel_rfl) (by kernel_rfl) (fun _ _ _ h => h) (Or.inl ⟨by rfl, ?hk4⟩) (P2b.old ((Old.refl w8).drew) B8.out) ?rk4
    case hk4 => (intro wz hSw; (try dsimp only at hSw); go_simp; try with_reducible rfl)
    (try simp only [Act.put]); (try simp only [List.setIfInBounds_toArray]); (try simp only [List.set_cons_succ]); (try simp only [List.set_cons_zero])
    refine wpAnyH_ready (rs := [2]) (by kernel_rfl) (by simp) ?_
    refine AllReadyH.cons (o := { dst := some 45, op := Op.call { callee := Callee.value (Operand.func 21), args := #[Operand.tmp 43, Operand.tmp 44], argTypes := #[25, 43] }, type := 4, pos := "law.go:118", after := #[{ on := 0, ground := Ground.data }, { on := 1, ground := Ground.data }], guard := none }) rfl (fun K hK => ?_) AllReadyH.nil
    refine wantCall2 ?_ 21 (.tmp 43) (.tmp 44) #[25, 43] ?_ (.agg #[.int .i64 c.s1, .int .i64 c.s2, .int .i64 c.s3, .slice c.a1 c.n1 c.c1, .slice c.a2 c.n2 c.c2, .slice c.a3 c.n3 c.c3]) (.float .f64 k) ?_ ?_ ?_ (ent_rd _ _) ?_
    · rfl
    · rfl
    · rfl
    · rfl
    · rfl
    refine (HRc.out _ ((Old.refl w8).drew)).mono ?_
    rintro o x5 ⟨rfl, b5⟩
    refine ⟨_, rfl, ?_⟩
    have U5 := ((Old.refl w8).drew).trans b5
    refine hK.out _ _ (P2b.old U5 B8.out) (fun _ => ?_)
    clear hK K
    (try simp only [Act.put]); (try simp only [List.setIfInBounds_toArray]); (try simp only [List.set_cons_succ]); (try simp only [List.set_cons_zero])
    refine wpAnyH_ready (rs := [5]) (by kernel_rfl) (by simp) ?_
    refine AllReadyH.cons (o := { dst := some 48, op := Op.call { callee := Callee.value (Operand.func 21), args := #[Operand.tmp 46, Operand.tmp 47], argTypes := #[25, 43] }, type := 4, pos := "law.go:118", after := #[{ on := 3, ground := Ground.data }, { on := 4, ground := Ground.data }, { on := 2, ground := Ground.chain }], guard := none }) rfl (fun K hK => ?_) AllReadyH.nil
    refine wantCall2 ?_ 21 (.tmp 46) (.tmp 47) #[25, 43] ?_ (.agg #[.int .i64 s.s1, .int .i64 s.s2, .int .i64 s.s3, .slice s.a1 s.n1 s.c1, .slice s.a2 s.n2 s.c2, .slice s.a3 s.n3 s.c3]) (.float .f64 k) ?_ ?_ ?_ (ent_rd _ _) ?_
    · rfl
    · rfl
    · rfl
    · rfl
    · rfl
    refine (HRs.out _ U5).mono ?_
    rintro o x6 ⟨rfl, b6⟩
    refine ⟨_, rfl, ?_⟩
    have U6 := U5.trans b6
    refine hK.out _ _ (P2b.old U6 B8.out) (fun _ => ?_)
    clear hK K
    (try simp only [Act.put]); (try simp only [List.setIfInBounds_toArray]); (try simp only [List.set_cons_succ]); (try simp only [List.set_cons_zero])
    refine wpAnyH_take (i := 6) (oi := { dst := some 49, op := Op.binOp BinOp.neq 4 (Operand.tmp 45) (Operand.tmp 48) 4, type := 4, pos := "law.go:118", after := #[{ on := 2, ground := Ground.data }, { on := 5, ground := Ground.data }], guard := none }) (v := ?vk7) rfl (by kernel_rfl) (by kernel_rfl) (by kernel_rfl) (fun _ _ _ h => h) (Or.inl ⟨by rfl, ?hk7⟩) (P2b.old U6 B8.out) ?rk7
    case hk7 => (intro wz hSw; (try dsimp only at hSw); go_simp; try with_reducible rfl)
    (try simp only [Act.put]); (try simp only [List.setIfInBounds_toArray]); (try simp only [List.set_cons_succ]); (try simp only [List.set_cons_zero])
    refine wpAnyH_take (i := 7) (oi := { dst := some 50, op := Op.move (Operand.tmp 49), type := 4, pos := "law.go:118", after := #[{ on := 6, ground := Ground.data }, { on := 5, ground := Ground.chain }], guard := none }) (v := ?vk8) rfl (by kernel_rfl) (by kernel_rfl) (by kernel_rfl) (fun _ _ _ h => h) (Or.inl ⟨by rfl, ?hk8⟩) (P2b.old U6 B8.out) ?rk8
    case hk8 => (intro wz hSw; (try dsimp only at hSw); go_simp; try with_reducible rfl)
    (try simp only [Act.put]); (try simp only [List.setIfInBounds_toArray]); (try simp only [List.set_cons_succ]); (try simp only [List.set_cons_zero])
    refine wpAnyH_take (i := 8) (oi := { dst := some 51, op := Op.load 25 (Operand.tmp 5), type := 25, pos := "law.go:118", after := #[{ on := 7, ground := Ground.guard }], guard := some (7, false) }) (v := ?vk9) rfl (by kernel_rfl) (by kernel_rfl) (by kernel_rfl) (fun _ _ _ h => h) (Or.inl ⟨by rfl, ?hk9⟩) (P2b.old U6 B8.out) ?rk9
    case hk9 => (intro wz hSw; (try dsimp only at hSw); go_simp; try with_reducible rfl)
    (try simp only [Act.put]); (try simp only [List.setIfInBounds_toArray]); (try simp only [List.set_cons_succ]); (try simp only [List.set_cons_zero])
    refine wpAnyH_take (i := 9) (oi := { dst := some 52, op := Op.move (Operand.tmp 1), type := 43, pos := "law.go:118", after := #[{ on := 7, ground := Ground.guard }], guard := some (7, false) }) (v := ?vk10) rfl (by kernel_rfl) (by kernel_rfl) (by kernel_rfl) (fun _ _ _ h => h) (Or.inl ⟨by rfl, ?hk10⟩) (P2b.old U6 B8.out) ?rk10
    case hk10 => (intro wz hSw; (try dsimp only at hSw); go_simp; try with_reducible rfl)
    (try simp only [Act.put]); (try simp only [List.setIfInBounds_toArray]); (try simp only [List.set_cons_succ]); (try simp only [List.set_cons_zero])
    refine wpAnyH_take (i := 11) (oi := { dst := some 54, op := Op.load 25 (Operand.tmp 2), type := 25, pos := "law.go:118", after := #[{ on := 7, ground := Ground.guard }], guard := some (7, false) }) (v := ?vk11) rfl (by kernel_rfl) (by kernel_rfl) (by kernel_rfl) (fun _ _ _ h => h) (Or.inl ⟨by rfl, ?hk11⟩) (P2b.old U6 B8.out) ?rk11
    case hk11 => (intro wz hSw; (try dsimp only at hSw); go_simp; try with_reducible rfl)
    (try simp only [Act.put]); (try simp only [List.setIfInBounds_toArray]); (try simp only [List.set_cons_succ]); (try simp only [List.set_cons_zero])
    refine wpAnyH_take (i := 12) (oi := { dst := some 55, op := Op.move (Operand.tmp 1), type := 43, pos := "law.go:118", after := #[{ on := 7, ground := Ground.guard }], guard := some (7, false) }) (v := ?vk12) rfl (by kernel_rfl) (by kernel_rfl) (by kernel_rfl) (fun _ _ _ h => h) (Or.inl ⟨by rfl, ?hk12⟩) (P2b.old U6 B8.out) ?rk12
    case hk12 => (intro wz hSw; (try dsimp only at hSw); go_simp; try with_reducible rfl)
    (try simp only [Act.put]); (try simp only [List.setIfInBounds_toArray]); (try simp only [List.set_cons_succ]); (try simp only [List.set_cons_zero])
    refine wpAnyH_ready (rs := [10]) (by kernel_rfl) (by simp) ?_
    refine AllReadyH.cons (o := { dst := some 53, op := Op.call { callee := Callee.value (Operand.func 22), args := #[Operand.tmp 51, Operand.tmp 52], argTypes := #[25, 43] }, type := 4, pos := "law.go:118", after := #[{ on := 8, ground := Ground.data }, { on := 9, ground := Ground.data }, { on := 7, ground := Ground.chain }, { on := 7, ground := Ground.guard }], guard := some (7, false) }) rfl (fun K hK => ?_) AllReadyH.nil
    refine wantCall2 ?_ 22 (.tmp 51) (.tmp 52) #[25, 43] ?_ (.agg #[.int .i64 c.s1, .int .i64 c.s2, .int .i64 c.s3, .slice c.a1 c.n1 c.c1, .slice c.a2 c.n2 c.c2, .slice c.a3 c.n3 c.c3]) (.float .f64 k) ?_ ?_ ?_ (ent_wr _ _) ?_
    · rfl
    · rfl
    · rfl
    · rfl
    · rfl
    refine (HWc.out _ U6).mono ?_
    rintro o x13 ⟨rfl, b13⟩
    refine ⟨_, rfl, ?_⟩
    have U13 := U6.trans b13
    refine hK.out _ _ (P2b.old U13 B8.out) (fun _ => ?_)
    clear hK K
    (try simp only [Act.put]); (try simp only [List.setIfInBounds_toArray]); (try simp only [List.set_cons_succ]); (try simp only [List.set_cons_zero])
    refine wpAnyH_ready (rs := [13]) (by kernel_rfl) (by simp) ?_
    refine AllReadyH.cons (o := { dst := some 56, op := Op.call { callee := Callee.value (Operand.func 22), args := #[Operand.tmp 54, Operand.tmp 55], argTypes := #[25, 43] }, type := 4, pos := "law.go:118", after := #[{ on := 11, ground := Ground.data }, { on := 12, ground := Ground.data }, { on := 10, ground := Ground.chain }, { on := 7, ground := Ground.guard }], guard := some (7, false) }) rfl (fun K hK => ?_) AllReadyH.nil
    refine wantCall2 ?_ 22 (.tmp 54) (.tmp 55) #[25, 43] ?_ (.agg #[.int .i64 s.s1, .int .i64 s.s2, .int .i64 s.s3, .slice s.a1 s.n1 s.c1, .slice s.a2 s.n2 s.c2, .slice s.a3 s.n3 s.c3]) (.float .f64 k) ?_ ?_ ?_ (ent_wr _ _) ?_
    · rfl
    · rfl
    · rfl
    · rfl
    · rfl
    refine (HWs.out _ U13).mono ?_
    rintro o x14 ⟨rfl, b14⟩
    refine ⟨_, rfl, ?_⟩
    have U14 := U13.trans b14
    refine hK.out _ _ (P2b.old U14 B8.out) (fun _ => ?_)
    clear hK K
    (try simp only [Act.put]); (try simp only [List.setIfInBounds_toArray]); (try simp only [List.set_cons_succ]); (try simp only [List.set_cons_zero])
    refine wpAnyH_take (i := 14) (oi := { dst := some 57, op := Op.binOp BinOp.neq 4 (Operand.tmp 53) (Operand.tmp 56) 4, type := 4, pos := "law.go:118", after := #[{ on := 10, ground := Ground.data }, { on := 13, ground := Ground.data }, { on := 7, ground := Ground.guard }], guard := some (7, false) }) (v := ?vk15) rfl (by kernel_rfl) (by kernel_rfl) (by kernel_rfl) (fun _ _ _ h => h) (Or.inl ⟨by rfl, ?hk15⟩) (P2b.old U14 B8.out) ?rk15
    case hk15 => (intro wz hSw; (try dsimp only at hSw); go_simp; try with_reducible rfl)
    (try simp only [Act.put]); (try simp only [List.setIfInBounds_toArray]); (try simp only [List.set_cons_succ]); (try simp only [List.set_cons_zero])
    refine wpAnyH_take (i := 15) (oi := { dst := some 58, op := Op.pick (Operand.tmp 50) (Operand.const (Value.bool true)) (Operand.tmp 57), type := 4, pos := "law.go:118", after := #[{ on := 7, ground := Ground.data }, { on := 14, ground := Ground.data }], guard := none }) (v := ?vk16) rfl (by kernel_rfl) (by kernel_rfl) (by kernel_rfl) (fun _ _ _ h => h) (Or.inl ⟨by rfl, ?hk16⟩) (P2b.old U14 B8.out) ?rk16
    case hk16 => (intro wz hSw; (try dsimp only at hSw); go_simp; try with_reducible rfl)
    (try simp only [Act.put]); (try simp only [List.setIfInBounds_toArray]); (try simp only [List.set_cons_succ]); (try simp only [List.set_cons_zero])
    refine wpAnyH_done (by kernel_rfl) ?_ _
    refine NoPanic.normal ?_
    have U9 := hid U14
    have B9 := hid (P2b.old U9.out B8.out)
    obtain ⟨⟨t0, t1, t2, t3, t4, t5⟩, ⟨u0, u1, u2, u3, u4, u5⟩⟩ := B9.out
    by_cases hq : s.chk = 0
    · rw [hq] at HCk
      have HSm := hid (fun (W : World) (u : Old w8 W) => subSame_any s c W (HOs.out W (U8.out.trans u)) (HOc.out W u))
      rw [HSf.out hq] at HSm
      go_wp2_with (first | (go_at_call 17; refine (HCk.out _ (U8.out.trans U9.out)).mono ?_; rintro e y1 ⟨rfl, v1⟩; have V1 := hid (U9.out.trans v1); obtain ⟨⟨t0', t1', t2', t3', t4', t5'⟩, ⟨u0', u1', u2', u3', u4', u5'⟩⟩ := P2b.old v1 B9.out; clear v1) | (go_at_call 18; refine (HSm.out _ V1.out).mono ?_; rintro e y2 ⟨rfl, v2⟩; have V2 := hid (V1.out.trans v2); clear v2))
      go_ret
      exact ⟨rfl, U8.out.trans V2.out⟩
    · have c2 : (s.chk != 0) = true := by rw [bne_iff_ne]; exact hq
      clear hq HSf HOs HOc
      generalize s.chk = r at *
      go_wp2_with (first | (go_at_call 17; refine (HCk.out _ (U8.out.trans U9.out)).mono ?_; rintro e y1 ⟨rfl, v1⟩; have V1 := hid (U9.out.trans v1); clear v1))
      go_ret
      exact ⟨rfl, U8.out.trans V1.out⟩

  · have HN := hid (HNo.out hc)
    have HQ := hid (show s.chk ≠ 0 from fun q => hc (right_K s q))
    have c1 : (canK s != 0) = true := by rw [bne_iff_ne]; exact hc
    have c2 : (s.chk != 0) = true := by rw [bne_iff_ne]; exact HQ.out
    clear HYe HNo hc HQ HW
    generalize canK s = x at *
    generalize s.chk = r at *
    go_upto_region 4 with (first | (go_at_call 20; refine (HN.out _ U3.out).mono ?_; rintro e w4 ⟨rfl, u4⟩; have U4 := hid (U3.out.trans u4); have B4 := hid (SubAt.old u4 B3.out); clear u4))
    clear t0 t1 t2 t3 t4 t5
    generalize hw5 : w4.alloc (.cells #[.int .i64 0, .int .i64 0, .int .i64 0, .slice none 0 0, .slice none 0 0, .slice none 0 0] 25) = w5 at *
    generalize hcb : w4.heap.size = cb at *
    obtain ⟨hB, hV⟩ := sub_new w4 0 0 0 _ _ _ w5 hw5 cb hcb
    have B5 := hid (SubAt.old hV B4.out)
    have U5 := hid (U4.out.trans hV)
    clear hw5 hcb hB hV
    obtain ⟨t0, t1, t2, t3, t4, t5⟩ := B5.out
    go_wp2_with (first | (go_at_call 17; refine (HCk.out _ U5.out).mono ?_; rintro e w6 ⟨rfl, u6⟩; have U6 := hid (U5.out.trans u6); clear u6))
    go_ret
    exact ⟨rfl, U6.out⟩
end Go.Proofs.YtodnegflaoedbaaGreat
