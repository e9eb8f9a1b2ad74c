/- The example of Canon that the laws begin with; no condition. -/
import Derived.Test.YtodnegflaoedbaaGreatTB
namespace Go.Proofs.YtodnegflaoedbaaGreat
open Go.RowKit
set_option linter.unusedVariables false
set_option maxRecDepth 20000
def e1 : List Nat := [4613937818241073152, 4607182418800017408, 4613937818241073152]
def e2 : List Sp := [⟨4607182418800017408, 4611686018427387904, false, true⟩, ⟨4611686018427387904, 4613937818241073152, false, false⟩]
def e3 : List Nat := [4611686018427387904]
theorem e1_sort : Fl.sortL (atN e1) 3 = [4607182418800017408, 4613937818241073152] := by decide +kernel
theorem e3_sort : Fl.sortL (atN e3) 1 = [4611686018427387904] := by decide +kernel
theorem e2_norm : Fl.dfold (Fl.cdl (atS e2) 2) = [(13830554455654793216, 13837309855095848960)] := by decide +kernel
theorem e2_spo : [(13830554455654793216, 13837309855095848960)].map Fl.spo = [⟨4607182418800017408, 4613937818241073152, false, false⟩] := by
  show [(⟨Fl.of 13830554455654793216, Fl.of 13837309855095848960, false, false⟩ : Sp)] = _
  rw [show Fl.of 13830554455654793216 = 4607182418800017408 by decide +kernel, show Fl.of 13837309855095848960 = 4613937818241073152 by decide +kernel]
theorem e_code : canC (misB 1 2 0) (crowdB 2 1 1) (Fl.anyG (fun i => Fl.nan (atN [4607182418800017408, 4613937818241073152] i)) 2 || Fl.anyG (fun i => Fl.nan (atN [4611686018427387904] i)) 1) (Fl.anyG (fun i => Fl.nan (atS e2 i).a || Fl.nan (atS e2 i).b) 2) = 0 := by decide +kernel
theorem e_rows (w : World) (m : Nat) (hm : w.heap.size = m) : FRow (((w.alloc (.cells #[.float .f64 4613937818241073152, .float .f64 4607182418800017408, .float .f64 4613937818241073152] 43)).alloc (.cells #[.float .f64 4607182418800017408, .float .f64 4611686018427387904, .bool false, .bool true, .float .f64 4611686018427387904, .float .f64 4613937818241073152, .bool false, .bool false] 48)).alloc (.cells #[.float .f64 4611686018427387904] 43)) (.slice (some ⟨m, 0, none⟩) 3 3) 3 (atN e1) ∧ SRow (((w.alloc (.cells #[.float .f64 4613937818241073152, .float .f64 4607182418800017408, .float .f64 4613937818241073152] 43)).alloc (.cells #[.float .f64 4607182418800017408, .float .f64 4611686018427387904, .bool false, .bool true, .float .f64 4611686018427387904, .float .f64 4613937818241073152, .bool false, .bool false] 48)).alloc (.cells #[.float .f64 4611686018427387904] 43)) (.slice (some ⟨m + 1, 0, none⟩) 2 2) 2 (atS e2) ∧ FRow (((w.alloc (.cells #[.float .f64 4613937818241073152, .float .f64 4607182418800017408, .float .f64 4613937818241073152] 43)).alloc (.cells #[.float .f64 4607182418800017408, .float .f64 4611686018427387904, .bool false, .bool true, .float .f64 4611686018427387904, .float .f64 4613937818241073152, .bool false, .bool false] 48)).alloc (.cells #[.float .f64 4611686018427387904] 43)) (.slice (some ⟨m + 2, 0, none⟩) 1 1) 1 (atN e3) := by
  subst hm
  have a : FRow (w.alloc (.cells #[.float .f64 4613937818241073152, .float .f64 4607182418800017408, .float .f64 4613937818241073152] 43)) (.slice (some ⟨w.heap.size, 0, none⟩) 3 3) 3 (atN e1) := by
    refine ⟨by omega, _, _, rfl, fun i hi => ⟨w.heap.size, 0, rfl, ?_⟩⟩
    match i, hi with
    | 0, _ => exact ⟨wlit (by decide), by simp [atN, e1]⟩
    | 1, _ => exact ⟨wlit (by decide), by simp [atN, e1]⟩
    | 2, _ => exact ⟨wlit (by decide), by simp [atN, e1]⟩
  have b : SRow ((w.alloc (.cells #[.float .f64 4613937818241073152, .float .f64 4607182418800017408, .float .f64 4613937818241073152] 43)).alloc (.cells #[.float .f64 4607182418800017408, .float .f64 4611686018427387904, .bool false, .bool true, .float .f64 4611686018427387904, .float .f64 4613937818241073152, .bool false, .bool false] 48)) (.slice (some ⟨w.heap.size + 1, 0, none⟩) 2 2) 2 (atS e2) := by
    generalize hW : w.alloc (.cells #[.float .f64 4613937818241073152, .float .f64 4607182418800017408, .float .f64 4613937818241073152] 43) = W
    have hz : w.heap.size + 1 = W.heap.size := by rw [← hW]; simp
    rw [hz]
    refine ⟨by omega, _, _, rfl, fun i hi => ⟨W.heap.size, 0, rfl, ?_⟩⟩
    match i, hi with
    | 0, _ => exact ⟨wlit (by decide), wlit (by decide), by simp [SpIn, atS, e2]⟩
    | 1, _ => exact ⟨wlit (by decide), wlit (by decide), by simp [SpIn, atS, e2]⟩
  have c : FRow (((w.alloc (.cells #[.float .f64 4613937818241073152, .float .f64 4607182418800017408, .float .f64 4613937818241073152] 43)).alloc (.cells #[.float .f64 4607182418800017408, .float .f64 4611686018427387904, .bool false, .bool true, .float .f64 4611686018427387904, .float .f64 4613937818241073152, .bool false, .bool false] 48)).alloc (.cells #[.float .f64 4611686018427387904] 43)) (.slice (some ⟨w.heap.size + 2, 0, none⟩) 1 1) 1 (atN e3) := by
    generalize hW : (w.alloc (.cells #[.float .f64 4613937818241073152, .float .f64 4607182418800017408, .float .f64 4613937818241073152] 43)).alloc (.cells #[.float .f64 4607182418800017408, .float .f64 4611686018427387904, .bool false, .bool true, .float .f64 4611686018427387904, .float .f64 4613937818241073152, .bool false, .bool false] 48) = W
    have hz : w.heap.size + 2 = W.heap.size := by rw [← hW]; simp
    rw [hz]
    refine ⟨by omega, _, _, rfl, fun i hi => ⟨W.heap.size, 0, rfl, ?_⟩⟩
    match i, hi with
    | 0, _ => exact ⟨wlit (by decide), by simp [atN, e3]⟩
  exact ⟨a.old (((Old.refl _).alloc _).alloc _), b.old ((Old.refl _).alloc _), c⟩
theorem canon_ex (w : World) (m : Nat) (hm : w.heap.size = m) :
    Calls Tryz.prog 20 #[.agg #[.int .i64 1, .int .i64 2, .int .i64 0, .slice (some ⟨m, 0, none⟩) 3 3, .slice (some ⟨m + 1, 0, none⟩) 2 2, .slice (some ⟨m + 2, 0, none⟩) 1 1]] (((w.alloc (.cells #[.float .f64 4613937818241073152, .float .f64 4607182418800017408, .float .f64 4613937818241073152] 43)).alloc (.cells #[.float .f64 4607182418800017408, .float .f64 4611686018427387904, .bool false, .bool true, .float .f64 4611686018427387904, .float .f64 4613937818241073152, .bool false, .bool false] 48)).alloc (.cells #[.float .f64 4611686018427387904] 43)) fun e w' => ∃ (p1 p2 p3 : Option Addr) (q1 q2 q3 : Nat), e = .returned (.tuple #[.agg #[.int .i64 1, .int .i64 2, .int .i64 0, .slice p1 2 q1, .slice p2 1 q2, .slice p3 1 q3], .int .i64 0]) ∧ (FRow w' (.slice p1 2 q1) 2 (atN [4607182418800017408, 4613937818241073152]) ∧ SRow w' (.slice p2 1 q2) 1 (atS [⟨4607182418800017408, 4613937818241073152, false, false⟩]) ∧ FRow w' (.slice p3 1 q3) 1 (atN [4611686018427387904])) ∧ Old w w' := by
  obtain ⟨a, b, c⟩ := e_rows w m hm
  refine (subCanon_any 1 2 0 _ _ _ 3 2 1 3 2 1 (atN e1) (atN e3) (atS e2) (by omega) (by omega) (by omega) _ a b c).mono ?_
  intro e w' h
  rw [e1_sort, e3_sort, e2_norm, e2_spo] at h
  unfold CanPost at h
  obtain ⟨p1, p2, p3, q1, q2, q3, h1, ⟨g1, g2, g3⟩, hu⟩ := h
  split at h1
  case isFalse hne => exact absurd e_code hne
  refine ⟨p1, p2, p3, q1, q2, q3, h1, ⟨g1.row ?_ (by simp), g2.row ?_ (by simp), g3.row ?_ (by simp)⟩, ((((Old.refl w).alloc _).alloc _).alloc _).trans hu⟩
  · intro y hy; simp at hy; rcases hy with rfl | rfl <;> exact wlit (by decide)
  · intro s hs; simp at hs; subst hs; exact ⟨wlit (by decide), wlit (by decide)⟩
  · intro y hy; simp at hy; subst hy; exact wlit (by decide)
attribute [local go_sem] run_bits run_frombits run_store_float eqF
set_option maxHeartbeats 2000000 in
set_option maxRecDepth 20000 in
theorem canonical_any (w : World) :
    Calls Tryz.prog 19 #[] w fun e w' => e = .returned (.bool true) ∧ Old w w' := by
  go_enter Tryz.func19, Tryz.ntmps19
  go_upto_region 2 with (go_at_call 20; refine (canon_ex _ _ rfl).mono ?_; rintro e w1 ⟨p1, p2, p3, q1, q2, q3, rfl, h1, u1⟩; have H1 := hid h1; have U1 := hid u1; clear h1 u1)
  have hB : SubAt w1.heap.size 1 2 0 (.slice p1 2 q1) (.slice p2 1 q2) (.slice p3 1 q3) (w1.alloc (.cells #[.int .i64 1, .int .i64 2, .int .i64 0, .slice p1 2 q1, .slice p2 1 q2, .slice p3 1 q3] 25)) := by simp [SubAt]
  have V1 : Old w1 (w1.alloc (.cells #[.int .i64 1, .int .i64 2, .int .i64 0, .slice p1 2 q1, .slice p2 1 q2, .slice p3 1 q3] 25)) := (Old.refl w1).alloc _
  generalize (w1.alloc (.cells #[.int .i64 1, .int .i64 2, .int .i64 0, .slice p1 2 q1, .slice p2 1 q2, .slice p3 1 q3] 25)) = w2 at *
  have HB := hid hB
  have HV := hid V1
  clear hB V1
  go_region_held3 (SubAt w1.heap.size 1 2 0 (.slice p1 2 q1) (.slice p2 1 q2) (.slice p3 1 q3)) (first | assumption | exact HB.out | (refine SubAt.old ?_ HB.out; assumption)) (first | (go_at_call 23; refine (small_any _).mono ?_; rintro e w3 ⟨g1, g2, g3, rfl, s3, u3⟩; have U3 : Old w2 w3 := ((Old.refl _).drew).trans u3; have S3 := hid s3; clear s3) | (go_at_call 15; refine (refSame_eq 1 2 0 p1 p2 p3 _ _ _ 2 1 1 q1 q2 q3 2 1 1 _ _ _ _ (H1.out.1.old (HV.out.trans U3)) (H1.out.2.1.old (HV.out.trans U3)) (H1.out.2.2.old (HV.out.trans U3)) S3.out.1 S3.out.2.1 S3.out.2.2).mono ?_; rintro e w4 ⟨rfl, u4⟩; have U4 : Old w2 w4 := U3.trans u4))
  all_goals go_wp2
  all_goals go_ret
  all_goals exact ⟨rfl, (U1.out.trans HV.out).trans U4⟩
end Go.Proofs.YtodnegflaoedbaaGreat
namespace Go.Proofs.YtodnegflaoedbaaGreat
set_option linter.unusedVariables false
set_option linter.unusedSimpArgs false
set_option maxRecDepth 20000
theorem sameU_refl (x : Nat → Nat) (n : Nat) : Fl.sameU x x n = true := sameU_of fun _ _ => rfl
theorem spU_refl (f : Nat → Sp) (n : Nat) : Fl.spU f f n = true := spU_of fun _ _ => rfl
theorem anyG_none {g : Nat → Bool} : ∀ {n : Nat}, (∀ i, i < n → g i = false) → Fl.anyG g n = false
  | 0, _ => rfl
  | n + 1, h => by
    show (Fl.anyG g n || g n) = false
    rw [anyG_none (fun i hi => h i (by omega)), h n (by omega)]; rfl
theorem ordF_sorted (x : Nat → Nat) (n : Nat) (hx : ∀ i, i < n → Fl.W (x i)) : ordF (atN (Fl.sortL x n)) (Fl.sortL x n).length = true := by
  unfold ordF
  rw [sortL_again x n hx, decide_eq_true rfl, sameU_refl]
  rfl
theorem dfold_nl {D : List (Nat × Nat)} (h : Fl.NL D) : Fl.dfold D = D := by
  have hk := Fl.dfold_ok _ D rfl h.2
  exact Fl.nl_unique _ _ hk.1 h hk.2.1
theorem cdl_again {D : List (Nat × Nat)} (h : Fl.NL D) : Fl.dfold (Fl.cdl (atS (D.map Fl.spo)) (D.map Fl.spo).length) = D := by
  rw [List.length_map, Fl.cdl_spo D h.2, dfold_nl h]
theorem ordS_norm {D : List (Nat × Nat)} (h : Fl.NL D) : ordS (atS (D.map Fl.spo)) (D.map Fl.spo).length = true := by
  unfold ordS
  rw [cdl_again h, List.length_map, decide_eq_true rfl, spU_refl]
  rfl
theorem atS_spo {D : List (Nat × Nat)} (h : Fl.NL D) (i : Nat) (hi : i < (D.map Fl.spo).length) : ∃ r, Fl.RV r ∧ atS (D.map Fl.spo) i = Fl.spo r := by
  rw [atS_get _ i hi, List.getElem_map]
  exact ⟨_, h.2 _ (List.getElem_mem _), rfl⟩
theorem csE_spo {r : Nat × Nat} (h : Fl.RV r) : Fl.csE (Fl.spo r).a (Fl.spo r).b (Fl.spo r).p (Fl.spo r).q = false := (Fl.cs_of_form _ _ _ (Fl.spo_form h)).2.2
theorem canC_parts {m c k z : Bool} (h : canC m c k z = 0) : m = false ∧ c = false ∧ k = false ∧ z = false := by
  unfold canC at h
  cases m <;> cases c <;> cases k <;> cases z <;> simp at h ⊢
theorem canC_zero : canC false false false false = 0 := rfl
/-- What Canon makes is right. -/
theorem canon_right (s1 s2 s3 : Int) (n1 n2 n3 : Nat) (x1 x3 : Nat → Nat) (f2 : Nat → Sp) (h1 : ∀ i, i < n1 → Fl.W (x1 i)) (h2 : ∀ i, i < n2 → Fl.W (f2 i).a ∧ Fl.W (f2 i).b) (h3 : ∀ i, i < n3 → Fl.W (x3 i)) (hm : misB s1 s2 s3 = false) (hc : crowdB (Fl.sortL x1 n1).length ((Fl.dfold (Fl.cdl f2 n2)).map Fl.spo).length (Fl.sortL x3 n3).length = false) (hk : (Fl.anyG (fun i => Fl.nan (atN (Fl.sortL x1 n1) i)) (Fl.sortL x1 n1).length || Fl.anyG (fun i => Fl.nan (atN (Fl.sortL x3 n3) i)) (Fl.sortL x3 n3).length) = false) :
    chkV s1 s2 s3 (Fl.sortL x1 n1).length ((Fl.dfold (Fl.cdl f2 n2)).map Fl.spo).length (Fl.sortL x3 n3).length (atN (Fl.sortL x1 n1)) (atN (Fl.sortL x3 n3)) (atS ((Fl.dfold (Fl.cdl f2 n2)).map Fl.spo)) = 0 := by
  have hD := (Fl.dfold_ok _ (Fl.cdl f2 n2) rfl (Fl.cdl_RV f2 n2 h2)).1
  unfold chkV
  rw [hm, hc, hk, ordF_sorted x1 n1 h1, ordF_sorted x3 n3 h3, ordS_norm hD, anyG_none (fun i hi => by obtain ⟨r, hr, e⟩ := atS_spo hD i hi; rw [e]; exact csE_spo hr)]
  rfl
/-- .. and Canon makes the same of it. -/
theorem canon_code_again (s1 s2 s3 : Int) (n1 n2 n3 : Nat) (x1 x3 : Nat → Nat) (f2 : Nat → Sp) (h1 : ∀ i, i < n1 → Fl.W (x1 i)) (h2 : ∀ i, i < n2 → Fl.W (f2 i).a ∧ Fl.W (f2 i).b) (h3 : ∀ i, i < n3 → Fl.W (x3 i)) : Fl.anyG (fun i => Fl.nan (atS ((Fl.dfold (Fl.cdl f2 n2)).map Fl.spo) i).a || Fl.nan (atS ((Fl.dfold (Fl.cdl f2 n2)).map Fl.spo) i).b) ((Fl.dfold (Fl.cdl f2 n2)).map Fl.spo).length = false := by
  have hD := (Fl.dfold_ok _ (Fl.cdl f2 n2) rfl (Fl.cdl_RV f2 n2 h2)).1
  refine anyG_none fun i hi => ?_
  obtain ⟨r, hr, e⟩ := atS_spo hD i hi
  have q := csE_nan (csE_spo hr)
  rw [e, q.1, q.2]
  rfl
theorem ordF_len {x : Nat → Nat} {n : Nat} (h : ordF x n = true) : n = (Fl.sortL x n).length ∧ ∀ i, i < n → x i = atN (Fl.sortL x n) i := by
  unfold ordF at h
  rw [Bool.and_eq_true, decide_eq_true_eq] at h
  exact ⟨h.1, sameU_each h.2⟩
theorem ordS_len {f : Nat → Sp} {n : Nat} (h : ordS f n = true) : n = ((Fl.dfold (Fl.cdl f n)).map Fl.spo).length ∧ ∀ i, i < n → f i = atS ((Fl.dfold (Fl.cdl f n)).map Fl.spo) i := by
  unfold ordS at h
  rw [Bool.and_eq_true, decide_eq_true_eq] at h
  exact ⟨by rw [List.length_map]; exact h.1, fun i hi => sp_ext (spU_each h.2 i hi)⟩
/-- A right submission is taken by Canon, and is what it makes. -/
theorem right_canon (s1 s2 s3 : Int) (n1 n2 n3 : Nat) (x1 x3 : Nat → Nat) (f2 : Nat → Sp) (h : chkV s1 s2 s3 n1 n2 n3 x1 x3 f2 = 0) : canC (misB s1 s2 s3) (crowdB (Fl.sortL x1 n1).length ((Fl.dfold (Fl.cdl f2 n2)).map Fl.spo).length (Fl.sortL x3 n3).length) (Fl.anyG (fun i => Fl.nan (atN (Fl.sortL x1 n1) i)) (Fl.sortL x1 n1).length || Fl.anyG (fun i => Fl.nan (atN (Fl.sortL x3 n3) i)) (Fl.sortL x3 n3).length) (Fl.anyG (fun i => Fl.nan (f2 i).a || Fl.nan (f2 i).b) n2) = 0 := by
  have p := chk_parts h
  have o1 := ordF_len p.2.2.2.2.1
  have o2 := ordS_len p.2.2.2.2.2.1
  have o3 := ordF_len p.2.2.2.2.2.2
  have k := p.2.2.1
  rw [Bool.or_eq_false_iff] at k
  have k1 := anyG_each k.1
  have k3 := anyG_each k.2
  have z := anyG_each p.2.2.2.1
  rw [← o1.1, ← o2.1, ← o3.1, p.1, p.2.1, anyG_none (fun i hi => by rw [← o1.2 i hi]; exact k1 i hi), anyG_none (fun i hi => by rw [← o3.2 i hi]; exact k3 i hi), anyG_none (fun i hi => by have q := csE_nan (z i hi); rw [q.1, q.2]; rfl)]
  rfl
end Go.Proofs.YtodnegflaoedbaaGreat
namespace Go.Proofs.YtodnegflaoedbaaGreat
open Go.RowKit Go.Lib
set_option linter.unusedVariables false
set_option linter.unusedSimpArgs false
set_option maxRecDepth 20000
namespace Fl
theorem hasS_cov (s : Sp) (k : Nat) : hasS s k = true ↔ Cov (cd s) (code k) := by
  unfold hasS hasF cd
  cases h : csE s.a s.b s.p s.q
  · simp [cov_cons, cov_nil]
  · simp [cov_nil]
theorem anyG_cov (f : Nat → Sp) (k : Nat) : ∀ n, anyG (fun i => hasS (f i) k) n = true ↔ Cov (cdl f n) (code k)
  | 0 => by simp [anyG, cdl, cov_nil]
  | n + 1 => by
    show (anyG (fun i => hasS (f i) k) n || hasS (f n) k) = true ↔ Cov (cdl f n ++ cd (f n)) (code k)
    rw [cov_app, Bool.or_eq_true, anyG_cov f k n, hasS_cov]
theorem cov_zero (L : List (Nat × Nat)) (h : ∀ r ∈ L, RV r) : ¬ Cov L 0 := by
  rintro ⟨r, hr, h1, _⟩
  have := (h r hr).1
  unfold V at this; omega
/-- What covers a key, told by the list that is as few as may be. -/
theorem anyG_norm (f : Nat → Sp) (n k : Nat) (hk : W k) (hR : ∀ r ∈ cdl f n, RV r) : anyG (fun i => hasS (atS ((dfold (cdl f n)).map spo) i) k) (dfold (cdl f n)).length = anyG (fun i => hasS (f i) k) n := by
  have a := dfold_ok _ (cdl f n) rfl hR
  rw [Bool.eq_iff_iff, anyG_cov, anyG_cov, cdl_spo _ a.1.2]
  cases hn : nan k
  · exact a.2.1 _ (V_code hk hn)
  · rw [code_nan k hn]
    exact iff_of_false (cov_zero _ a.1.2) (cov_zero _ hR)
end Fl
/-- Is a key the same as another one? -/
def keyEq (x k : Nat) : Bool := !Fl.nan x && !Fl.nan k && decide (Fl.code k = Fl.code x)
theorem anyG_iff {g : Nat → Bool} {n : Nat} : Fl.anyG g n = true ↔ ∃ i, i < n ∧ g i = true := by
  constructor
  · intro h
    by_cases q : ∃ i, i < n ∧ g i = true
    · exact q
    · have : Fl.anyG g n = false := anyG_none fun i hi => by
        cases e : g i
        · rfl
        · exact absurd ⟨i, hi, e⟩ q
      rw [this] at h; cases h
  · rintro ⟨i, hi, h⟩
    exact Fl.anyG_true g n i hi h
theorem nan_canon' (x : Nat) (hx : Fl.W x) : Fl.nan (Fl.canon x) = Fl.nan x := Fl.nan_canon x
/-- The same keys are among the sorted ones. -/
theorem among_sort (x : Nat → Nat) (n k : Nat) (hx : ∀ i, i < n → Fl.W (x i)) : Fl.anyG (fun i => keyEq (atN (Fl.sortL x n) i) k) (Fl.sortL x n).length = Fl.anyG (fun i => keyEq (x i) k) n := by
  have a := Fl.sortL_all x n hx n (Nat.le_refl _)
  rw [Bool.eq_iff_iff, anyG_iff, anyG_iff]
  constructor
  · rintro ⟨i, hi, h⟩
    rw [atN_get _ i hi] at h
    obtain ⟨j, hj, e⟩ := (a.2.2 _).1 (List.getElem_mem hi)
    refine ⟨j, hj, ?_⟩
    rw [e] at h
    unfold keyEq at h ⊢
    rw [nan_canon' _ (hx j hj), Fl.code_canon] at h
    exact h
  · rintro ⟨j, hj, h⟩
    have hm := (a.2.2 (Fl.canon (x j))).2 ⟨j, hj, rfl⟩
    obtain ⟨i, hi, e⟩ := List.getElem_of_mem hm
    refine ⟨i, hi, ?_⟩
    rw [atN_get _ i hi, e]
    unfold keyEq at h ⊢
    rw [nan_canon' _ (hx j hj), Fl.code_canon]
    exact h
attribute [local go_sem] run_bits run_frombits run_store_float eqF
set_option maxHeartbeats 1000000 in
set_option maxRecDepth 20000 in
theorem index_am (v : Value) (n : Nat) (f : Nat → Nat) (g : Nat → Bool) (kb : Nat) (w : World) (hv : FRow w v n f) (hf : ∀ i, i < n → ∀ W, Old w W → Calls Tryz.prog 89 #[.float .f64 (f i), .pointer (some ⟨kb, 0, none⟩)] W fun e w' => e = .returned (.bool (g i)) ∧ Old W w') :
    Calls Tryz.prog 102 #[v, .func (.func 89) #[] #[.pointer (some ⟨kb, 0, none⟩)]] w fun e w' => ∃ r : Int, e = .returned (.int .i64 r) ∧ decide (0 ≤ r) = Fl.anyG g n ∧ Old w w' := by
  obtain ⟨hm, a, c, rfl, hc⟩ := hv
  have HC := hid hc
  have HF := hid hf
  have hmm := hm
  clear hc hf hm
  go_enter Tryz.func102, Tryz.ntmps102
  go_wp2
  go_loopw [8] (fun i wr => ∃ k : Nat, k ≤ n ∧ i = .int .i64 (k : Nat) ∧ Fl.anyG g k = false ∧ Old w wr) (fun i _ => n - (intOf i).toNat)
  case atStart => exact ⟨0, Nat.zero_le _, rfl, rfl, Old.refl _⟩
  case round =>
    obtain ⟨k, hk, rfl, h0, hu⟩ := hrel
    by_cases hlt : k < n
    · obtain ⟨b, off, ha, hW, c0⟩ := HC.out k hlt
      subst ha
      have x0 := hu.keep c0
      have HK := hid (HF.out k hlt)
      have l1 : (0 : Int) ≤ (k : Int) := by omega
      have l2 : (k : Int) < (n : Int) := by omega
      have H0 := hid h0
      clear c0 h0 HF HC
      generalize f k = X at *
      cases hg : g k
      · rw [hg] at HK
        have HS := hid (Fl.anyG_step g k H0.out hg)
        clear hg
        go_wp2_with (go_at_call 89; refine (HK.out _ hu).mono ?_; rintro o w5 ⟨rfl, u5⟩)
        go_roundw
        case rel => exact ⟨k + 1, hlt, by go_num, HS.out, Old.trans hu u5⟩
        case measure => simp [intOf]; omega
      · have HT := hid (Fl.anyG_true g n k hlt hg)
        rw [hg] at HK
        clear hg
        go_wp2_with (go_at_call 89; refine (HK.out _ hu).mono ?_; rintro o w5 ⟨rfl, u5⟩)
        go_ret
        exact ⟨_, rfl, by rw [HT.out]; simp, Old.trans hu u5⟩
    · obtain rfl : k = n := by omega
      have H0 := hid h0
      clear h0
      go_wp2
      go_ret
      exact ⟨_, rfl, by rw [H0.out]; rfl, hu⟩
set_option maxHeartbeats 400000 in
set_option maxRecDepth 20000 in
theorem contains_am (v : Value) (n : Nat) (f : Nat → Nat) (g : Nat → Bool) (kb : Nat) (w : World) (hv : FRow w v n f) (hf : ∀ i, i < n → ∀ W, Old w W → Calls Tryz.prog 89 #[.float .f64 (f i), .pointer (some ⟨kb, 0, none⟩)] W fun e w' => e = .returned (.bool (g i)) ∧ Old W w') :
    Calls Tryz.prog 77 #[v, .func (.func 89) #[] #[.pointer (some ⟨kb, 0, none⟩)]] w fun e w' => e = .returned (.bool (Fl.anyG g n)) ∧ Old w w' := by
  have HI := hid (index_am v n f g kb w hv hf)
  clear hv hf
  go_enter Tryz.func77, Tryz.ntmps77
  go_wp2_with (go_at_call 102; refine HI.out.mono ?_; rintro o w5 ⟨r, rfl, hr, u5⟩; have HR := hid hr; clear hr)
  go_ret
  exact ⟨ret_b (by rw [← HR.out]), u5⟩
set_option maxHeartbeats 400000 in
set_option maxRecDepth 20000 in
theorem am1_any (x k kb : Nat) (hx : Fl.W x) (hk : Fl.W k) (w : World) (h : w.cell? ⟨kb, 0, none⟩ = some (.float .f64 k)) : Calls Tryz.prog 89 #[.float .f64 x, .pointer (some ⟨kb, 0, none⟩)] w fun e w' => e = .returned (.bool (keyEq x k)) ∧ Old w w' := by
  have HE := hid (ordE x k hx hk)
  go_enter Tryz.func89, Tryz.ntmps89
  go_wp2
  go_ret
  exact ⟨ret_b (by rw [HE.out]; rfl), Old.refl _⟩
set_option maxHeartbeats 1000000 in
set_option maxRecDepth 20000 in
theorem among_any (v : Value) (n : Nat) (x : Nat → Nat) (k : Nat) (hk : Fl.W k) (w : World) (hv : FRow w v n x) : Calls Tryz.prog 55 #[v, .float .f64 k] w fun e w' => e = .returned (.bool (Fl.anyG (fun i => keyEq (x i) k) n)) ∧ Old w w' := by
  have hmf : ∀ (fn : Fn) (first cap : Array Value) (w : World), (Instr.makeFunc fn first cap).run Tryz.prog w = .ok (.func fn first cap) w := fun _ _ _ _ => rfl
  have hV := (Old.refl w).alloc (.cells #[.float .f64 k] 43)
  have hc : (w.alloc (.cells #[.float .f64 k] 43)).cell? ⟨w.heap.size, 0, none⟩ = some (.float .f64 k) := by simp
  have HC := hid (contains_am v n x (fun i => keyEq (x i) k) w.heap.size _ (hv.old hV) (fun i hi W u => am1_any (x i) k w.heap.size ((hv.old hV).ws i hi) hk W (u.keep hc)))
  have HV := hid hV
  clear hv hc hV
  go_enter Tryz.func55, Tryz.ntmps55
  go_wp2_with (first | (go_at_call 77; refine HC.out.mono ?_; rintro e w2 ⟨rfl, u2⟩; have U2 := hid (HV.out.trans u2); clear u2))
  go_ret
  exact ⟨rfl, U2.out⟩
def readB (s : Sb) (k : Nat) : Bool := Fl.anyG (fun i => keyEq (s.x1 i) k) s.n1 || Fl.anyG (fun i => Fl.hasS (s.f2 i) k) s.n2
def writeB (s : Sb) (k : Nat) : Bool := Fl.anyG (fun i => keyEq (s.x3 i) k) s.n3
set_option maxHeartbeats 1000000 in
set_option maxRecDepth 20000 in
theorem reads_any (s : Sb) (k : Nat) (hk : Fl.W k) (w : World) (hs : s.Ok w) : Calls Tryz.prog 21 #[.agg #[.int .i64 s.s1, .int .i64 s.s2, .int .i64 s.s3, .slice s.a1 s.n1 s.c1, .slice s.a2 s.n2 s.c2, .slice s.a3 s.n3 s.c3], .float .f64 k] w fun e w' => e = .returned (.bool (readB s k)) ∧ Old w w' := by
  have HA := hid (fun (W : World) (u : Old w W) => among_any _ _ _ k hk W (hs.h1.old u))
  have HC := hid (fun (W : World) (u : Old w W) => covers_any _ _ _ k hk W (hs.h2.old u))
  unfold readB
  generalize Fl.anyG (fun i => keyEq (s.x1 i) k) s.n1 = o1 at *
  generalize Fl.anyG (fun i => Fl.hasS (s.f2 i) k) s.n2 = o2 at *
  clear hs
  go_enter Tryz.func21, Tryz.ntmps21
  go_upto_region 1 with fail
  generalize hw1 : w.alloc (.cells #[.int .i64 s.s1, .int .i64 s.s2, .int .i64 s.s3, .slice s.a1 s.n1 s.c1, .slice s.a2 s.n2 s.c2, .slice s.a3 s.n3 s.c3] 25) = w1 at *
  generalize hsb : w.heap.size = sb at *
  have HW := hid (sub_new w s.s1 s.s2 s.s3 _ _ _ w1 hw1 sb hsb)
  clear hw1 hsb
  obtain ⟨⟨t0, t1, t2, t3, t4, t5⟩, _⟩ := HW.out
  cases o1
  · go_wp2_with (first | (go_at_call 55; refine (HA.out _ HW.out.2).mono ?_; rintro e w2 ⟨rfl, u2⟩; have U2 := hid (HW.out.2.trans u2); obtain ⟨_, _, _, _, t4', _⟩ := SubAt.old u2 HW.out.1; clear u2) | (go_at_call 56; refine (HC.out _ U2.out).mono ?_; rintro e w3 ⟨rfl, u3⟩; have U3 := hid (U2.out.trans u3); clear u3))
    go_ret
    exact ⟨ret_b (by simp), U3.out⟩
  · go_wp2_with (first | (go_at_call 55; refine (HA.out _ HW.out.2).mono ?_; rintro e w2 ⟨rfl, u2⟩; have U2 := hid (HW.out.2.trans u2); clear u2))
    go_ret
    exact ⟨ret_b (by simp), U2.out⟩
set_option maxHeartbeats 1000000 in
set_option maxRecDepth 20000 in
theorem writes_any (s : Sb) (k : Nat) (hk : Fl.W k) (w : World) (hs : s.Ok w) : Calls Tryz.prog 22 #[.agg #[.int .i64 s.s1, .int .i64 s.s2, .int .i64 s.s3, .slice s.a1 s.n1 s.c1, .slice s.a2 s.n2 s.c2, .slice s.a3 s.n3 s.c3], .float .f64 k] w fun e w' => e = .returned (.bool (writeB s k)) ∧ Old w w' := by
  have HA := hid (fun (W : World) (u : Old w W) => among_any _ _ _ k hk W (hs.h3.old u))
  unfold writeB
  generalize Fl.anyG (fun i => keyEq (s.x3 i) k) s.n3 = o1 at *
  clear hs
  go_enter Tryz.func22, Tryz.ntmps22
  go_upto_region 1 with fail
  generalize hw1 : w.alloc (.cells #[.int .i64 s.s1, .int .i64 s.s2, .int .i64 s.s3, .slice s.a1 s.n1 s.c1, .slice s.a2 s.n2 s.c2, .slice s.a3 s.n3 s.c3] 25) = w1 at *
  generalize hsb : w.heap.size = sb at *
  have HW := hid (sub_new w s.s1 s.s2 s.s3 _ _ _ w1 hw1 sb hsb)
  clear hw1 hsb
  obtain ⟨⟨t0, t1, t2, t3, t4, t5⟩, _⟩ := HW.out
  go_wp2_with (first | (go_at_call 55; refine (HA.out _ HW.out.2).mono ?_; rintro e w2 ⟨rfl, u2⟩; have U2 := hid (HW.out.2.trans u2); clear u2))
  go_ret
  exact ⟨rfl, U2.out⟩
end Go.Proofs.YtodnegflaoedbaaGreat
namespace Go.Proofs.YtodnegflaoedbaaGreat
open Go.RowKit Go.Lib
set_option linter.unusedVariables false
set_option linter.unusedSimpArgs false
set_option maxRecDepth 20000
/-- What Canon makes, as it lies. -/
def mkC (s : Sb) (p1 p2 p3 : Option Addr) (q1 q2 q3 : Nat) : Sb := ⟨s.s1, s.s2, s.s3, p1, p2, p3, (Fl.sortL s.x1 s.n1).length, ((Fl.dfold (Fl.cdl s.f2 s.n2)).map Fl.spo).length, (Fl.sortL s.x3 s.n3).length, q1, q2, q3, atN (Fl.sortL s.x1 s.n1), atN (Fl.sortL s.x3 s.n3), atS ((Fl.dfold (Fl.cdl s.f2 s.n2)).map Fl.spo)⟩
def canK (s : Sb) : Int := canC (misB s.s1 s.s2 s.s3) (crowdB (Fl.sortL s.x1 s.n1).length ((Fl.dfold (Fl.cdl s.f2 s.n2)).map Fl.spo).length (Fl.sortL s.x3 s.n3).length) (Fl.anyG (fun i => Fl.nan (atN (Fl.sortL s.x1 s.n1) i)) (Fl.sortL s.x1 s.n1).length || Fl.anyG (fun i => Fl.nan (atN (Fl.sortL s.x3 s.n3) i)) (Fl.sortL s.x3 s.n3).length) (Fl.anyG (fun i => Fl.nan (s.f2 i).a || Fl.nan (s.f2 i).b) s.n2)
def Sb.Ws (s : Sb) : Prop := (∀ i, i < s.n1 → Fl.W (s.x1 i)) ∧ (∀ i, i < s.n2 → Fl.W (s.f2 i).a ∧ Fl.W (s.f2 i).b) ∧ ∀ i, i < s.n3 → Fl.W (s.x3 i)
theorem mk_again (s : Sb) (h : s.Ws) (p1 p2 p3 r1 r2 r3 : Option Addr) (q1 q2 q3 t1 t2 t3 : Nat) : mkC (mkC s p1 p2 p3 q1 q2 q3) r1 r2 r3 t1 t2 t3 = mkC s r1 r2 r3 t1 t2 t3 := by
  have hD := (Fl.dfold_ok _ (Fl.cdl s.f2 s.n2) rfl (Fl.cdl_RV s.f2 s.n2 h.2.1)).1
  have e1 := sortL_again s.x1 s.n1 h.1
  have e3 := sortL_again s.x3 s.n3 h.2.2
  have e2 := cdl_again hD
  unfold mkC
  simp only [e1, e2, e3]
theorem mk_chk (s : Sb) (h : s.Ws) (hc : canK s = 0) (p1 p2 p3 : Option Addr) (q1 q2 q3 : Nat) : (mkC s p1 p2 p3 q1 q2 q3).chk = 0 := by
  have q := canC_parts hc
  exact canon_right s.s1 s.s2 s.s3 s.n1 s.n2 s.n3 s.x1 s.x3 s.f2 h.1 h.2.1 h.2.2 q.1 q.2.1 q.2.2.1
theorem right_K (s : Sb) (h : s.chk = 0) : canK s = 0 := right_canon s.s1 s.s2 s.s3 s.n1 s.n2 s.n3 s.x1 s.x3 s.f2 h
theorem mk_K (s : Sb) (h : s.Ws) (hc : canK s = 0) (p1 p2 p3 : Option Addr) (q1 q2 q3 : Nat) : canK (mkC s p1 p2 p3 q1 q2 q3) = 0 := right_K _ (mk_chk s h hc p1 p2 p3 q1 q2 q3)
theorem mk_same (s : Sb) (h : s.Ws) (hc : canK s = 0) (p1 p2 p3 r1 r2 r3 : Option Addr) (q1 q2 q3 t1 t2 t3 : Nat) : sameB (mkC s p1 p2 p3 q1 q2 q3) (mkC s r1 r2 r3 t1 t2 t3) = true := by
  have e : (mkC s p1 p2 p3 q1 q2 q3).enc = (mkC s r1 r2 r3 t1 t2 t3).enc := rfl
  unfold sameB
  rw [decide_eq_true (mk_chk s h hc _ _ _ _ _ _), decide_eq_true (mk_chk s h hc _ _ _ _ _ _), decide_eq_true e]
  rfl
theorem self_same (s : Sb) (h : s.Ws) (hc : s.chk = 0) (p1 p2 p3 : Option Addr) (q1 q2 q3 : Nat) : sameB s (mkC s p1 p2 p3 q1 q2 q3) = true := by
  have p := chk_parts hc
  have o1 := ordF_len p.2.2.2.2.1
  have o2 := ordS_len p.2.2.2.2.2.1
  have o3 := ordF_len p.2.2.2.2.2.2
  have g1 : rl s.x1 s.n1 = rl (mkC s p1 p2 p3 q1 q2 q3).x1 (mkC s p1 p2 p3 q1 q2 q3).n1 := by
    show _ = rl (atN (Fl.sortL s.x1 s.n1)) (Fl.sortL s.x1 s.n1).length
    rw [← o1.1]
    exact List.map_congr_left fun i hi => o1.2 i (by simpa using hi)
  have g3 : rl s.x3 s.n3 = rl (mkC s p1 p2 p3 q1 q2 q3).x3 (mkC s p1 p2 p3 q1 q2 q3).n3 := by
    show _ = rl (atN (Fl.sortL s.x3 s.n3)) (Fl.sortL s.x3 s.n3).length
    rw [← o3.1]
    exact List.map_congr_left fun i hi => o3.2 i (by simpa using hi)
  have g2 : rl s.f2 s.n2 = rl (mkC s p1 p2 p3 q1 q2 q3).f2 (mkC s p1 p2 p3 q1 q2 q3).n2 := by
    show _ = rl (atS ((Fl.dfold (Fl.cdl s.f2 s.n2)).map Fl.spo)) ((Fl.dfold (Fl.cdl s.f2 s.n2)).map Fl.spo).length
    rw [← o2.1]
    exact List.map_congr_left fun i hi => o2.2 i (by simpa using hi)
  have e : s.enc = (mkC s p1 p2 p3 q1 q2 q3).enc := by
    unfold Sb.enc
    rw [encS_bytes, encS_bytes]
    unfold bytesS kRest sRest
    rw [g1, g2, g3]
    show _ = Pk.numL s.s1 ++ (Pk.numL s.s2 ++ (Pk.numL s.s3 ++ (Pk.numL ((Fl.sortL s.x1 s.n1).length : Nat) ++ _)))
    rw [← o1.1]
    show _ = Pk.numL s.s1 ++ (Pk.numL s.s2 ++ (Pk.numL s.s3 ++ (Pk.numL s.n1 ++ (_ ++ (Pk.numL (((Fl.dfold (Fl.cdl s.f2 s.n2)).map Fl.spo).length : Nat) ++ (_ ++ (Pk.numL ((Fl.sortL s.x3 s.n3).length : Nat) ++ _)))))))
    rw [← o2.1, ← o3.1]
  unfold sameB
  rw [decide_eq_true hc, decide_eq_true (mk_chk s h (right_K s hc) _ _ _ _ _ _), decide_eq_true e]
  rfl
theorem mk_reads (s : Sb) (h : s.Ws) (k : Nat) (hk : Fl.W k) (p1 p2 p3 : Option Addr) (q1 q2 q3 : Nat) : readB (mkC s p1 p2 p3 q1 q2 q3) k = readB s k := by
  have e1 := among_sort s.x1 s.n1 k h.1
  have e2 := Fl.anyG_norm s.f2 s.n2 k hk (Fl.cdl_RV s.f2 s.n2 h.2.1)
  unfold readB
  show (Fl.anyG (fun i => keyEq (atN (Fl.sortL s.x1 s.n1) i) k) (Fl.sortL s.x1 s.n1).length || Fl.anyG (fun i => Fl.hasS (atS ((Fl.dfold (Fl.cdl s.f2 s.n2)).map Fl.spo) i) k) ((Fl.dfold (Fl.cdl s.f2 s.n2)).map Fl.spo).length) = _
  rw [List.length_map, e1, e2]
theorem mk_writes (s : Sb) (h : s.Ws) (k : Nat) (p1 p2 p3 : Option Addr) (q1 q2 q3 : Nat) : writeB (mkC s p1 p2 p3 q1 q2 q3) k = writeB s k := among_sort s.x3 s.n3 k h.2.2
/-- Canon, a submission told as one letter. -/
theorem canonS_ok (s : Sb) (w : World) (hs : s.Ok w) (hc : canK s = 0) : Calls Tryz.prog 20 #[.agg #[.int .i64 s.s1, .int .i64 s.s2, .int .i64 s.s3, .slice s.a1 s.n1 s.c1, .slice s.a2 s.n2 s.c2, .slice s.a3 s.n3 s.c3]] w fun e w' => ∃ (p1 p2 p3 : Option Addr) (q1 q2 q3 : Nat), e = .returned (.tuple #[.agg #[.int .i64 s.s1, .int .i64 s.s2, .int .i64 s.s3, .slice p1 (mkC s p1 p2 p3 q1 q2 q3).n1 q1, .slice p2 (mkC s p1 p2 p3 q1 q2 q3).n2 q2, .slice p3 (mkC s p1 p2 p3 q1 q2 q3).n3 q3], .int .i64 0]) ∧ (mkC s p1 p2 p3 q1 q2 q3).Ok w' ∧ Old w w' := by
  have hl1 := Fl.sortL_len s.x1 s.n1
  have hl3 := Fl.sortL_len s.x3 s.n3
  have hk := Fl.dfold_ok _ (Fl.cdl s.f2 s.n2) rfl (Fl.cdl_RV s.f2 s.n2 hs.h2.ws)
  have hl2 : ((Fl.dfold (Fl.cdl s.f2 s.n2)).map Fl.spo).length ≤ s.n2 := by rw [List.length_map]; have := hk.2.2; have := Fl.cdl_len s.f2 s.n2; omega
  have b1 := hs.b1
  have b2 := hs.b2
  have b3 := hs.b3
  refine (subCanon_any s.s1 s.s2 s.s3 s.a1 s.a2 s.a3 s.n1 s.n2 s.n3 s.c1 s.c2 s.c3 s.x1 s.x3 s.f2 b1 b2 b3 w hs.h1 hs.h2 hs.h3).mono ?_
  intro e w' h
  unfold CanPost at h
  obtain ⟨p1, p2, p3, q1, q2, q3, he, ⟨o1, o2, o3⟩, u⟩ := h
  unfold canK at hc
  rw [if_pos hc] at he
  refine ⟨p1, p2, p3, q1, q2, q3, he, ⟨o1.row (sortL_W _ _ hs.h1.ws) (by omega), o2.row (fun t ht => by obtain ⟨r, hr, rfl⟩ := List.mem_map.1 ht; exact Fl.spo_W (hk.1.2 r hr)) (by omega), o3.row (sortL_W _ _ hs.h3.ws) (by omega), ?_, ?_, ?_⟩, u⟩
  · show (Fl.sortL s.x1 s.n1).length ≤ _; omega
  · show ((Fl.dfold (Fl.cdl s.f2 s.n2)).map Fl.spo).length ≤ _; omega
  · show (Fl.sortL s.x3 s.n3).length ≤ _; omega
theorem canonS_no (s : Sb) (w : World) (hs : s.Ok w) (hc : canK s ≠ 0) : Calls Tryz.prog 20 #[.agg #[.int .i64 s.s1, .int .i64 s.s2, .int .i64 s.s3, .slice s.a1 s.n1 s.c1, .slice s.a2 s.n2 s.c2, .slice s.a3 s.n3 s.c3]] w fun e w' => e = .returned (.tuple #[.agg #[.int .i64 0, .int .i64 0, .int .i64 0, .slice none 0 0, .slice none 0 0, .slice none 0 0], .int .i64 (canK s)]) ∧ Old w w' := by
  refine (subCanon_any s.s1 s.s2 s.s3 s.a1 s.a2 s.a3 s.n1 s.n2 s.n3 s.c1 s.c2 s.c3 s.x1 s.x3 s.f2 hs.b1 hs.b2 hs.b3 w hs.h1 hs.h2 hs.h3).mono ?_
  intro e w' h
  unfold CanPost at h
  obtain ⟨p1, p2, p3, q1, q2, q3, he, _, u⟩ := h
  unfold canK at hc ⊢
  rw [if_neg hc] at he
  exact ⟨he, u⟩
end Go.Proofs.YtodnegflaoedbaaGreat
namespace Go.Proofs.YtodnegflaoedbaaGreat
open Go.RowKit Go.Lib
set_option linter.unusedVariables false
set_option linter.unusedSimpArgs false
set_option maxRecDepth 20000
/-- c is what Canon makes of s. -/
def IsC (s c : Sb) : Prop := c = mkC s c.a1 c.a2 c.a3 c.c1 c.c2 c.c3
theorem canonS_c (s : Sb) (w : World) (hs : s.Ok w) (hc : canK s = 0) : Calls Tryz.prog 20 #[.agg #[.int .i64 s.s1, .int .i64 s.s2, .int .i64 s.s3, .slice s.a1 s.n1 s.c1, .slice s.a2 s.n2 s.c2, .slice s.a3 s.n3 s.c3]] w fun e w' => ∃ c : Sb, e = .returned (.tuple #[.agg #[.int .i64 c.s1, .int .i64 c.s2, .int .i64 c.s3, .slice c.a1 c.n1 c.c1, .slice c.a2 c.n2 c.c2, .slice c.a3 c.n3 c.c3], .int .i64 0]) ∧ IsC s c ∧ c.Ok w' ∧ Old w w' :=
  (canonS_ok s w hs hc).mono fun e w' ⟨p1, p2, p3, q1, q2, q3, he, ho, u⟩ => ⟨mkC s p1 p2 p3 q1 q2 q3, he, rfl, ho, u⟩
theorem IsC.chk {s c : Sb} (h : IsC s c) (hw : s.Ws) (hc : canK s = 0) : c.chk = 0 := by
  unfold IsC at h; rw [h]; exact mk_chk s hw hc _ _ _ _ _ _
theorem IsC.kk {s c : Sb} (h : IsC s c) (hw : s.Ws) (hc : canK s = 0) : canK c = 0 := right_K c (h.chk hw hc)
theorem IsC.again {s c d : Sb} (h : IsC s c) (hw : s.Ws) (h2 : IsC c d) : IsC s d := by
  unfold IsC at h h2 ⊢
  exact h2.trans (by rw [h, mk_again s hw])
theorem IsC.same {s c d : Sb} (h : IsC s c) (h2 : IsC s d) (hw : s.Ws) (hc : canK s = 0) : sameB c d = true := by
  unfold IsC at h h2; rw [h, h2]; exact mk_same s hw hc _ _ _ _ _ _ _ _ _ _ _ _
theorem IsC.self {s c : Sb} (h : IsC s c) (hw : s.Ws) (hc : s.chk = 0) : sameB s c = true := by
  unfold IsC at h; rw [h]; exact self_same s hw hc _ _ _ _ _ _
theorem IsC.reads {s c : Sb} (h : IsC s c) (hw : s.Ws) (k : Nat) (hk : Fl.W k) : readB c k = readB s k := by
  unfold IsC at h; rw [h]; exact mk_reads s hw k hk _ _ _ _ _ _
theorem IsC.writes {s c : Sb} (h : IsC s c) (hw : s.Ws) (k : Nat) : writeB c k = writeB s k := by
  unfold IsC at h; rw [h]; exact mk_writes s hw k _ _ _ _ _ _
abbrev P2b (m n : Nat) (s c : Sb) (w : World) : Prop := SubAt m s.s1 s.s2 s.s3 (.slice s.a1 s.n1 s.c1) (.slice s.a2 s.n2 s.c2) (.slice s.a3 s.n3 s.c3) w ∧ SubAt n c.s1 c.s2 c.s3 (.slice c.a1 c.n1 c.c1) (.slice c.a2 c.n2 c.c2) (.slice c.a3 c.n3 c.c3) w
theorem P2b.old {m n : Nat} {s c : Sb} {w w' : World} (u : Old w w') (h : P2b m n s c w) : P2b m n s c w' := ⟨SubAt.old u h.1, SubAt.old u h.2⟩
theorem chkS (s : Sb) (w : World) (hs : s.Ok w) : Calls Tryz.prog 17 #[.agg #[.int .i64 s.s1, .int .i64 s.s2, .int .i64 s.s3, .slice s.a1 s.n1 s.c1, .slice s.a2 s.n2 s.c2, .slice s.a3 s.n3 s.c3]] w fun e w' => e = .returned (.int .i64 s.chk) ∧ Old w w' := check_any _ _ _ _ _ _ _ _ _ _ _ _ _ _ _ hs.b1 hs.b2 hs.b3 w hs.h1 hs.h2 hs.h3
end Go.Proofs.YtodnegflaoedbaaGreat
namespace Go.Proofs.YtodnegflaoedbaaGreat
open Go.RowKit Go.Lib
set_option linter.unusedVariables false
set_option maxRecDepth 20000
/-- Two rows with the same members. -/
def Sets {α : Type} (x : Nat → α) (n : Nat) (y : Nat → α) (m : Nat) : Prop := (∀ i, i < n → ∃ j, j < m ∧ y j = x i) ∧ ∀ j, j < m → ∃ i, i < n ∧ x i = y j
theorem sortL_sets {x y : Nat → Nat} {n m : Nat} (hx : ∀ i, i < n → Fl.W (x i)) (h : Sets x n y m) : Fl.sortL y m = Fl.sortL x n := by
  have hy : ∀ j, j < m → Fl.W (y j) := fun j hj => by obtain ⟨i, hi, e⟩ := h.2 j hj; rw [← e]; exact hx i hi
  have a := Fl.sortL_all x n hx n (Nat.le_refl _)
  have b := Fl.sortL_all y m hy m (Nat.le_refl _)
  refine Fl.asc_eq _ _ b.1 a.1 fun z => ?_
  rw [b.2.2 z, a.2.2 z]
  constructor
  · rintro ⟨j, hj, rfl⟩
    obtain ⟨i, hi, e⟩ := h.2 j hj
    exact ⟨i, hi, by rw [e]⟩
  · rintro ⟨i, hi, rfl⟩
    obtain ⟨j, hj, e⟩ := h.1 i hi
    exact ⟨j, hj, by rw [e]⟩
theorem anyG_sets {α : Type} {x y : Nat → α} {n m : Nat} (p : α → Bool) (h : Sets x n y m) : Fl.anyG (fun i => p (y i)) m = Fl.anyG (fun i => p (x i)) n := by
  rw [Bool.eq_iff_iff, anyG_iff, anyG_iff]
  constructor
  · rintro ⟨j, hj, q⟩
    obtain ⟨i, hi, e⟩ := h.2 j hj
    exact ⟨i, hi, by rw [e]; exact q⟩
  · rintro ⟨i, hi, q⟩
    obtain ⟨j, hj, e⟩ := h.1 i hi
    exact ⟨j, hj, by rw [e]; exact q⟩
theorem dfold_sets {f g : Nat → Sp} {n m : Nat} (hf : ∀ i, i < n → Fl.W (f i).a ∧ Fl.W (f i).b) (h : Sets f n g m) : Fl.dfold (Fl.cdl g m) = Fl.dfold (Fl.cdl f n) := by
  have hg : ∀ j, j < m → Fl.W (g j).a ∧ Fl.W (g j).b := fun j hj => by obtain ⟨i, hi, e⟩ := h.2 j hj; rw [← e]; exact hf i hi
  have a := Fl.dfold_ok _ (Fl.cdl f n) rfl (Fl.cdl_RV f n hf)
  have b := Fl.dfold_ok _ (Fl.cdl g m) rfl (Fl.cdl_RV g m hg)
  refine Fl.nl_unique _ _ b.1 a.1 fun c hc => ?_
  rw [a.2.1 c hc, b.2.1 c hc]
  unfold Fl.Cov
  constructor
  · rintro ⟨r, hr, k⟩
    obtain ⟨j, hj, q⟩ := (Fl.cdl_mem g m r).1 hr
    obtain ⟨i, hi, e⟩ := h.2 j hj
    exact ⟨r, (Fl.cdl_mem f n r).2 ⟨i, hi, by rw [e]; exact q⟩, k⟩
  · rintro ⟨r, hr, k⟩
    obtain ⟨i, hi, q⟩ := (Fl.cdl_mem f n r).1 hr
    obtain ⟨j, hj, e⟩ := h.1 i hi
    exact ⟨r, (Fl.cdl_mem g m r).2 ⟨j, hj, by rw [e]; exact q⟩, k⟩
/-- t has s' numbers, keys and spans, in whatever order and number. -/
structure Turn (s t : Sb) : Prop where
  e1 : t.s1 = s.s1
  e2 : t.s2 = s.s2
  e3 : t.s3 = s.s3
  r1 : Sets s.x1 s.n1 t.x1 t.n1
  r2 : Sets s.f2 s.n2 t.f2 t.n2
  r3 : Sets s.x3 s.n3 t.x3 t.n3
theorem Turn.kk {s t : Sb} (h : Turn s t) (hw : s.Ws) : canK t = canK s := by
  unfold canK
  rw [h.e1, h.e2, h.e3, sortL_sets hw.1 h.r1, sortL_sets hw.2.2 h.r3, dfold_sets hw.2.1 h.r2, anyG_sets (fun s : Sp => Fl.nan s.a || Fl.nan s.b) h.r2]
theorem Turn.mk' {s t : Sb} (h : Turn s t) (hw : s.Ws) (p1 p2 p3 : Option Addr) (q1 q2 q3 : Nat) : mkC t p1 p2 p3 q1 q2 q3 = mkC s p1 p2 p3 q1 q2 q3 := by
  unfold mkC
  rw [h.e1, h.e2, h.e3, sortL_sets hw.1 h.r1, sortL_sets hw.2.2 h.r3, dfold_sets hw.2.1 h.r2]
theorem Turn.isC {s t b : Sb} (h : Turn s t) (hw : s.Ws) (hb : IsC t b) : IsC s b := by
  unfold IsC at hb ⊢
  rw [h.mk' hw] at hb
  exact hb
/-- The other way round, and doubled: the row as it grows. -/
def turn {α : Type} (x : Nat → α) (n : Nat) : Nat → α := fun m => x (n - 1 - m / 2)
theorem turn_sets {α : Type} (x : Nat → α) (n : Nat) : Sets x n (turn x n) (2 * n) := by
  refine ⟨fun i hi => ⟨2 * (n - 1 - i), by omega, ?_⟩, fun j hj => ⟨n - 1 - j / 2, by omega, rfl⟩⟩
  show x (n - 1 - 2 * (n - 1 - i) / 2) = x i
  congr 1
  omega
theorem turn_two {α : Type} (x : Nat → α) (n k : Nat) : turn x n (2 * k) = x (n - 1 - k) ∧ turn x n (2 * k + 1) = x (n - 1 - k) := by
  constructor
  · show x (n - 1 - 2 * k / 2) = _
    congr 1; omega
  · show x (n - 1 - (2 * k + 1) / 2) = _
    congr 1; omega
end Go.Proofs.YtodnegflaoedbaaGreat
namespace Go.Proofs.YtodnegflaoedbaaGreat
open Go.RowKit Go.Lib
set_option linter.unusedVariables false
set_option linter.unusedSimpArgs false
set_option maxRecDepth 20000
/-- A step out of a row of one operation. -/
theorem step_lift {ops : Array Oper} {o : Oper} {a : Act} {w : World} {K : Act → World → Prop} {Q : Exit → Act → World → Prop} {E : Prop} (hgd : o.guard = none)
    (h2 : wpList Tryz.prog ops (fun e a' w' => e = .normal ∧ K a' w') [o] a w) : if Region.wanted o (yielded ops a.tmps) = true then Oper.wp Tryz.prog o a w K Q else E := by
  have hw : Region.wanted o (yielded ops a.tmps) = true := by simp [Region.wanted, hgd]
  rw [if_pos hw]
  unfold wpList at h2
  rw [if_pos hw] at h2
  rcases h2 with h2 | ⟨_, a', w', h3, _⟩
  · unfold Oper.wp at *
    generalize (execOp a.eval o).run Tryz.prog w = r at *
    cases r with
    | ok nx w' =>
      cases nx <;> simp only [Oper.upon] at h2 ⊢ <;>
        first
          | exact h2.2
          | exact h2
          | exact Calls.mono h2 (fun e w'' he => by
              cases e with
              | returned r => exact he.2
              | panicked c => exact absurd he.1 (by simp)
              | outgrown => obtain ⟨a', w', h3, _⟩ := he; exact absurd h3 (by simp))
          | exact Rows.mono h2 (fun _ _ he => he.2)
    | halt x w' => cases x <;> simp only [Oper.upon] at h2 ⊢ <;> first | exact h2 | exact absurd h2.1 (by simp)
  · exact absurd h3 (by simp)
theorem step_appF2 {ops : Array Oper} {o : Oper} {a : Act} {w : World} {K : Act → World → Prop} {Q : Exit → Act → World → Prop} {E : Prop} (hgd : o.guard = none) (s x : Operand)
    (ho : o.op = .call { callee := .builtin .append, args := #[s, x], argTypes := #[22, 22] }) (base : Nat) (v : Value) (L : List Nat) (g y z : Nat)
    (hs : a.eval s = v) (hx : a.eval x = .slice (some ⟨g, 0, none⟩) 2 2) (hown : OwnF base w v L) (hc : w.cell? ⟨g, 0, none⟩ = some (.float .f64 y) ∧ w.cell? ⟨g, 1, none⟩ = some (.float .f64 z)) (hb : L.length + 2 ≤ 17592186044416) (hbase : base ≤ w.heap.size)
    (h : ∀ v' w', OwnF base w' v' (L ++ [y, z]) → w.grownBy w' v.ownBlock → K (a.put o.dst v') w') :
    if Region.wanted o (yielded ops a.tmps) = true then Oper.wp Tryz.prog o a w K Q else E := by
  refine step_lift hgd ?_
  obtain ⟨i0, hi, hz0, hz1, hz2⟩ := info_parts infoFloat
  refine wpList_append_own w hgd s x 22 ho base 43 i0 _ 1 8 Tryz.underlying22 hi hz0 hz1 hz2 rfl (by decide) v L.length (fls L) hs hown ⟨g, 0, none⟩ 2 2 (fls [y, z]) hx rfl ?_ ?_ (by unfold maxLen; omega) (by omega) hbase ?_
  · intro j u hj
    match j with
    | 0 => simp [fls] at hj; subst hj; rw [Go.WideShapes.add_plain]; exact hc.1
    | 1 => simp [fls] at hj; subst hj; rw [Go.WideShapes.add_plain]; exact hc.2
    | j + 2 => simp [fls] at hj
  · intro u hu; simp [fls] at hu; rcases hu with rfl | rfl <;> rfl
  · intro v' w' h1 h2 h3
    exact ⟨rfl, h v' w' (by unfold OwnF; rw [fls_app] at h1; simpa using h1) h2⟩
theorem step_appS2 {ops : Array Oper} {o : Oper} {a : Act} {w : World} {K : Act → World → Prop} {Q : Exit → Act → World → Prop} {E : Prop} (hgd : o.guard = none) (s x : Operand)
    (ho : o.op = .call { callee := .builtin .append, args := #[s, x], argTypes := #[23, 23] }) (base : Nat) (v : Value) (L : List Sp) (g : Nat) (y z : Sp)
    (hs : a.eval s = v) (hx : a.eval x = .slice (some ⟨g, 0, none⟩) 2 2) (hown : OwnS base w v L) (hc : SpIn w g 0 y ∧ SpIn w g 4 z) (hb : L.length + 2 ≤ 5864062014805) (hbase : base ≤ w.heap.size)
    (h : ∀ v' w', OwnS base w' v' (L ++ [y, z]) → w.grownBy w' v.ownBlock → K (a.put o.dst v') w') :
    if Region.wanted o (yielded ops a.tmps) = true then Oper.wp Tryz.prog o a w K Q else E := by
  refine step_lift hgd ?_
  obtain ⟨i0, hi, hz0, hz1, hz2⟩ := info_parts infoSpanZ
  refine wpList_append_own w hgd s x 23 ho base 48 i0 _ 4 24 Tryz.underlying23 hi hz0 hz1 hz2 rfl (by decide) v L.length (spcs L) hs hown ⟨g, 0, none⟩ 2 2 (spcs [y, z]) hx rfl ?_ (spcs_one _) (by unfold maxLen; omega) (by omega) hbase ?_
  · intro j u hj
    rw [Go.WideShapes.add_plain, Nat.zero_add]
    have e : spcs [y, z] = [.float .f64 y.a, .float .f64 y.b, .bool y.p, .bool y.q, .float .f64 z.a, .float .f64 z.b, .bool z.p, .bool z.q] := rfl
    rw [e] at hj
    match j, hj with
    | 0, hj => cases hj; exact hc.1.1
    | 1, hj => cases hj; exact hc.1.2.1
    | 2, hj => cases hj; exact hc.1.2.2.1
    | 3, hj => cases hj; exact hc.1.2.2.2
    | 4, hj => cases hj; exact hc.2.1
    | 5, hj => cases hj; exact hc.2.2.1
    | 6, hj => cases hj; exact hc.2.2.2.1
    | 7, hj => cases hj; exact hc.2.2.2.2
    | j + 8, hj => simp at hj
  · intro v' w' h1 h2 h3
    exact ⟨rfl, h v' w' (by unfold OwnS; rw [spcs_app] at h1; simpa using h1) h2⟩
theorem stepBuild2F {ops : Array Oper} {o : Oper} {a : Act} {w : World} {K : Act → World → Prop} {Q : Exit → Act → World → Prop} {E : Prop} (hg : o.guard = none) (x y : Operand) (hop : o.op = Op.buildSlice 22 2 #[(0, x), (1, y)]) (p q : Nat)
    (hx : a.eval x = .float .f64 p) (hy : a.eval y = .float .f64 q)
    (hK : ∀ m w', m = w.heap.size → w' = w.alloc (.cells #[.float .f64 p, .float .f64 q] 43) → K (a.put o.dst (.slice (some ⟨m, 0, none⟩) 2 2)) w') :
    if Region.wanted o (yielded ops a.tmps) = true then Oper.wp Tryz.prog o a w K Q else E := by
  have hw : Region.wanted o (yielded ops a.tmps) = true := by simp [Region.wanted, hg]
  rw [if_pos hw]
  obtain ⟨d, p', t, ps, af, gd⟩ := o
  subst hop
  unfold Oper.wp execOp
  simp only [List.map_toArray, List.map_cons, List.map_nil, hx, hy]
  go_simp
  exact hK _ _ rfl rfl
theorem stepBuild2S {ops : Array Oper} {o : Oper} {a : Act} {w : World} {K : Act → World → Prop} {Q : Exit → Act → World → Prop} {E : Prop} (hg : o.guard = none) (x y : Operand) (hop : o.op = Op.buildSlice 23 2 #[(0, x), (1, y)]) (p q : Sp)
    (hx : a.eval x = .agg #[.float .f64 p.a, .float .f64 p.b, .bool p.p, .bool p.q]) (hy : a.eval y = .agg #[.float .f64 q.a, .float .f64 q.b, .bool q.p, .bool q.q])
    (hK : ∀ m w', m = w.heap.size → w' = w.alloc (.cells #[.float .f64 p.a, .float .f64 p.b, .bool p.p, .bool p.q, .float .f64 q.a, .float .f64 q.b, .bool q.p, .bool q.q] 48) → K (a.put o.dst (.slice (some ⟨m, 0, none⟩) 2 2)) w') :
    if Region.wanted o (yielded ops a.tmps) = true then Oper.wp Tryz.prog o a w K Q else E := by
  have hw : Region.wanted o (yielded ops a.tmps) = true := by simp [Region.wanted, hg]
  rw [if_pos hw]
  obtain ⟨d, p', t, ps, af, gd⟩ := o
  subst hop
  unfold Oper.wp execOp
  simp only [List.map_toArray, List.map_cons, List.map_nil, hx, hy]
  go_simp
  exact hK _ _ rfl rfl
/-- A submission s in a box, and another one that is being built in a box of the call's own. -/
structure TBx (w : World) (sb tb : Nat) (s1 s2 s3 : Int) (u1 u2 u3 v1 v2 v3 : Value) (W : World) : Prop where
  hs : SubAt sb s1 s2 s3 u1 u2 u3 W
  ht : SubAt tb s1 s2 s3 v1 v2 v3 W
  th : Th tb W
  u : Old w W
  lt : sb < tb
  le : w.heap.size ≤ tb
  z : tb < W.heap.size
theorem Th.old {m : Nat} {w w' : World} (h : Th m w) (u : Old w w') : Th m w' := by
  obtain ⟨⟨⟨a, ha⟩, a2⟩, ⟨⟨b, hb⟩, b2⟩, ⟨⟨c, hc⟩, c2⟩⟩ := h
  exact ⟨⟨⟨a, u.keep ha⟩, u.keepF ha a2⟩, ⟨⟨b, u.keep hb⟩, u.keepF hb b2⟩, ⟨⟨c, u.keep hc⟩, u.keepF hc c2⟩⟩
theorem TBx.old {w W W' : World} {sb tb : Nat} {s1 s2 s3 : Int} {u1 u2 u3 v1 v2 v3 : Value} (h : TBx w sb tb s1 s2 s3 u1 u2 u3 v1 v2 v3 W) (u : Old W W') : TBx w sb tb s1 s2 s3 u1 u2 u3 v1 v2 v3 W' :=
  ⟨SubAt.old u h.hs, SubAt.old u h.ht, h.th.old u, h.u.trans u, h.lt, h.le, Nat.lt_of_lt_of_le h.z u.size⟩
theorem TBx.grown {w W W' : World} {sb tb : Nat} {s1 s2 s3 : Int} {u1 u2 u3 v1 v2 v3 : Value} {row : Option Nat} (h : TBx w sb tb s1 s2 s3 u1 u2 u3 v1 v2 v3 W) (g : W.grownBy W' row) (hr : ∀ k, row = some k → tb < k) : TBx w sb tb s1 s2 s3 u1 u2 u3 v1 v2 v3 W' := by
  have n1 : some sb ≠ row := fun e => by have := hr sb e.symm; have := h.lt; omega
  have n2 : some tb ≠ row := fun e => by have := hr tb e.symm; omega
  have hz := h.z
  obtain ⟨⟨⟨a, ha⟩, a2⟩, ⟨⟨b, hb⟩, b2⟩, ⟨⟨c, hc⟩, c2⟩⟩ := h.th
  have F : ∀ j, W'.frozen? ⟨tb, j, none⟩ = W.frozen? ⟨tb, j, none⟩ := fun j => g.frozen_far ⟨tb, j, none⟩ hz n2
  have C : ∀ j, W'.cell? ⟨tb, j, none⟩ = W.cell? ⟨tb, j, none⟩ := fun j => g.cell_far ⟨tb, j, none⟩ hz n2
  refine ⟨h.hs.grown g n1, h.ht.grown g n2, ⟨⟨⟨a, by rw [C]; exact ha⟩, by rw [F]; exact a2⟩, ⟨⟨b, by rw [C]; exact hb⟩, by rw [F]; exact b2⟩, ⟨⟨c, by rw [C]; exact hc⟩, by rw [F]; exact c2⟩⟩, Below.grown h.u g (by have := h.le; omega) (fun k e => by have := hr k e; have := h.le; omega), h.lt, h.le, Nat.lt_of_lt_of_le h.z g.size⟩
theorem TBx.set {w W : World} {sb tb : Nat} {s1 s2 s3 : Int} {u1 u2 u3 v1 v2 v3 : Value} (h : TBx w sb tb s1 s2 s3 u1 u2 u3 v1 v2 v3 W) (x : Value) : TBx w sb tb s1 s2 s3 u1 u2 u3 x v2 v3 (W.setCell ⟨tb, 3, none⟩ x) ∧ TBx w sb tb s1 s2 s3 u1 u2 u3 v1 x v3 (W.setCell ⟨tb, 4, none⟩ x) ∧ TBx w sb tb s1 s2 s3 u1 u2 u3 v1 v2 x (W.setCell ⟨tb, 5, none⟩ x) := by
  have hn : tb ≠ sb := by have := h.lt; omega
  have U : ∀ o, Old w (W.setCell ⟨tb, o, none⟩ x) := fun o => h.u.setCell (by show w.heap.size ≤ tb; exact h.le) x
  have Z : ∀ o, tb < (W.setCell ⟨tb, o, none⟩ x).heap.size := fun o => by simpa using h.z
  exact ⟨⟨h.hs.otherB hn x, (h.ht.setF x).1, h.th.set 3 x, U 3, h.lt, h.le, Z 3⟩, ⟨h.hs.otherB hn x, (h.ht.setF x).2.1, h.th.set 4 x, U 4, h.lt, h.le, Z 4⟩, ⟨h.hs.otherB hn x, (h.ht.setF x).2.2, h.th.set 5 x, U 5, h.lt, h.le, Z 5⟩⟩
/-- The keys and spans as they lie turned, k rounds through. -/
def tl {α : Type} (x : Nat → α) (n k : Nat) : List α := (List.range (2 * k)).map (turn x n)
theorem tl_len {α : Type} (x : Nat → α) (n k : Nat) : (tl x n k).length = 2 * k := by simp [tl]
theorem tl_step {α : Type} (x : Nat → α) (n k j : Nat) (h : j = n - 1 - k) : tl x n k ++ [x j, x j] = tl x n (k + 1) := by
  subst h
  have e := turn_two x n k
  unfold tl
  rw [show 2 * (k + 1) = 2 * k + 1 + 1 from by omega, List.range_succ, List.range_succ, List.map_append, List.map_append, List.map_singleton, List.map_singleton, e.1, e.2]
  simp
theorem old_alloc {W y : World} {o : Obj} (hy : y = W.alloc o) : Old W y := by
  rw [hy]; exact (Old.refl W).alloc o
theorem cells2F {W y : World} {p q m : Nat} (hm : m = W.heap.size) (hy : y = W.alloc (.cells #[.float .f64 p, .float .f64 q] 43)) : y.cell? ⟨m, 0, none⟩ = some (.float .f64 p) ∧ y.cell? ⟨m, 1, none⟩ = some (.float .f64 q) := by
  subst hm hy; simp
theorem cells2S {W y : World} {p q : Sp} {m : Nat} (hm : m = W.heap.size) (hy : y = W.alloc (.cells #[.float .f64 p.a, .float .f64 p.b, .bool p.p, .bool p.q, .float .f64 q.a, .float .f64 q.b, .bool q.p, .bool q.q] 48)) : SpIn y m 0 p ∧ SpIn y m 4 q := by
  subst hm hy; simp [SpIn]
theorem tl_atN (x : Nat → Nat) (n : Nat) : Sets x n (atN (tl x n n)) (tl x n n).length := by
  have h := turn_sets x n
  have e : ∀ i, i < 2 * n → atN (tl x n n) i = turn x n i := fun i hi => by rw [atN_get _ i (by rw [tl_len]; exact hi)]; simp [tl]
  rw [tl_len]
  exact ⟨fun i hi => by obtain ⟨j, hj, q⟩ := h.1 i hi; exact ⟨j, hj, by rw [e j hj]; exact q⟩, fun j hj => by obtain ⟨i, hi, q⟩ := h.2 j hj; exact ⟨i, hi, by rw [e j hj]; exact q⟩⟩
theorem tl_atS (x : Nat → Sp) (n : Nat) : Sets x n (atS (tl x n n)) (tl x n n).length := by
  have h := turn_sets x n
  have e : ∀ i, i < 2 * n → atS (tl x n n) i = turn x n i := fun i hi => by
    have hl : i < (tl x n n).length := by rw [tl_len]; exact hi
    rw [show atS (tl x n n) i = (tl x n n)[i] from by simp [atS, List.getElem?_eq_getElem hl]]; simp [tl]
  rw [tl_len]
  exact ⟨fun i hi => by obtain ⟨j, hj, q⟩ := h.1 i hi; exact ⟨j, hj, by rw [e j hj]; exact q⟩, fun j hj => by obtain ⟨i, hi, q⟩ := h.2 j hj; exact ⟨i, hi, by rw [e j hj]; exact q⟩⟩
theorem tl_all {α : Type} {P : α → Prop} {x : Nat → α} {n : Nat} (h : ∀ i, i < n → P (x i)) : ∀ y ∈ tl x n n, P y := fun y hy => by
  unfold tl at hy
  obtain ⟨i, hi, rfl⟩ := List.mem_map.1 hy
  have hi' : i < 2 * n := by simpa using hi
  exact h (n - 1 - i / 2) (by omega)
end Go.Proofs.YtodnegflaoedbaaGreat
namespace Go.Proofs.YtodnegflaoedbaaGreat
open Go.RowKit Go.Lib
set_option linter.unusedVariables false
set_option linter.unusedSimpArgs false
set_option maxRecDepth 20000
attribute [local go_sem] run_bits run_frombits run_store_float eqF
set_option maxHeartbeats 8000000 in
set_option maxRecDepth 20000 in
theorem turnsLaw (s1 s2 s3 : Int) (a1 a2 a3 : Option Addr) (n1 n2 n3 c1 c2 c3 : Nat) (x1 x3 : Nat → Nat) (f2 : Nat → Sp) (b1 : n1 ≤ 17592186044000) (b2 : n2 ≤ 5864062014805) (b3 : n3 ≤ 17592186044000) (w : World) (h1 : FRow w (.slice a1 n1 c1) n1 x1) (h2 : SRow w (.slice a2 n2 c2) n2 f2) (h3 : FRow w (.slice a3 n3 c3) n3 x3) :
    Calls Tryz.prog 8 #[.agg #[.int .i64 s1, .int .i64 s2, .int .i64 s3, .slice a1 n1 c1, .slice a2 n2 c2, .slice a3 n3 c3]] w fun e w' => e = .returned (.bool true) ∧ Old w w' := by
  have HY := hid (show canK (⟨s1, s2, s3, a1, a2, a3, n1, n2, n3, c1, c2, c3, x1, x3, f2⟩ : Sb) = 0 → ∀ (W : World), Old w W → Calls Tryz.prog 20 #[.agg #[.int .i64 s1, .int .i64 s2, .int .i64 s3, .slice a1 n1 c1, .slice a2 n2 c2, .slice a3 n3 c3]] W fun e w' => ∃ c : Sb, e = .returned (.tuple #[.agg #[.int .i64 c.s1, .int .i64 c.s2, .int .i64 c.s3, .slice c.a1 c.n1 c.c1, .slice c.a2 c.n2 c.c2, .slice c.a3 c.n3 c.c3], .int .i64 0]) ∧ IsC (⟨s1, s2, s3, a1, a2, a3, n1, n2, n3, c1, c2, c3, x1, x3, f2⟩ : Sb) c ∧ c.Ok w' ∧ Old W w' from fun q W u => canonS_c (⟨s1, s2, s3, a1, a2, a3, n1, n2, n3, c1, c2, c3, x1, x3, f2⟩ : Sb) W ⟨h1.old u, h2.old u, h3.old u, b1, b2, b3⟩ q)
  have HN := hid (show canK (⟨s1, s2, s3, a1, a2, a3, n1, n2, n3, c1, c2, c3, x1, x3, f2⟩ : Sb) ≠ 0 → ∀ (W : World), Old w W → Calls Tryz.prog 20 #[.agg #[.int .i64 s1, .int .i64 s2, .int .i64 s3, .slice a1 n1 c1, .slice a2 n2 c2, .slice a3 n3 c3]] W fun e w' => e = .returned (.tuple #[.agg #[.int .i64 0, .int .i64 0, .int .i64 0, .slice none 0 0, .slice none 0 0, .slice none 0 0], .int .i64 (canK (⟨s1, s2, s3, a1, a2, a3, n1, n2, n3, c1, c2, c3, x1, x3, f2⟩ : Sb))]) ∧ Old W w' from fun q W u => canonS_no (⟨s1, s2, s3, a1, a2, a3, n1, n2, n3, c1, c2, c3, x1, x3, f2⟩ : Sb) W ⟨h1.old u, h2.old u, h3.old u, b1, b2, b3⟩ q)
  have HWs := hid (show (⟨s1, s2, s3, a1, a2, a3, n1, n2, n3, c1, c2, c3, x1, x3, f2⟩ : Sb).Ws from ⟨h1.ws, h2.ws, h3.ws⟩)
  have HF1 := hid h1
  have HF2 := hid h2
  have HF3 := hid h3
  clear h1 h2 h3
  go_enter Tryz.func8, Tryz.ntmps8
  go_upto_region 1 with fail
  generalize hw1 : w.alloc (.cells #[.int .i64 s1, .int .i64 s2, .int .i64 s3, .slice a1 n1 c1, .slice a2 n2 c2, .slice a3 n3 c3] 25) = w1 at *
  generalize hsb : w.heap.size = sb at *
  have HN0 := hid (sub_new w s1 s2 s3 _ _ _ w1 hw1 sb hsb)
  have HSB := hid hsb
  clear hw1 hsb
  go_upto_region 3 with (first | (go_at_call 19; refine (canonical_any _).mono ?_; rintro e w2 ⟨rfl, u2⟩; have U2 := hid (HN0.out.2.trans u2); have B2 := hid (SubAt.old u2 HN0.out.1); clear u2) | (go_at_call 9; refine (coding_any _).mono ?_; rintro e w3 ⟨rfl, u3⟩; have U3 := hid (U2.out.trans u3); have B3 := hid (SubAt.old u3 B2.out); have Z3 := hid (show sb < w3.heap.size by have := World.block_lt_of_cell? w3 _ B3.out.1; exact this); clear u3))
  clear HN0 U2 B2
  obtain ⟨t0, t1, t2, t3, t4, t5⟩ := B3.out
  by_cases hbig : n1 + n2 + n3 ≤ 60
  · have m1 : ¬ ((n1 : Int) + n2 + n3 > 60) := by omega
    have m2 : ¬ (60 < (n1 : Int) + n2 + n3) := by omega
    have HSm := hid hbig
    go_upto_region 6 with fail
    generalize hw4 : w3.alloc (.cells #[.int .i64 s1, .int .i64 s2, .int .i64 s3, .slice none 0 0, .slice none 0 0, .slice none 0 0] 25) = w4 at *
    generalize htb : w3.heap.size = tb at *
    have HT0 : Hid (TBx w sb tb s1 s2 s3 (.slice a1 n1 c1) (.slice a2 n2 c2) (.slice a3 n3 c3) (.slice none 0 0) (.slice none 0 0) (.slice none 0 0) w4) := by
      obtain ⟨hB, hV⟩ := sub_new w3 s1 s2 s3 _ _ _ w4 hw4 tb htb
      exact ⟨SubAt.old hV B3.out, hB, by rw [← hw4, ← htb]; exact ⟨⟨⟨.slice none 0 0, by simp⟩, by simp⟩, ⟨⟨.slice none 0 0, by simp⟩, by simp⟩, ⟨⟨.slice none 0 0, by simp⟩, by simp⟩⟩, U3.out.trans hV, Z3.out, by rw [← htb]; exact U3.out.size, by rw [← hw4, ← htb]; simp⟩
    clear hw4 htb t0 t1 t2 t3 t4 t5 B3 U3 Z3 m1 m2 hbig
    obtain ⟨t0, t1, t2, t3, t4, t5⟩ := HT0.out.hs
    have l3 : (n1 : Int) ≤ 60 := by have := HSm.out; omega
    go_wp2
    go_loopw [4] (fun i wr => ∃ (k : Nat) (z : Int) (v : Value), k ≤ n1 ∧ z = (n1 : Int) - 1 - k ∧ i = .int .i64 z ∧ TBx w sb tb s1 s2 s3 (.slice a1 n1 c1) (.slice a2 n2 c2) (.slice a3 n3 c3) v (.slice none 0 0) (.slice none 0 0) wr ∧ OwnF (tb + 1) wr v (tl x1 n1 k)) (fun i _ => (intOf i + 1).toNat)
    case atStart => exact ⟨0, (n1 : Int) - 1, (.slice none 0 0), Nat.zero_le _, by omega, by go_num, HT0.out, World.ownsRow_nil _ _ _ _⟩
    case round =>
      obtain ⟨k, z, v, hk, hz, rfl, hT, hO⟩ := hrel
      have HT := hid hT
      have HO := hid hO
      clear hT hO HT0
      obtain ⟨pv, cv, ev⟩ := OwnF.len HO.out
      subst ev
      by_cases hlt : k < n1
      · obtain ⟨j, rfl⟩ : ∃ j : Nat, z = j := ⟨n1 - 1 - k, by omega⟩
        have hj : j = n1 - 1 - k := by omega
        have hjn : j < n1 := by omega
        have HJ := hid hj
        have HZj := hid hz
        clear hj hz
        obtain ⟨_, qa, qc, hv, hcx⟩ := HF1.out
        simp only [Value.slice.injEq] at hv
        obtain ⟨rfl, _, rfl⟩ := hv
        obtain ⟨b, off, ha, hWa, z0⟩ := hcx j hjn
        subst ha
        have HCe := hid z0
        have l1 : (0 : Int) ≤ (j : Int) := by omega
        have l2 : (j : Int) < (n1 : Int) := by omega
        have l3 : (n1 : Int) ≤ 60 := by have := HSm.out; omega
        have HNn := hid (show k ≤ 60 by have := HSm.out; omega)
        have HTb := hid (show tb < (tb + 1) by omega)
        have HBz := hid (show True from trivial)
        clear hcx z0
        go_upto_region 9 with fail
        refine wp_region_noPanic ?_
        refine wp_region_held_drew (S := fun wz => SubAt sb s1 s2 s3 (.slice (some ⟨b, off, none⟩) n1 c1) (.slice a2 n2 c2) (.slice a3 n3 c3) wz ∧ wz.cell? ⟨b, off + j, none⟩ = some (.float .f64 (x1 j))) (by kernel_rfl) ?_ (fun hHeld => ?_)
        · exact ⟨(HT.out.old ((Old.refl wr).drew)).hs, (HT.out.old ((Old.refl wr).drew)).u.keep HCe.out⟩
        (try simp only [Act.put]); (try simp only [List.setIfInBounds_toArray]); (try simp only [List.set_cons_succ]); (try simp only [List.set_cons_zero])
        clear hHeld
        refine wpAnyH_take (i := 0) (oi := { dst := some 44, op := Op.fieldAddr 25 (Operand.tmp 3) 3, type := 0, pos := "law.go:143", after := #[], guard := none }) (v := ?vk1) rfl (by kernel_rfl) (by kernel_rfl) (by kernel_rfl) (fun _ _ _ h => h) (Or.inl ⟨by rfl, ?hk1⟩) ⟨(HT.out.old ((Old.refl wr).drew)).hs, (HT.out.old ((Old.refl wr).drew)).u.keep HCe.out⟩ ?rk1
        case hk1 => (intro wz hSw; (try dsimp only at hSw); go_simp; try with_reducible rfl)
        (try simp only [Act.put]); (try simp only [List.setIfInBounds_toArray]); (try simp only [List.set_cons_succ]); (try simp only [List.set_cons_zero])
        refine wpAnyH_take (i := 2) (oi := { dst := some 46, op := Op.fieldAddr 25 (Operand.tmp 1) 3, type := 0, pos := "law.go:143", after := #[], guard := none }) (v := ?vk2) rfl (by kernel_rfl) (by kernel_rfl) (by kernel_rfl) (fun _ _ _ h => h) (Or.inl ⟨by rfl, ?hk2⟩) ⟨(HT.out.old ((Old.refl wr).drew)).hs, (HT.out.old ((Old.refl wr).drew)).u.keep HCe.out⟩ ?rk2
        case hk2 => (intro wz hSw; (try dsimp only at hSw); go_simp; try with_reducible rfl)
        (try simp only [Act.put]); (try simp only [List.setIfInBounds_toArray]); (try simp only [List.set_cons_succ]); (try simp only [List.set_cons_zero])
        refine wpAnyH_take (i := 3) (oi := { dst := some 47, op := Op.load 22 (Operand.tmp 46), type := 22, pos := "law.go:143", after := #[{ on := 2, ground := Ground.data }], guard := none }) (v := ?vk3) rfl (by kernel_rfl) (by kernel_rfl) (by kernel_rfl) (fun _ _ _ h => h) (Or.inl ⟨by rfl, ?hk3⟩) ⟨(HT.out.old ((Old.refl wr).drew)).hs, (HT.out.old ((Old.refl wr).drew)).u.keep HCe.out⟩ ?rk3
        case hk3 => (intro wz hSw; (try dsimp only at hSw); go_simp; try with_reducible rfl)
        (try simp only [Act.put]); (try simp only [List.setIfInBounds_toArray]); (try simp only [List.set_cons_succ]); (try simp only [List.set_cons_zero])
        refine wpAnyH_take (i := 4) (oi := { dst := some 48, op := Op.move (Operand.tmp 4), type := 3, pos := "law.go:143", after := #[], guard := none }) (v := ?vk4) rfl (by kernel_rfl) (by kernel_rfl) (by kernel_rfl) (fun _ _ _ h => h) (Or.inl ⟨by rfl, ?hk4⟩) ⟨(HT.out.old ((Old.refl wr).drew)).hs, (HT.out.old ((Old.refl wr).drew)).u.keep HCe.out⟩ ?rk4
        case hk4 => (intro wz hSw; (try dsimp only at hSw); go_simp; try with_reducible rfl)
        (try simp only [Act.put]); (try simp only [List.setIfInBounds_toArray]); (try simp only [List.set_cons_succ]); (try simp only [List.set_cons_zero])
        refine wpAnyH_take (i := 5) (oi := { dst := some 49, op := Op.indexAddr 22 (Operand.tmp 47) (Operand.tmp 48), type := 0, pos := "law.go:143", after := #[{ on := 3, ground := Ground.data }, { on := 4, ground := Ground.data }], guard := none }) (v := ?vk5) rfl (by kernel_rfl) (by kernel_rfl) (by kernel_rfl) (fun _ _ _ h => h) (Or.inl ⟨by rfl, ?hk5⟩) ⟨(HT.out.old ((Old.refl wr).drew)).hs, (HT.out.old ((Old.refl wr).drew)).u.keep HCe.out⟩ ?rk5
        case hk5 => (intro wz hSw; (try dsimp only at hSw); go_simp; try with_reducible rfl)
        (try simp only [Act.put]); (try simp only [List.setIfInBounds_toArray]); (try simp only [List.set_cons_succ]); (try simp only [List.set_cons_zero])
        refine wpAnyH_take (i := 6) (oi := { dst := some 50, op := Op.load 43 (Operand.tmp 49), type := 43, pos := "law.go:143", after := #[{ on := 5, ground := Ground.data }], guard := none }) (v := ?vk6) rfl (by kernel_rfl) (by kernel_rfl) (by kernel_rfl) (fun _ _ _ h => h) (Or.inl ⟨by rfl, ?hk6⟩) ⟨(HT.out.old ((Old.refl wr).drew)).hs, (HT.out.old ((Old.refl wr).drew)).u.keep HCe.out⟩ ?rk6
        case hk6 => (intro wz hSw; (try dsimp only at hSw); go_simp; try with_reducible rfl)
        (try simp only [Act.put]); (try simp only [List.setIfInBounds_toArray]); (try simp only [List.set_cons_succ]); (try simp only [List.set_cons_zero])
        refine wpAnyH_take (i := 7) (oi := { dst := some 51, op := Op.fieldAddr 25 (Operand.tmp 1) 3, type := 0, pos := "law.go:143", after := #[], guard := none }) (v := ?vk7) rfl (by kernel_rfl) (by kernel_rfl) (by kernel_rfl) (fun _ _ _ h => h) (Or.inl ⟨by rfl, ?hk7⟩) ⟨(HT.out.old ((Old.refl wr).drew)).hs, (HT.out.old ((Old.refl wr).drew)).u.keep HCe.out⟩ ?rk7
        case hk7 => (intro wz hSw; (try dsimp only at hSw); go_simp; try with_reducible rfl)
        (try simp only [Act.put]); (try simp only [List.setIfInBounds_toArray]); (try simp only [List.set_cons_succ]); (try simp only [List.set_cons_zero])
        refine wpAnyH_take (i := 8) (oi := { dst := some 52, op := Op.load 22 (Operand.tmp 51), type := 22, pos := "law.go:143", after := #[{ on := 7, ground := Ground.data }], guard := none }) (v := ?vk8) rfl (by kernel_rfl) (by kernel_rfl) (by kernel_rfl) (fun _ _ _ h => h) (Or.inl ⟨by rfl, ?hk8⟩) ⟨(HT.out.old ((Old.refl wr).drew)).hs, (HT.out.old ((Old.refl wr).drew)).u.keep HCe.out⟩ ?rk8
        case hk8 => (intro wz hSw; (try dsimp only at hSw); go_simp; try with_reducible rfl)
        (try simp only [Act.put]); (try simp only [List.setIfInBounds_toArray]); (try simp only [List.set_cons_succ]); (try simp only [List.set_cons_zero])
        refine wpAnyH_take (i := 9) (oi := { dst := some 53, op := Op.move (Operand.tmp 4), type := 3, pos := "law.go:143", after := #[], guard := none }) (v := ?vk9) rfl (by kernel_rfl) (by kernel_rfl) (by kernel_rfl) (fun _ _ _ h => h) (Or.inl ⟨by rfl, ?hk9⟩) ⟨(HT.out.old ((Old.refl wr).drew)).hs, (HT.out.old ((Old.refl wr).drew)).u.keep HCe.out⟩ ?rk9
        case hk9 => (intro wz hSw; (try dsimp only at hSw); go_simp; try with_reducible rfl)
        (try simp only [Act.put]); (try simp only [List.setIfInBounds_toArray]); (try simp only [List.set_cons_succ]); (try simp only [List.set_cons_zero])
        refine wpAnyH_take (i := 10) (oi := { dst := some 54, op := Op.indexAddr 22 (Operand.tmp 52) (Operand.tmp 53), type := 0, pos := "law.go:143", after := #[{ on := 8, ground := Ground.data }, { on := 9, ground := Ground.data }], guard := none }) (v := ?vk10) rfl (by kernel_rfl) (by kernel_rfl) (by kernel_rfl) (fun _ _ _ h => h) (Or.inl ⟨by rfl, ?hk10⟩) ⟨(HT.out.old ((Old.refl wr).drew)).hs, (HT.out.old ((Old.refl wr).drew)).u.keep HCe.out⟩ ?rk10
        case hk10 => (intro wz hSw; (try dsimp only at hSw); go_simp; try with_reducible rfl)
        (try simp only [Act.put]); (try simp only [List.setIfInBounds_toArray]); (try simp only [List.set_cons_succ]); (try simp only [List.set_cons_zero])
        refine wpAnyH_take (i := 11) (oi := { dst := some 55, op := Op.load 43 (Operand.tmp 54), type := 43, pos := "law.go:143", after := #[{ on := 10, ground := Ground.data }], guard := none }) (v := ?vk11) rfl (by kernel_rfl) (by kernel_rfl) (by kernel_rfl) (fun _ _ _ h => h) (Or.inl ⟨by rfl, ?hk11⟩) ⟨(HT.out.old ((Old.refl wr).drew)).hs, (HT.out.old ((Old.refl wr).drew)).u.keep HCe.out⟩ ?rk11
        case hk11 => (intro wz hSw; (try dsimp only at hSw); go_simp; try with_reducible rfl)
        (try simp only [Act.put]); (try simp only [List.setIfInBounds_toArray]); (try simp only [List.set_cons_succ]); (try simp only [List.set_cons_zero])
        refine wpAnyH_ready (rs := [1, 12]) (by kernel_rfl) (by simp) ?_
        refine AllReadyH.cons (o := { dst := some 45, op := Op.load 22 (Operand.tmp 44), type := 22, pos := "law.go:143", after := #[{ on := 0, ground := Ground.data }], guard := none }) rfl (fun K hK => ?_) (AllReadyH.cons (o := { dst := some 56, op := Op.buildSlice 22 2 #[(0, Operand.tmp 50), (1, Operand.tmp 55)], type := 22, pos := "law.go:143", after := #[{ on := 6, ground := Ground.data }, { on := 11, ground := Ground.data }], guard := none }) rfl (fun K hK => ?_) AllReadyH.nil)
        · skip
          refine stepLoadFL ?_ (.tmp 44) ?_ tb 3 pv (tl x1 n1 k).length cv ?_ (HT.out.old ((Old.refl wr).drew)).ht.2.2.2.1 ?_
          · rfl
          · rfl
          · rfl
          refine hK.out _ _ ⟨(HT.out.old ((Old.refl wr).drew)).hs, (HT.out.old ((Old.refl wr).drew)).u.keep HCe.out⟩ (fun _ => ?_)
          clear hK K
          (try simp only [Act.put]); (try simp only [List.setIfInBounds_toArray]); (try simp only [List.set_cons_succ]); (try simp only [List.set_cons_zero])
          refine wpAnyH_ready (rs := [12]) (by kernel_rfl) (by simp) ?_
          refine AllReadyH.cons (o := { dst := some 56, op := Op.buildSlice 22 2 #[(0, Operand.tmp 50), (1, Operand.tmp 55)], type := 22, pos := "law.go:143", after := #[{ on := 6, ground := Ground.data }, { on := 11, ground := Ground.data }], guard := none }) rfl (fun K hK => ?_) AllReadyH.nil
          · skip
            refine stepBuild2F ?_ (.tmp 50) (.tmp 55) ?_ (x1 j) (x1 j) ?_ ?_ ?_
            · rfl
            · rfl
            · rfl
            · rfl
            intro m12 y12 hm12 hy12
            have R12 : y12.cell? ⟨m12, 0, none⟩ = some (.float .f64 (x1 j)) ∧ y12.cell? ⟨m12, 1, none⟩ = some (.float .f64 (x1 j)) := cells2F hm12 hy12
            have V12 := old_alloc hy12
            have Y12 : wr.heap.size ≤ y12.heap.size := V12.size
            have T12 := (HT.out.old ((Old.refl wr).drew)).old V12
            have O12 := (HO.out.up ((Old.refl wr).drew)).up V12
            clear hm12 hy12 V12
            refine hK.out _ _ ⟨T12.hs, T12.u.keep HCe.out⟩ (fun _ => ?_)
            clear hK K
            (try simp only [Act.put]); (try simp only [List.setIfInBounds_toArray]); (try simp only [List.set_cons_succ]); (try simp only [List.set_cons_zero])
            refine wpAnyH_ready (rs := [13]) (by kernel_rfl) (by simp) ?_
            refine AllReadyH.cons (o := { dst := some 57, op := Op.call { callee := Callee.builtin Builtin.append, args := #[Operand.tmp 45, Operand.tmp 56], argTypes := #[22, 22] }, type := 22, pos := "law.go:143", after := #[{ on := 1, ground := Ground.data }, { on := 12, ground := Ground.data }], guard := none }) rfl (fun K hK => ?_) AllReadyH.nil
            · skip
              refine step_appF2 ?_ (.tmp 45) (.tmp 56) ?_ (tb + 1) _ (tl x1 n1 k) m12 (x1 j) (x1 j) ?_ ?_ O12 R12 (by rw [tl_len]; have := HNn.out; omega) (by have := T12.z; have := HBz.out; have := Y12; omega) ?_
              · rfl
              · rfl
              · rfl
              · rfl
              intro v13 y13 o13 g13
              have T13 := T12.grown g13 (fun i e => by have := (World.ownsRow.lt O12 i e).1; have := HTb.out; omega)
              have Z13 := g13.size
              rw [tl_step x1 n1 k j HJ.out] at o13
              obtain ⟨pn, cn, en⟩ := OwnF.len o13
              subst en
              refine hK.out _ _ ⟨T13.hs, T13.u.keep HCe.out⟩ (fun _ => ?_)
              clear hK K
              (try simp only [Act.put]); (try simp only [List.setIfInBounds_toArray]); (try simp only [List.set_cons_succ]); (try simp only [List.set_cons_zero])
              refine wpAnyH_take (i := 14) (oi := { dst := some 58, op := Op.fieldAddr 25 (Operand.tmp 3) 3, type := 0, pos := "law.go:143", after := #[{ on := 0, ground := Ground.phase }, { on := 1, ground := Ground.phase }, { on := 2, ground := Ground.phase }, { on := 3, ground := Ground.phase }, { on := 4, ground := Ground.phase }, { on := 5, ground := Ground.phase }, { on := 6, ground := Ground.phase }, { on := 7, ground := Ground.phase }, { on := 8, ground := Ground.phase }, { on := 9, ground := Ground.phase }, { on := 10, ground := Ground.phase }, { on := 11, ground := Ground.phase }, { on := 12, ground := Ground.phase }, { on := 13, ground := Ground.phase }], guard := none }) (v := ?vk14) rfl (by kernel_rfl) (by kernel_rfl) (by kernel_rfl) (fun _ _ _ h => h) (Or.inl ⟨by rfl, ?hk14⟩) ⟨T13.hs, T13.u.keep HCe.out⟩ ?rk14
              case hk14 => (intro wz hSw; (try dsimp only at hSw); go_simp; try with_reducible rfl)
              (try simp only [Act.put]); (try simp only [List.setIfInBounds_toArray]); (try simp only [List.set_cons_succ]); (try simp only [List.set_cons_zero])
              refine wpAnyH_ready (rs := [15]) (by kernel_rfl) (by simp) ?_
              refine AllReadyH.cons (o := { dst := none, op := Op.store 22 (Operand.tmp 58) (Operand.tmp 57), type := 0, pos := "law.go:143", after := #[{ on := 14, ground := Ground.data }, { on := 13, ground := Ground.data }, { on := 13, ground := Ground.chain }, { on := 0, ground := Ground.phase }, { on := 1, ground := Ground.phase }, { on := 2, ground := Ground.phase }, { on := 3, ground := Ground.phase }, { on := 4, ground := Ground.phase }, { on := 5, ground := Ground.phase }, { on := 6, ground := Ground.phase }, { on := 7, ground := Ground.phase }, { on := 8, ground := Ground.phase }, { on := 9, ground := Ground.phase }, { on := 10, ground := Ground.phase }, { on := 11, ground := Ground.phase }, { on := 12, ground := Ground.phase }, { on := 13, ground := Ground.phase }], guard := none }) rfl (fun K hK => ?_) AllReadyH.nil
              · skip
                refine stepStoreFL ?_ (.tmp 58) (.tmp 57) ?_ tb 3 pn (tl x1 n1 (k + 1)).length cn ?_ ?_ T13.th.t3 ?_
                · rfl
                · rfl
                · rfl
                · rfl
                have T15 := (T13.set (.slice pn (tl x1 n1 (k + 1)).length cn)).1
                have O15 := ownsRow_setCell_below o13 (a := ⟨tb, 3, none⟩) (by show tb < _; have := HTb.out; omega) (.slice pn (tl x1 n1 (k + 1)).length cn)
                refine hK.out _ _ ⟨T15.hs, T15.u.keep HCe.out⟩ (fun _ => ?_)
                clear hK K
                (try simp only [Act.put]); (try simp only [List.setIfInBounds_toArray]); (try simp only [List.set_cons_succ]); (try simp only [List.set_cons_zero])
                refine wpAnyH_done (by kernel_rfl) ?_ _
                refine NoPanic.normal ?_
                have TE := hid T15
                have OE := hid (show OwnF _ _ _ _ from O15)
                go_wp2
                go_roundw
                case rel => exact ⟨k + 1, (j : Int) - 1, _, hlt, by have := HZj.out; omega, by go_num, TE.out, OE.out⟩
                case measure => (simp [intOf])
        · skip
          refine stepBuild2F ?_ (.tmp 50) (.tmp 55) ?_ (x1 j) (x1 j) ?_ ?_ ?_
          · rfl
          · rfl
          · rfl
          · rfl
          intro m16 y16 hm16 hy16
          have R16 : y16.cell? ⟨m16, 0, none⟩ = some (.float .f64 (x1 j)) ∧ y16.cell? ⟨m16, 1, none⟩ = some (.float .f64 (x1 j)) := cells2F hm16 hy16
          have V16 := old_alloc hy16
          have Y16 : wr.heap.size ≤ y16.heap.size := V16.size
          have T16 := (HT.out.old ((Old.refl wr).drew)).old V16
          have O16 := (HO.out.up ((Old.refl wr).drew)).up V16
          clear hm16 hy16 V16
          refine hK.out _ _ ⟨T16.hs, T16.u.keep HCe.out⟩ (fun _ => ?_)
          clear hK K
          (try simp only [Act.put]); (try simp only [List.setIfInBounds_toArray]); (try simp only [List.set_cons_succ]); (try simp only [List.set_cons_zero])
          refine wpAnyH_ready (rs := [1]) (by kernel_rfl) (by simp) ?_
          refine AllReadyH.cons (o := { dst := some 45, op := Op.load 22 (Operand.tmp 44), type := 22, pos := "law.go:143", after := #[{ on := 0, ground := Ground.data }], guard := none }) rfl (fun K hK => ?_) AllReadyH.nil
          · skip
            refine stepLoadFL ?_ (.tmp 44) ?_ tb 3 pv (tl x1 n1 k).length cv ?_ T16.ht.2.2.2.1 ?_
            · rfl
            · rfl
            · rfl
            refine hK.out _ _ ⟨T16.hs, T16.u.keep HCe.out⟩ (fun _ => ?_)
            clear hK K
            (try simp only [Act.put]); (try simp only [List.setIfInBounds_toArray]); (try simp only [List.set_cons_succ]); (try simp only [List.set_cons_zero])
            refine wpAnyH_ready (rs := [13]) (by kernel_rfl) (by simp) ?_
            refine AllReadyH.cons (o := { dst := some 57, op := Op.call { callee := Callee.builtin Builtin.append, args := #[Operand.tmp 45, Operand.tmp 56], argTypes := #[22, 22] }, type := 22, pos := "law.go:143", after := #[{ on := 1, ground := Ground.data }, { on := 12, ground := Ground.data }], guard := none }) rfl (fun K hK => ?_) AllReadyH.nil
            · skip
              refine step_appF2 ?_ (.tmp 45) (.tmp 56) ?_ (tb + 1) _ (tl x1 n1 k) m16 (x1 j) (x1 j) ?_ ?_ O16 R16 (by rw [tl_len]; have := HNn.out; omega) (by have := T16.z; have := HBz.out; have := Y16; omega) ?_
              · rfl
              · rfl
              · rfl
              · rfl
              intro v17 y17 o17 g17
              have T17 := T16.grown g17 (fun i e => by have := (World.ownsRow.lt O16 i e).1; have := HTb.out; omega)
              have Z17 := g17.size
              rw [tl_step x1 n1 k j HJ.out] at o17
              obtain ⟨pn, cn, en⟩ := OwnF.len o17
              subst en
              refine hK.out _ _ ⟨T17.hs, T17.u.keep HCe.out⟩ (fun _ => ?_)
              clear hK K
              (try simp only [Act.put]); (try simp only [List.setIfInBounds_toArray]); (try simp only [List.set_cons_succ]); (try simp only [List.set_cons_zero])
              refine wpAnyH_take (i := 14) (oi := { dst := some 58, op := Op.fieldAddr 25 (Operand.tmp 3) 3, type := 0, pos := "law.go:143", after := #[{ on := 0, ground := Ground.phase }, { on := 1, ground := Ground.phase }, { on := 2, ground := Ground.phase }, { on := 3, ground := Ground.phase }, { on := 4, ground := Ground.phase }, { on := 5, ground := Ground.phase }, { on := 6, ground := Ground.phase }, { on := 7, ground := Ground.phase }, { on := 8, ground := Ground.phase }, { on := 9, ground := Ground.phase }, { on := 10, ground := Ground.phase }, { on := 11, ground := Ground.phase }, { on := 12, ground := Ground.phase }, { on := 13, ground := Ground.phase }], guard := none }) (v := ?vk18) rfl (by kernel_rfl) (by kernel_rfl) (by kernel_rfl) (fun _ _ _ h => h) (Or.inl ⟨by rfl, ?hk18⟩) ⟨T17.hs, T17.u.keep HCe.out⟩ ?rk18
              case hk18 => (intro wz hSw; (try dsimp only at hSw); go_simp; try with_reducible rfl)
              (try simp only [Act.put]); (try simp only [List.setIfInBounds_toArray]); (try simp only [List.set_cons_succ]); (try simp only [List.set_cons_zero])
              refine wpAnyH_ready (rs := [15]) (by kernel_rfl) (by simp) ?_
              refine AllReadyH.cons (o := { dst := none, op := Op.store 22 (Operand.tmp 58) (Operand.tmp 57), type := 0, pos := "law.go:143", after := #[{ on := 14, ground := Ground.data }, { on := 13, ground := Ground.data }, { on := 13, ground := Ground.chain }, { on := 0, ground := Ground.phase }, { on := 1, ground := Ground.phase }, { on := 2, ground := Ground.phase }, { on := 3, ground := Ground.phase }, { on := 4, ground := Ground.phase }, { on := 5, ground := Ground.phase }, { on := 6, ground := Ground.phase }, { on := 7, ground := Ground.phase }, { on := 8, ground := Ground.phase }, { on := 9, ground := Ground.phase }, { on := 10, ground := Ground.phase }, { on := 11, ground := Ground.phase }, { on := 12, ground := Ground.phase }, { on := 13, ground := Ground.phase }], guard := none }) rfl (fun K hK => ?_) AllReadyH.nil
              · skip
                refine stepStoreFL ?_ (.tmp 58) (.tmp 57) ?_ tb 3 pn (tl x1 n1 (k + 1)).length cn ?_ ?_ T17.th.t3 ?_
                · rfl
                · rfl
                · rfl
                · rfl
                have T19 := (T17.set (.slice pn (tl x1 n1 (k + 1)).length cn)).1
                have O19 := ownsRow_setCell_below o17 (a := ⟨tb, 3, none⟩) (by show tb < _; have := HTb.out; omega) (.slice pn (tl x1 n1 (k + 1)).length cn)
                refine hK.out _ _ ⟨T19.hs, T19.u.keep HCe.out⟩ (fun _ => ?_)
                clear hK K
                (try simp only [Act.put]); (try simp only [List.setIfInBounds_toArray]); (try simp only [List.set_cons_succ]); (try simp only [List.set_cons_zero])
                refine wpAnyH_done (by kernel_rfl) ?_ _
                refine NoPanic.normal ?_
                have TE := hid T19
                have OE := hid (show OwnF _ _ _ _ from O19)
                go_wp2
                go_roundw
                case rel => exact ⟨k + 1, (j : Int) - 1, _, hlt, by have := HZj.out; omega, by go_num, TE.out, OE.out⟩
                case measure => (simp [intOf])
      · obtain rfl : n1 = k := by omega
        obtain rfl : z = -1 := by omega
        clear hz hk hlt
        generalize hV1 : Value.slice pv (tl x1 n1 n1).length cv = V1 at *
        have HV1 := hid hV1.symm
        clear hV1
        obtain ⟨B2, hB2⟩ : ∃ B2, B2 = wr.heap.size := ⟨_, rfl⟩
        have HL1 := hid (show ∀ g, V1.ownBlock = some g → g < B2 from fun g e => by rw [hB2]; exact (World.ownsRow.lt HO.out g e).2)
        have HB2 := hid (show tb + 1 ≤ B2 by have := HT.out.z; omega)
        have HT0 := hid HT.out
        have HA0 := hid HO.out
        have HZ0 := hid (show B2 ≤ wr.heap.size by omega)
        clear HT HO hB2
        obtain ⟨t0, t1, t2, t3, t4, t5⟩ := HT0.out.hs
        have l3 : (n2 : Int) ≤ 60 := by have := HSm.out; omega
        go_wp2
        go_loopw [5] (fun i wr => ∃ (k : Nat) (z : Int) (v : Value), k ≤ n2 ∧ z = (n2 : Int) - 1 - k ∧ i = .int .i64 z ∧ TBx w sb tb s1 s2 s3 (.slice a1 n1 c1) (.slice a2 n2 c2) (.slice a3 n3 c3) V1 v (.slice none 0 0) wr ∧ OwnS B2 wr v (tl f2 n2 k) ∧ OwnF (tb + 1) wr V1 (tl x1 n1 n1) ∧ B2 ≤ wr.heap.size) (fun i _ => (intOf i + 1).toNat)
        case atStart => exact ⟨0, (n2 : Int) - 1, (.slice none 0 0), Nat.zero_le _, by omega, by go_num, HT0.out, World.ownsRow_nil _ _ _ _, HA0.out, HZ0.out⟩
        case round =>
          obtain ⟨k, z, v, hk, hz, rfl, hT, hO, hA, hZr⟩ := hrel
          have HT := hid hT
          have HO := hid hO
          have HA := hid hA
          have HZr := hid hZr
          clear hT hO hA hZr HT0 HA0 HZ0
          obtain ⟨pv, cv, ev⟩ := OwnS.len HO.out
          subst ev
          by_cases hlt : k < n2
          · obtain ⟨j, rfl⟩ : ∃ j : Nat, z = j := ⟨n2 - 1 - k, by omega⟩
            have hj : j = n2 - 1 - k := by omega
            have hjn : j < n2 := by omega
            have HJ := hid hj
            have HZj := hid hz
            clear hj hz
            obtain ⟨_, qa, qc, hv, hcx⟩ := HF2.out
            simp only [Value.slice.injEq] at hv
            obtain ⟨rfl, _, rfl⟩ := hv
            obtain ⟨b, off, ha, hWa, hWb, z0⟩ := hcx j hjn
            subst ha
            have HCe := hid z0
            have l1 : (0 : Int) ≤ (j : Int) := by omega
            have l2 : (j : Int) < (n2 : Int) := by omega
            have l3 : (n2 : Int) ≤ 60 := by have := HSm.out; omega
            have HNn := hid (show k ≤ 60 by have := HSm.out; omega)
            have HTb := hid (show tb < B2 by have := HB2.out; omega)
            have HBz := hid (show B2 ≤ wr.heap.size from HZr.out)
            clear hcx z0
            go_upto_region 13 with fail
            refine wp_region_noPanic ?_
            refine wp_region_held_drew (S := fun wz => SubAt sb s1 s2 s3 (.slice a1 n1 c1) (.slice (some ⟨b, off, none⟩) n2 c2) (.slice a3 n3 c3) wz ∧ wz.cell? ⟨b, off + j * 4, none⟩ = some (.float .f64 (f2 j).a) ∧ wz.cell? ⟨b, off + j * 4 + 1, none⟩ = some (.float .f64 (f2 j).b) ∧ wz.cell? ⟨b, off + j * 4 + 2, none⟩ = some (.bool (f2 j).p) ∧ wz.cell? ⟨b, off + j * 4 + 3, none⟩ = some (.bool (f2 j).q)) (by kernel_rfl) ?_ (fun hHeld => ?_)
            · exact ⟨(HT.out.old ((Old.refl wr).drew)).hs, SpIn.old HCe.out (HT.out.old ((Old.refl wr).drew)).u⟩
            (try simp only [Act.put]); (try simp only [List.setIfInBounds_toArray]); (try simp only [List.set_cons_succ]); (try simp only [List.set_cons_zero])
            clear hHeld
            refine wpAnyH_take (i := 0) (oi := { dst := some 67, op := Op.fieldAddr 25 (Operand.tmp 3) 4, type := 0, pos := "law.go:146", after := #[], guard := none }) (v := ?vk20) rfl (by kernel_rfl) (by kernel_rfl) (by kernel_rfl) (fun _ _ _ h => h) (Or.inl ⟨by rfl, ?hk20⟩) ⟨(HT.out.old ((Old.refl wr).drew)).hs, (SpIn.old HCe.out (HT.out.old ((Old.refl wr).drew)).u)⟩ ?rk20
            case hk20 => (intro wz hSw; (try dsimp only at hSw); go_simp; try with_reducible rfl)
            (try simp only [Act.put]); (try simp only [List.setIfInBounds_toArray]); (try simp only [List.set_cons_succ]); (try simp only [List.set_cons_zero])
            refine wpAnyH_take (i := 2) (oi := { dst := some 69, op := Op.fieldAddr 25 (Operand.tmp 1) 4, type := 0, pos := "law.go:146", after := #[], guard := none }) (v := ?vk21) rfl (by kernel_rfl) (by kernel_rfl) (by kernel_rfl) (fun _ _ _ h => h) (Or.inl ⟨by rfl, ?hk21⟩) ⟨(HT.out.old ((Old.refl wr).drew)).hs, (SpIn.old HCe.out (HT.out.old ((Old.refl wr).drew)).u)⟩ ?rk21
            case hk21 => (intro wz hSw; (try dsimp only at hSw); go_simp; try with_reducible rfl)
            (try simp only [Act.put]); (try simp only [List.setIfInBounds_toArray]); (try simp only [List.set_cons_succ]); (try simp only [List.set_cons_zero])
            refine wpAnyH_take (i := 3) (oi := { dst := some 70, op := Op.load 23 (Operand.tmp 69), type := 23, pos := "law.go:146", after := #[{ on := 2, ground := Ground.data }], guard := none }) (v := ?vk22) rfl (by kernel_rfl) (by kernel_rfl) (by kernel_rfl) (fun _ _ _ h => h) (Or.inl ⟨by rfl, ?hk22⟩) ⟨(HT.out.old ((Old.refl wr).drew)).hs, (SpIn.old HCe.out (HT.out.old ((Old.refl wr).drew)).u)⟩ ?rk22
            case hk22 => (intro wz hSw; (try dsimp only at hSw); go_simp; try with_reducible rfl)
            (try simp only [Act.put]); (try simp only [List.setIfInBounds_toArray]); (try simp only [List.set_cons_succ]); (try simp only [List.set_cons_zero])
            refine wpAnyH_take (i := 4) (oi := { dst := some 71, op := Op.move (Operand.tmp 5), type := 3, pos := "law.go:146", after := #[], guard := none }) (v := ?vk23) rfl (by kernel_rfl) (by kernel_rfl) (by kernel_rfl) (fun _ _ _ h => h) (Or.inl ⟨by rfl, ?hk23⟩) ⟨(HT.out.old ((Old.refl wr).drew)).hs, (SpIn.old HCe.out (HT.out.old ((Old.refl wr).drew)).u)⟩ ?rk23
            case hk23 => (intro wz hSw; (try dsimp only at hSw); go_simp; try with_reducible rfl)
            (try simp only [Act.put]); (try simp only [List.setIfInBounds_toArray]); (try simp only [List.set_cons_succ]); (try simp only [List.set_cons_zero])
            refine wpAnyH_take (i := 5) (oi := { dst := some 72, op := Op.indexAddr 23 (Operand.tmp 70) (Operand.tmp 71), type := 0, pos := "law.go:146", after := #[{ on := 3, ground := Ground.data }, { on := 4, ground := Ground.data }], guard := none }) (v := ?vk24) rfl (by kernel_rfl) (by kernel_rfl) (by kernel_rfl) (fun _ _ _ h => h) (Or.inl ⟨by rfl, ?hk24⟩) ⟨(HT.out.old ((Old.refl wr).drew)).hs, (SpIn.old HCe.out (HT.out.old ((Old.refl wr).drew)).u)⟩ ?rk24
            case hk24 => (intro wz hSw; (try dsimp only at hSw); go_simp; try with_reducible rfl)
            (try simp only [Act.put]); (try simp only [List.setIfInBounds_toArray]); (try simp only [List.set_cons_succ]); (try simp only [List.set_cons_zero])
            refine wpAnyH_take (i := 6) (oi := { dst := some 73, op := Op.load 48 (Operand.tmp 72), type := 48, pos := "law.go:146", after := #[{ on := 5, ground := Ground.data }], guard := none }) (v := ?vk25) rfl (by kernel_rfl) (by kernel_rfl) (by kernel_rfl) (fun _ _ _ h => h) (Or.inl ⟨by rfl, ?hk25⟩) ⟨(HT.out.old ((Old.refl wr).drew)).hs, (SpIn.old HCe.out (HT.out.old ((Old.refl wr).drew)).u)⟩ ?rk25
            case hk25 => (intro wz hSw; (try dsimp only at hSw); go_simp; try with_reducible rfl)
            (try simp only [Act.put]); (try simp only [List.setIfInBounds_toArray]); (try simp only [List.set_cons_succ]); (try simp only [List.set_cons_zero])
            refine wpAnyH_take (i := 7) (oi := { dst := some 74, op := Op.fieldAddr 25 (Operand.tmp 1) 4, type := 0, pos := "law.go:146", after := #[], guard := none }) (v := ?vk26) rfl (by kernel_rfl) (by kernel_rfl) (by kernel_rfl) (fun _ _ _ h => h) (Or.inl ⟨by rfl, ?hk26⟩) ⟨(HT.out.old ((Old.refl wr).drew)).hs, (SpIn.old HCe.out (HT.out.old ((Old.refl wr).drew)).u)⟩ ?rk26
            case hk26 => (intro wz hSw; (try dsimp only at hSw); go_simp; try with_reducible rfl)
            (try simp only [Act.put]); (try simp only [List.setIfInBounds_toArray]); (try simp only [List.set_cons_succ]); (try simp only [List.set_cons_zero])
            refine wpAnyH_take (i := 8) (oi := { dst := some 75, op := Op.load 23 (Operand.tmp 74), type := 23, pos := "law.go:146", after := #[{ on := 7, ground := Ground.data }], guard := none }) (v := ?vk27) rfl (by kernel_rfl) (by kernel_rfl) (by kernel_rfl) (fun _ _ _ h => h) (Or.inl ⟨by rfl, ?hk27⟩) ⟨(HT.out.old ((Old.refl wr).drew)).hs, (SpIn.old HCe.out (HT.out.old ((Old.refl wr).drew)).u)⟩ ?rk27
            case hk27 => (intro wz hSw; (try dsimp only at hSw); go_simp; try with_reducible rfl)
            (try simp only [Act.put]); (try simp only [List.setIfInBounds_toArray]); (try simp only [List.set_cons_succ]); (try simp only [List.set_cons_zero])
            refine wpAnyH_take (i := 9) (oi := { dst := some 76, op := Op.move (Operand.tmp 5), type := 3, pos := "law.go:146", after := #[], guard := none }) (v := ?vk28) rfl (by kernel_rfl) (by kernel_rfl) (by kernel_rfl) (fun _ _ _ h => h) (Or.inl ⟨by rfl, ?hk28⟩) ⟨(HT.out.old ((Old.refl wr).drew)).hs, (SpIn.old HCe.out (HT.out.old ((Old.refl wr).drew)).u)⟩ ?rk28
            case hk28 => (intro wz hSw; (try dsimp only at hSw); go_simp; try with_reducible rfl)
            (try simp only [Act.put]); (try simp only [List.setIfInBounds_toArray]); (try simp only [List.set_cons_succ]); (try simp only [List.set_cons_zero])
            refine wpAnyH_take (i := 10) (oi := { dst := some 77, op := Op.indexAddr 23 (Operand.tmp 75) (Operand.tmp 76), type := 0, pos := "law.go:146", after := #[{ on := 8, ground := Ground.data }, { on := 9, ground := Ground.data }], guard := none }) (v := ?vk29) rfl (by kernel_rfl) (by kernel_rfl) (by kernel_rfl) (fun _ _ _ h => h) (Or.inl ⟨by rfl, ?hk29⟩) ⟨(HT.out.old ((Old.refl wr).drew)).hs, (SpIn.old HCe.out (HT.out.old ((Old.refl wr).drew)).u)⟩ ?rk29
            case hk29 => (intro wz hSw; (try dsimp only at hSw); go_simp; try with_reducible rfl)
            (try simp only [Act.put]); (try simp only [List.setIfInBounds_toArray]); (try simp only [List.set_cons_succ]); (try simp only [List.set_cons_zero])
            refine wpAnyH_take (i := 11) (oi := { dst := some 78, op := Op.load 48 (Operand.tmp 77), type := 48, pos := "law.go:146", after := #[{ on := 10, ground := Ground.data }], guard := none }) (v := ?vk30) rfl (by kernel_rfl) (by kernel_rfl) (by kernel_rfl) (fun _ _ _ h => h) (Or.inl ⟨by rfl, ?hk30⟩) ⟨(HT.out.old ((Old.refl wr).drew)).hs, (SpIn.old HCe.out (HT.out.old ((Old.refl wr).drew)).u)⟩ ?rk30
            case hk30 => (intro wz hSw; (try dsimp only at hSw); go_simp; try with_reducible rfl)
            (try simp only [Act.put]); (try simp only [List.setIfInBounds_toArray]); (try simp only [List.set_cons_succ]); (try simp only [List.set_cons_zero])
            refine wpAnyH_ready (rs := [1, 12]) (by kernel_rfl) (by simp) ?_
            refine AllReadyH.cons (o := { dst := some 68, op := Op.load 23 (Operand.tmp 67), type := 23, pos := "law.go:146", after := #[{ on := 0, ground := Ground.data }], guard := none }) rfl (fun K hK => ?_) (AllReadyH.cons (o := { dst := some 79, op := Op.buildSlice 23 2 #[(0, Operand.tmp 73), (1, Operand.tmp 78)], type := 23, pos := "law.go:146", after := #[{ on := 6, ground := Ground.data }, { on := 11, ground := Ground.data }], guard := none }) rfl (fun K hK => ?_) AllReadyH.nil)
            · skip
              refine stepLoadSL ?_ (.tmp 67) ?_ tb 4 pv (tl f2 n2 k).length cv ?_ (HT.out.old ((Old.refl wr).drew)).ht.2.2.2.2.1 ?_
              · rfl
              · rfl
              · rfl
              refine hK.out _ _ ⟨(HT.out.old ((Old.refl wr).drew)).hs, (SpIn.old HCe.out (HT.out.old ((Old.refl wr).drew)).u)⟩ (fun _ => ?_)
              clear hK K
              (try simp only [Act.put]); (try simp only [List.setIfInBounds_toArray]); (try simp only [List.set_cons_succ]); (try simp only [List.set_cons_zero])
              refine wpAnyH_ready (rs := [12]) (by kernel_rfl) (by simp) ?_
              refine AllReadyH.cons (o := { dst := some 79, op := Op.buildSlice 23 2 #[(0, Operand.tmp 73), (1, Operand.tmp 78)], type := 23, pos := "law.go:146", after := #[{ on := 6, ground := Ground.data }, { on := 11, ground := Ground.data }], guard := none }) rfl (fun K hK => ?_) AllReadyH.nil
              · skip
                refine stepBuild2S ?_ (.tmp 73) (.tmp 78) ?_ (f2 j) (f2 j) ?_ ?_ ?_
                · rfl
                · rfl
                · rfl
                · rfl
                intro m31 y31 hm31 hy31
                have R31 : SpIn y31 m31 0 (f2 j) ∧ SpIn y31 m31 4 (f2 j) := cells2S hm31 hy31
                have V31 := old_alloc hy31
                have Y31 : wr.heap.size ≤ y31.heap.size := V31.size
                have T31 := (HT.out.old ((Old.refl wr).drew)).old V31
                have O31 := (HO.out.old ((Old.refl wr).drew)).old V31
                have A31 := (HA.out.up ((Old.refl wr).drew)).up V31
                clear hm31 hy31 V31
                refine hK.out _ _ ⟨T31.hs, (SpIn.old HCe.out T31.u)⟩ (fun _ => ?_)
                clear hK K
                (try simp only [Act.put]); (try simp only [List.setIfInBounds_toArray]); (try simp only [List.set_cons_succ]); (try simp only [List.set_cons_zero])
                refine wpAnyH_ready (rs := [13]) (by kernel_rfl) (by simp) ?_
                refine AllReadyH.cons (o := { dst := some 80, op := Op.call { callee := Callee.builtin Builtin.append, args := #[Operand.tmp 68, Operand.tmp 79], argTypes := #[23, 23] }, type := 23, pos := "law.go:146", after := #[{ on := 1, ground := Ground.data }, { on := 12, ground := Ground.data }], guard := none }) rfl (fun K hK => ?_) AllReadyH.nil
                · skip
                  refine step_appS2 ?_ (.tmp 68) (.tmp 79) ?_ B2 _ (tl f2 n2 k) m31 (f2 j) (f2 j) ?_ ?_ O31 R31 (by rw [tl_len]; have := HNn.out; omega) (by have := T31.z; have := HBz.out; have := Y31; omega) ?_
                  · rfl
                  · rfl
                  · rfl
                  · rfl
                  intro v32 y32 o32 g32
                  have T32 := T31.grown g32 (fun i e => by have := (World.ownsRow.lt O31 i e).1; have := HTb.out; omega)
                  have Z32 := g32.size
                  have A32 := World.ownsRow.kept A31 g32 (Classical.byCases (fun e => .inl e) fun e => .inr fun e2 => by obtain ⟨i, hi⟩ := Option.ne_none_iff_exists'.1 e; have := HL1.out i hi; have := (World.ownsRow.lt O31 i (by rw [← e2]; exact hi)).1; omega)
                  rw [tl_step f2 n2 k j HJ.out] at o32
                  obtain ⟨pn, cn, en⟩ := OwnS.len o32
                  subst en
                  refine hK.out _ _ ⟨T32.hs, (SpIn.old HCe.out T32.u)⟩ (fun _ => ?_)
                  clear hK K
                  (try simp only [Act.put]); (try simp only [List.setIfInBounds_toArray]); (try simp only [List.set_cons_succ]); (try simp only [List.set_cons_zero])
                  refine wpAnyH_take (i := 14) (oi := { dst := some 81, op := Op.fieldAddr 25 (Operand.tmp 3) 4, type := 0, pos := "law.go:146", after := #[{ on := 0, ground := Ground.phase }, { on := 1, ground := Ground.phase }, { on := 2, ground := Ground.phase }, { on := 3, ground := Ground.phase }, { on := 4, ground := Ground.phase }, { on := 5, ground := Ground.phase }, { on := 6, ground := Ground.phase }, { on := 7, ground := Ground.phase }, { on := 8, ground := Ground.phase }, { on := 9, ground := Ground.phase }, { on := 10, ground := Ground.phase }, { on := 11, ground := Ground.phase }, { on := 12, ground := Ground.phase }, { on := 13, ground := Ground.phase }], guard := none }) (v := ?vk33) rfl (by kernel_rfl) (by kernel_rfl) (by kernel_rfl) (fun _ _ _ h => h) (Or.inl ⟨by rfl, ?hk33⟩) ⟨T32.hs, (SpIn.old HCe.out T32.u)⟩ ?rk33
                  case hk33 => (intro wz hSw; (try dsimp only at hSw); go_simp; try with_reducible rfl)
                  (try simp only [Act.put]); (try simp only [List.setIfInBounds_toArray]); (try simp only [List.set_cons_succ]); (try simp only [List.set_cons_zero])
                  refine wpAnyH_ready (rs := [15]) (by kernel_rfl) (by simp) ?_
                  refine AllReadyH.cons (o := { dst := none, op := Op.store 23 (Operand.tmp 81) (Operand.tmp 80), type := 0, pos := "law.go:146", after := #[{ on := 14, ground := Ground.data }, { on := 13, ground := Ground.data }, { on := 13, ground := Ground.chain }, { on := 0, ground := Ground.phase }, { on := 1, ground := Ground.phase }, { on := 2, ground := Ground.phase }, { on := 3, ground := Ground.phase }, { on := 4, ground := Ground.phase }, { on := 5, ground := Ground.phase }, { on := 6, ground := Ground.phase }, { on := 7, ground := Ground.phase }, { on := 8, ground := Ground.phase }, { on := 9, ground := Ground.phase }, { on := 10, ground := Ground.phase }, { on := 11, ground := Ground.phase }, { on := 12, ground := Ground.phase }, { on := 13, ground := Ground.phase }], guard := none }) rfl (fun K hK => ?_) AllReadyH.nil
                  · skip
                    refine stepStoreSL ?_ (.tmp 81) (.tmp 80) ?_ tb 4 pn (tl f2 n2 (k + 1)).length cn ?_ ?_ T32.th.t4 ?_
                    · rfl
                    · rfl
                    · rfl
                    · rfl
                    have T34 := (T32.set (.slice pn (tl f2 n2 (k + 1)).length cn)).2.1
                    have O34 := ownsRow_setCell_below o32 (a := ⟨tb, 4, none⟩) (by show tb < _; have := HTb.out; omega) (.slice pn (tl f2 n2 (k + 1)).length cn)
                    have A34 := ownsRow_setCell_below A32 (a := ⟨tb, 4, none⟩) (by show tb < _; have := HTb.out; have := HB2.out; omega) (.slice pn (tl f2 n2 (k + 1)).length cn)
                    refine hK.out _ _ ⟨T34.hs, (SpIn.old HCe.out T34.u)⟩ (fun _ => ?_)
                    clear hK K
                    (try simp only [Act.put]); (try simp only [List.setIfInBounds_toArray]); (try simp only [List.set_cons_succ]); (try simp only [List.set_cons_zero])
                    refine wpAnyH_done (by kernel_rfl) ?_ _
                    refine NoPanic.normal ?_
                    have TE := hid T34
                    have OE := hid (show OwnS _ _ _ _ from O34)
                    have AE := hid A34
                    go_wp2
                    go_roundw
                    case rel => exact ⟨k + 1, (j : Int) - 1, _, hlt, by have := HZj.out; omega, by go_num, TE.out, OE.out, AE.out, (by have := TE.out.z; first | omega | exact Nat.le_trans HZr.out (Nat.le_trans Y31 (by simpa using Z32)))⟩
                    case measure => (simp [intOf])
            · skip
              refine stepBuild2S ?_ (.tmp 73) (.tmp 78) ?_ (f2 j) (f2 j) ?_ ?_ ?_
              · rfl
              · rfl
              · rfl
              · rfl
              intro m35 y35 hm35 hy35
              have R35 : SpIn y35 m35 0 (f2 j) ∧ SpIn y35 m35 4 (f2 j) := cells2S hm35 hy35
              have V35 := old_alloc hy35
              have Y35 : wr.heap.size ≤ y35.heap.size := V35.size
              have T35 := (HT.out.old ((Old.refl wr).drew)).old V35
              have O35 := (HO.out.old ((Old.refl wr).drew)).old V35
              have A35 := (HA.out.up ((Old.refl wr).drew)).up V35
              clear hm35 hy35 V35
              refine hK.out _ _ ⟨T35.hs, (SpIn.old HCe.out T35.u)⟩ (fun _ => ?_)
              clear hK K
              (try simp only [Act.put]); (try simp only [List.setIfInBounds_toArray]); (try simp only [List.set_cons_succ]); (try simp only [List.set_cons_zero])
              refine wpAnyH_ready (rs := [1]) (by kernel_rfl) (by simp) ?_
              refine AllReadyH.cons (o := { dst := some 68, op := Op.load 23 (Operand.tmp 67), type := 23, pos := "law.go:146", after := #[{ on := 0, ground := Ground.data }], guard := none }) rfl (fun K hK => ?_) AllReadyH.nil
              · skip
                refine stepLoadSL ?_ (.tmp 67) ?_ tb 4 pv (tl f2 n2 k).length cv ?_ T35.ht.2.2.2.2.1 ?_
                · rfl
                · rfl
                · rfl
                refine hK.out _ _ ⟨T35.hs, (SpIn.old HCe.out T35.u)⟩ (fun _ => ?_)
                clear hK K
                (try simp only [Act.put]); (try simp only [List.setIfInBounds_toArray]); (try simp only [List.set_cons_succ]); (try simp only [List.set_cons_zero])
                refine wpAnyH_ready (rs := [13]) (by kernel_rfl) (by simp) ?_
                refine AllReadyH.cons (o := { dst := some 80, op := Op.call { callee := Callee.builtin Builtin.append, args := #[Operand.tmp 68, Operand.tmp 79], argTypes := #[23, 23] }, type := 23, pos := "law.go:146", after := #[{ on := 1, ground := Ground.data }, { on := 12, ground := Ground.data }], guard := none }) rfl (fun K hK => ?_) AllReadyH.nil
                · skip
                  refine step_appS2 ?_ (.tmp 68) (.tmp 79) ?_ B2 _ (tl f2 n2 k) m35 (f2 j) (f2 j) ?_ ?_ O35 R35 (by rw [tl_len]; have := HNn.out; omega) (by have := T35.z; have := HBz.out; have := Y35; omega) ?_
                  · rfl
                  · rfl
                  · rfl
                  · rfl
                  intro v36 y36 o36 g36
                  have T36 := T35.grown g36 (fun i e => by have := (World.ownsRow.lt O35 i e).1; have := HTb.out; omega)
                  have Z36 := g36.size
                  have A36 := World.ownsRow.kept A35 g36 (Classical.byCases (fun e => .inl e) fun e => .inr fun e2 => by obtain ⟨i, hi⟩ := Option.ne_none_iff_exists'.1 e; have := HL1.out i hi; have := (World.ownsRow.lt O35 i (by rw [← e2]; exact hi)).1; omega)
                  rw [tl_step f2 n2 k j HJ.out] at o36
                  obtain ⟨pn, cn, en⟩ := OwnS.len o36
                  subst en
                  refine hK.out _ _ ⟨T36.hs, (SpIn.old HCe.out T36.u)⟩ (fun _ => ?_)
                  clear hK K
                  (try simp only [Act.put]); (try simp only [List.setIfInBounds_toArray]); (try simp only [List.set_cons_succ]); (try simp only [List.set_cons_zero])
                  refine wpAnyH_take (i := 14) (oi := { dst := some 81, op := Op.fieldAddr 25 (Operand.tmp 3) 4, type := 0, pos := "law.go:146", after := #[{ on := 0, ground := Ground.phase }, { on := 1, ground := Ground.phase }, { on := 2, ground := Ground.phase }, { on := 3, ground := Ground.phase }, { on := 4, ground := Ground.phase }, { on := 5, ground := Ground.phase }, { on := 6, ground := Ground.phase }, { on := 7, ground := Ground.phase }, { on := 8, ground := Ground.phase }, { on := 9, ground := Ground.phase }, { on := 10, ground := Ground.phase }, { on := 11, ground := Ground.phase }, { on := 12, ground := Ground.phase }, { on := 13, ground := Ground.phase }], guard := none }) (v := ?vk37) rfl (by kernel_rfl) (by kernel_rfl) (by kernel_rfl) (fun _ _ _ h => h) (Or.inl ⟨by rfl, ?hk37⟩) ⟨T36.hs, (SpIn.old HCe.out T36.u)⟩ ?rk37
                  case hk37 => (intro wz hSw; (try dsimp only at hSw); go_simp; try with_reducible rfl)
                  (try simp only [Act.put]); (try simp only [List.setIfInBounds_toArray]); (try simp only [List.set_cons_succ]); (try simp only [List.set_cons_zero])
                  refine wpAnyH_ready (rs := [15]) (by kernel_rfl) (by simp) ?_
                  refine AllReadyH.cons (o := { dst := none, op := Op.store 23 (Operand.tmp 81) (Operand.tmp 80), type := 0, pos := "law.go:146", after := #[{ on := 14, ground := Ground.data }, { on := 13, ground := Ground.data }, { on := 13, ground := Ground.chain }, { on := 0, ground := Ground.phase }, { on := 1, ground := Ground.phase }, { on := 2, ground := Ground.phase }, { on := 3, ground := Ground.phase }, { on := 4, ground := Ground.phase }, { on := 5, ground := Ground.phase }, { on := 6, ground := Ground.phase }, { on := 7, ground := Ground.phase }, { on := 8, ground := Ground.phase }, { on := 9, ground := Ground.phase }, { on := 10, ground := Ground.phase }, { on := 11, ground := Ground.phase }, { on := 12, ground := Ground.phase }, { on := 13, ground := Ground.phase }], guard := none }) rfl (fun K hK => ?_) AllReadyH.nil
                  · skip
                    refine stepStoreSL ?_ (.tmp 81) (.tmp 80) ?_ tb 4 pn (tl f2 n2 (k + 1)).length cn ?_ ?_ T36.th.t4 ?_
                    · rfl
                    · rfl
                    · rfl
                    · rfl
                    have T38 := (T36.set (.slice pn (tl f2 n2 (k + 1)).length cn)).2.1
                    have O38 := ownsRow_setCell_below o36 (a := ⟨tb, 4, none⟩) (by show tb < _; have := HTb.out; omega) (.slice pn (tl f2 n2 (k + 1)).length cn)
                    have A38 := ownsRow_setCell_below A36 (a := ⟨tb, 4, none⟩) (by show tb < _; have := HTb.out; have := HB2.out; omega) (.slice pn (tl f2 n2 (k + 1)).length cn)
                    refine hK.out _ _ ⟨T38.hs, (SpIn.old HCe.out T38.u)⟩ (fun _ => ?_)
                    clear hK K
                    (try simp only [Act.put]); (try simp only [List.setIfInBounds_toArray]); (try simp only [List.set_cons_succ]); (try simp only [List.set_cons_zero])
                    refine wpAnyH_done (by kernel_rfl) ?_ _
                    refine NoPanic.normal ?_
                    have TE := hid T38
                    have OE := hid (show OwnS _ _ _ _ from O38)
                    have AE := hid A38
                    go_wp2
                    go_roundw
                    case rel => exact ⟨k + 1, (j : Int) - 1, _, hlt, by have := HZj.out; omega, by go_num, TE.out, OE.out, AE.out, (by have := TE.out.z; first | omega | exact Nat.le_trans HZr.out (Nat.le_trans Y35 (by simpa using Z36)))⟩
                    case measure => (simp [intOf])
          · obtain rfl : n2 = k := by omega
            obtain rfl : z = -1 := by omega
            clear hz hk hlt
            generalize hV2 : Value.slice pv (tl f2 n2 n2).length cv = V2 at *
            have HV2 := hid hV2.symm
            clear hV2
            obtain ⟨B3, hB3⟩ : ∃ B3, B3 = wr.heap.size := ⟨_, rfl⟩
            have HL2 := hid (show ∀ g, V2.ownBlock = some g → g < B3 from fun g e => by rw [hB3]; exact (World.ownsRow.lt HO.out g e).2)
            have HL1' := hid (show ∀ g, V1.ownBlock = some g → g < B3 from fun g e => by have := HL1.out g e; have := HZr.out; omega)
            have HB3 := hid (show B2 ≤ B3 by have := HZr.out; omega)
            have HT0 := hid HT.out
            have HA0 := hid HA.out
            have HC0 := hid HO.out
            have HZ0 := hid (show B3 ≤ wr.heap.size by omega)
            clear HT HO HA HZr hB3 t0 t1 t2 t3 t4 t5 HL1
            have HL1 := HL1'
            clear HL1'
            obtain ⟨t0, t1, t2, t3, t4, t5⟩ := HT0.out.hs
            have l4 : (n3 : Int) ≤ 60 := by have := HSm.out; omega
            have HB2b := hid (show tb + 1 ≤ B3 by have := HB2.out; have := HB3.out; omega)
            go_wp2
            go_loopw [6] (fun i wr => ∃ (k : Nat) (z : Int) (v : Value), k ≤ n3 ∧ z = (n3 : Int) - 1 - k ∧ i = .int .i64 z ∧ TBx w sb tb s1 s2 s3 (.slice a1 n1 c1) (.slice a2 n2 c2) (.slice a3 n3 c3) V1 V2 v wr ∧ OwnF B3 wr v (tl x3 n3 k) ∧ OwnF (tb + 1) wr V1 (tl x1 n1 n1) ∧ OwnS B2 wr V2 (tl f2 n2 n2) ∧ B3 ≤ wr.heap.size) (fun i _ => (intOf i + 1).toNat)
            case atStart => exact ⟨0, (n3 : Int) - 1, (.slice none 0 0), Nat.zero_le _, by omega, by go_num, HT0.out, World.ownsRow_nil _ _ _ _, HA0.out, HC0.out, HZ0.out⟩
            case round =>
              obtain ⟨k, z, v, hk, hz, rfl, hT, hO, hA, hC, hZr⟩ := hrel
              have HT := hid hT
              have HO := hid hO
              have HA := hid hA
              have HZr := hid hZr
              have HCc := hid hC
              clear hT hO hA hZr hC HT0 HA0 HZ0 HC0
              obtain ⟨pv, cv, ev⟩ := OwnF.len HO.out
              subst ev
              by_cases hlt : k < n3
              · obtain ⟨j, rfl⟩ : ∃ j : Nat, z = j := ⟨n3 - 1 - k, by omega⟩
                have hj : j = n3 - 1 - k := by omega
                have hjn : j < n3 := by omega
                have HJ := hid hj
                have HZj := hid hz
                clear hj hz
                obtain ⟨_, qa, qc, hv, hcx⟩ := HF3.out
                simp only [Value.slice.injEq] at hv
                obtain ⟨rfl, _, rfl⟩ := hv
                obtain ⟨b, off, ha, hWa, z0⟩ := hcx j hjn
                subst ha
                have HCe := hid z0
                have l1 : (0 : Int) ≤ (j : Int) := by omega
                have l2 : (j : Int) < (n3 : Int) := by omega
                have l3 : (n3 : Int) ≤ 60 := by have := HSm.out; omega
                have HNn := hid (show k ≤ 60 by have := HSm.out; omega)
                have HTb := hid (show tb < B3 by have := HB2b.out; omega)
                have HBz := hid (show B3 ≤ wr.heap.size from HZr.out)
                clear hcx z0
                go_upto_region 17 with fail
                refine wp_region_noPanic ?_
                refine wp_region_held_drew (S := fun wz => SubAt sb s1 s2 s3 (.slice a1 n1 c1) (.slice a2 n2 c2) (.slice (some ⟨b, off, none⟩) n3 c3) wz ∧ wz.cell? ⟨b, off + j, none⟩ = some (.float .f64 (x3 j))) (by kernel_rfl) ?_ (fun hHeld => ?_)
                · exact ⟨(HT.out.old ((Old.refl wr).drew)).hs, (HT.out.old ((Old.refl wr).drew)).u.keep HCe.out⟩
                (try simp only [Act.put]); (try simp only [List.setIfInBounds_toArray]); (try simp only [List.set_cons_succ]); (try simp only [List.set_cons_zero])
                clear hHeld
                refine wpAnyH_take (i := 0) (oi := { dst := some 90, op := Op.fieldAddr 25 (Operand.tmp 3) 5, type := 0, pos := "law.go:149", after := #[], guard := none }) (v := ?vk39) rfl (by kernel_rfl) (by kernel_rfl) (by kernel_rfl) (fun _ _ _ h => h) (Or.inl ⟨by rfl, ?hk39⟩) ⟨(HT.out.old ((Old.refl wr).drew)).hs, (HT.out.old ((Old.refl wr).drew)).u.keep HCe.out⟩ ?rk39
                case hk39 => (intro wz hSw; (try dsimp only at hSw); go_simp; try with_reducible rfl)
                (try simp only [Act.put]); (try simp only [List.setIfInBounds_toArray]); (try simp only [List.set_cons_succ]); (try simp only [List.set_cons_zero])
                refine wpAnyH_take (i := 2) (oi := { dst := some 92, op := Op.fieldAddr 25 (Operand.tmp 1) 5, type := 0, pos := "law.go:149", after := #[], guard := none }) (v := ?vk40) rfl (by kernel_rfl) (by kernel_rfl) (by kernel_rfl) (fun _ _ _ h => h) (Or.inl ⟨by rfl, ?hk40⟩) ⟨(HT.out.old ((Old.refl wr).drew)).hs, (HT.out.old ((Old.refl wr).drew)).u.keep HCe.out⟩ ?rk40
                case hk40 => (intro wz hSw; (try dsimp only at hSw); go_simp; try with_reducible rfl)
                (try simp only [Act.put]); (try simp only [List.setIfInBounds_toArray]); (try simp only [List.set_cons_succ]); (try simp only [List.set_cons_zero])
                refine wpAnyH_take (i := 3) (oi := { dst := some 93, op := Op.load 22 (Operand.tmp 92), type := 22, pos := "law.go:149", after := #[{ on := 2, ground := Ground.data }], guard := none }) (v := ?vk41) rfl (by kernel_rfl) (by kernel_rfl) (by kernel_rfl) (fun _ _ _ h => h) (Or.inl ⟨by rfl, ?hk41⟩) ⟨(HT.out.old ((Old.refl wr).drew)).hs, (HT.out.old ((Old.refl wr).drew)).u.keep HCe.out⟩ ?rk41
                case hk41 => (intro wz hSw; (try dsimp only at hSw); go_simp; try with_reducible rfl)
                (try simp only [Act.put]); (try simp only [List.setIfInBounds_toArray]); (try simp only [List.set_cons_succ]); (try simp only [List.set_cons_zero])
                refine wpAnyH_take (i := 4) (oi := { dst := some 94, op := Op.move (Operand.tmp 6), type := 3, pos := "law.go:149", after := #[], guard := none }) (v := ?vk42) rfl (by kernel_rfl) (by kernel_rfl) (by kernel_rfl) (fun _ _ _ h => h) (Or.inl ⟨by rfl, ?hk42⟩) ⟨(HT.out.old ((Old.refl wr).drew)).hs, (HT.out.old ((Old.refl wr).drew)).u.keep HCe.out⟩ ?rk42
                case hk42 => (intro wz hSw; (try dsimp only at hSw); go_simp; try with_reducible rfl)
                (try simp only [Act.put]); (try simp only [List.setIfInBounds_toArray]); (try simp only [List.set_cons_succ]); (try simp only [List.set_cons_zero])
                refine wpAnyH_take (i := 5) (oi := { dst := some 95, op := Op.indexAddr 22 (Operand.tmp 93) (Operand.tmp 94), type := 0, pos := "law.go:149", after := #[{ on := 3, ground := Ground.data }, { on := 4, ground := Ground.data }], guard := none }) (v := ?vk43) rfl (by kernel_rfl) (by kernel_rfl) (by kernel_rfl) (fun _ _ _ h => h) (Or.inl ⟨by rfl, ?hk43⟩) ⟨(HT.out.old ((Old.refl wr).drew)).hs, (HT.out.old ((Old.refl wr).drew)).u.keep HCe.out⟩ ?rk43
                case hk43 => (intro wz hSw; (try dsimp only at hSw); go_simp; try with_reducible rfl)
                (try simp only [Act.put]); (try simp only [List.setIfInBounds_toArray]); (try simp only [List.set_cons_succ]); (try simp only [List.set_cons_zero])
                refine wpAnyH_take (i := 6) (oi := { dst := some 96, op := Op.load 43 (Operand.tmp 95), type := 43, pos := "law.go:149", after := #[{ on := 5, ground := Ground.data }], guard := none }) (v := ?vk44) rfl (by kernel_rfl) (by kernel_rfl) (by kernel_rfl) (fun _ _ _ h => h) (Or.inl ⟨by rfl, ?hk44⟩) ⟨(HT.out.old ((Old.refl wr).drew)).hs, (HT.out.old ((Old.refl wr).drew)).u.keep HCe.out⟩ ?rk44
                case hk44 => (intro wz hSw; (try dsimp only at hSw); go_simp; try with_reducible rfl)
                (try simp only [Act.put]); (try simp only [List.setIfInBounds_toArray]); (try simp only [List.set_cons_succ]); (try simp only [List.set_cons_zero])
                refine wpAnyH_take (i := 7) (oi := { dst := some 97, op := Op.fieldAddr 25 (Operand.tmp 1) 5, type := 0, pos := "law.go:149", after := #[], guard := none }) (v := ?vk45) rfl (by kernel_rfl) (by kernel_rfl) (by kernel_rfl) (fun _ _ _ h => h) (Or.inl ⟨by rfl, ?hk45⟩) ⟨(HT.out.old ((Old.refl wr).drew)).hs, (HT.out.old ((Old.refl wr).drew)).u.keep HCe.out⟩ ?rk45
                case hk45 => (intro wz hSw; (try dsimp only at hSw); go_simp; try with_reducible rfl)
                (try simp only [Act.put]); (try simp only [List.setIfInBounds_toArray]); (try simp only [List.set_cons_succ]); (try simp only [List.set_cons_zero])
                refine wpAnyH_take (i := 8) (oi := { dst := some 98, op := Op.load 22 (Operand.tmp 97), type := 22, pos := "law.go:149", after := #[{ on := 7, ground := Ground.data }], guard := none }) (v := ?vk46) rfl (by kernel_rfl) (by kernel_rfl) (by kernel_rfl) (fun _ _ _ h => h) (Or.inl ⟨by rfl, ?hk46⟩) ⟨(HT.out.old ((Old.refl wr).drew)).hs, (HT.out.old ((Old.refl wr).drew)).u.keep HCe.out⟩ ?rk46
                case hk46 => (intro wz hSw; (try dsimp only at hSw); go_simp; try with_reducible rfl)
                (try simp only [Act.put]); (try simp only [List.setIfInBounds_toArray]); (try simp only [List.set_cons_succ]); (try simp only [List.set_cons_zero])
                refine wpAnyH_take (i := 9) (oi := { dst := some 99, op := Op.move (Operand.tmp 6), type := 3, pos := "law.go:149", after := #[], guard := none }) (v := ?vk47) rfl (by kernel_rfl) (by kernel_rfl) (by kernel_rfl) (fun _ _ _ h => h) (Or.inl ⟨by rfl, ?hk47⟩) ⟨(HT.out.old ((Old.refl wr).drew)).hs, (HT.out.old ((Old.refl wr).drew)).u.keep HCe.out⟩ ?rk47
                case hk47 => (intro wz hSw; (try dsimp only at hSw); go_simp; try with_reducible rfl)
                (try simp only [Act.put]); (try simp only [List.setIfInBounds_toArray]); (try simp only [List.set_cons_succ]); (try simp only [List.set_cons_zero])
                refine wpAnyH_take (i := 10) (oi := { dst := some 100, op := Op.indexAddr 22 (Operand.tmp 98) (Operand.tmp 99), type := 0, pos := "law.go:149", after := #[{ on := 8, ground := Ground.data }, { on := 9, ground := Ground.data }], guard := none }) (v := ?vk48) rfl (by kernel_rfl) (by kernel_rfl) (by kernel_rfl) (fun _ _ _ h => h) (Or.inl ⟨by rfl, ?hk48⟩) ⟨(HT.out.old ((Old.refl wr).drew)).hs, (HT.out.old ((Old.refl wr).drew)).u.keep HCe.out⟩ ?rk48
                case hk48 => (intro wz hSw; (try dsimp only at hSw); go_simp; try with_reducible rfl)
                (try simp only [Act.put]); (try simp only [List.setIfInBounds_toArray]); (try simp only [List.set_cons_succ]); (try simp only [List.set_cons_zero])
                refine wpAnyH_take (i := 11) (oi := { dst := some 101, op := Op.load 43 (Operand.tmp 100), type := 43, pos := "law.go:149", after := #[{ on := 10, ground := Ground.data }], guard := none }) (v := ?vk49) rfl (by kernel_rfl) (by kernel_rfl) (by kernel_rfl) (fun _ _ _ h => h) (Or.inl ⟨by rfl, ?hk49⟩) ⟨(HT.out.old ((Old.refl wr).drew)).hs, (HT.out.old ((Old.refl wr).drew)).u.keep HCe.out⟩ ?rk49
                case hk49 => (intro wz hSw; (try dsimp only at hSw); go_simp; try with_reducible rfl)
                (try simp only [Act.put]); (try simp only [List.setIfInBounds_toArray]); (try simp only [List.set_cons_succ]); (try simp only [List.set_cons_zero])
                refine wpAnyH_ready (rs := [1, 12]) (by kernel_rfl) (by simp) ?_
                refine AllReadyH.cons (o := { dst := some 91, op := Op.load 22 (Operand.tmp 90), type := 22, pos := "law.go:149", after := #[{ on := 0, ground := Ground.data }], guard := none }) rfl (fun K hK => ?_) (AllReadyH.cons (o := { dst := some 102, op := Op.buildSlice 22 2 #[(0, Operand.tmp 96), (1, Operand.tmp 101)], type := 22, pos := "law.go:149", after := #[{ on := 6, ground := Ground.data }, { on := 11, ground := Ground.data }], guard := none }) rfl (fun K hK => ?_) AllReadyH.nil)
                · skip
                  refine stepLoadFL ?_ (.tmp 90) ?_ tb 5 pv (tl x3 n3 k).length cv ?_ (HT.out.old ((Old.refl wr).drew)).ht.2.2.2.2.2 ?_
                  · rfl
                  · rfl
                  · rfl
                  refine hK.out _ _ ⟨(HT.out.old ((Old.refl wr).drew)).hs, (HT.out.old ((Old.refl wr).drew)).u.keep HCe.out⟩ (fun _ => ?_)
                  clear hK K
                  (try simp only [Act.put]); (try simp only [List.setIfInBounds_toArray]); (try simp only [List.set_cons_succ]); (try simp only [List.set_cons_zero])
                  refine wpAnyH_ready (rs := [12]) (by kernel_rfl) (by simp) ?_
                  refine AllReadyH.cons (o := { dst := some 102, op := Op.buildSlice 22 2 #[(0, Operand.tmp 96), (1, Operand.tmp 101)], type := 22, pos := "law.go:149", after := #[{ on := 6, ground := Ground.data }, { on := 11, ground := Ground.data }], guard := none }) rfl (fun K hK => ?_) AllReadyH.nil
                  · skip
                    refine stepBuild2F ?_ (.tmp 96) (.tmp 101) ?_ (x3 j) (x3 j) ?_ ?_ ?_
                    · rfl
                    · rfl
                    · rfl
                    · rfl
                    intro m50 y50 hm50 hy50
                    have R50 : y50.cell? ⟨m50, 0, none⟩ = some (.float .f64 (x3 j)) ∧ y50.cell? ⟨m50, 1, none⟩ = some (.float .f64 (x3 j)) := cells2F hm50 hy50
                    have V50 := old_alloc hy50
                    have Y50 : wr.heap.size ≤ y50.heap.size := V50.size
                    have T50 := (HT.out.old ((Old.refl wr).drew)).old V50
                    have O50 := (HO.out.up ((Old.refl wr).drew)).up V50
                    have A50 := (HA.out.up ((Old.refl wr).drew)).up V50
                    have C50 := (HCc.out.old ((Old.refl wr).drew)).old V50
                    clear hm50 hy50 V50
                    refine hK.out _ _ ⟨T50.hs, T50.u.keep HCe.out⟩ (fun _ => ?_)
                    clear hK K
                    (try simp only [Act.put]); (try simp only [List.setIfInBounds_toArray]); (try simp only [List.set_cons_succ]); (try simp only [List.set_cons_zero])
                    refine wpAnyH_ready (rs := [13]) (by kernel_rfl) (by simp) ?_
                    refine AllReadyH.cons (o := { dst := some 103, op := Op.call { callee := Callee.builtin Builtin.append, args := #[Operand.tmp 91, Operand.tmp 102], argTypes := #[22, 22] }, type := 22, pos := "law.go:149", after := #[{ on := 1, ground := Ground.data }, { on := 12, ground := Ground.data }], guard := none }) rfl (fun K hK => ?_) AllReadyH.nil
                    · skip
                      refine step_appF2 ?_ (.tmp 91) (.tmp 102) ?_ B3 _ (tl x3 n3 k) m50 (x3 j) (x3 j) ?_ ?_ O50 R50 (by rw [tl_len]; have := HNn.out; omega) (by have := T50.z; have := HBz.out; have := Y50; omega) ?_
                      · rfl
                      · rfl
                      · rfl
                      · rfl
                      intro v51 y51 o51 g51
                      have T51 := T50.grown g51 (fun i e => by have := (World.ownsRow.lt O50 i e).1; have := HTb.out; omega)
                      have Z51 := g51.size
                      have A51 := World.ownsRow.kept A50 g51 (Classical.byCases (fun e => .inl e) fun e => .inr fun e2 => by obtain ⟨i, hi⟩ := Option.ne_none_iff_exists'.1 e; have := HL1.out i hi; have := (World.ownsRow.lt O50 i (by rw [← e2]; exact hi)).1; omega)
                      have C51 := World.ownsRow.kept C50 g51 (Classical.byCases (fun e => .inl e) fun e => .inr fun e2 => by obtain ⟨i, hi⟩ := Option.ne_none_iff_exists'.1 e; have := HL2.out i hi; have := (World.ownsRow.lt O50 i (by rw [← e2]; exact hi)).1; omega)
                      rw [tl_step x3 n3 k j HJ.out] at o51
                      obtain ⟨pn, cn, en⟩ := OwnF.len o51
                      subst en
                      refine hK.out _ _ ⟨T51.hs, T51.u.keep HCe.out⟩ (fun _ => ?_)
                      clear hK K
                      (try simp only [Act.put]); (try simp only [List.setIfInBounds_toArray]); (try simp only [List.set_cons_succ]); (try simp only [List.set_cons_zero])
                      refine wpAnyH_take (i := 14) (oi := { dst := some 104, op := Op.fieldAddr 25 (Operand.tmp 3) 5, type := 0, pos := "law.go:149", after := #[{ on := 0, ground := Ground.phase }, { on := 1, ground := Ground.phase }, { on := 2, ground := Ground.phase }, { on := 3, ground := Ground.phase }, { on := 4, ground := Ground.phase }, { on := 5, ground := Ground.phase }, { on := 6, ground := Ground.phase }, { on := 7, ground := Ground.phase }, { on := 8, ground := Ground.phase }, { on := 9, ground := Ground.phase }, { on := 10, ground := Ground.phase }, { on := 11, ground := Ground.phase }, { on := 12, ground := Ground.phase }, { on := 13, ground := Ground.phase }], guard := none }) (v := ?vk52) rfl (by kernel_rfl) (by kernel_rfl) (by kernel_rfl) (fun _ _ _ h => h) (Or.inl ⟨by rfl, ?hk52⟩) ⟨T51.hs, T51.u.keep HCe.out⟩ ?rk52
                      case hk52 => (intro wz hSw; (try dsimp only at hSw); go_simp; try with_reducible rfl)
                      (try simp only [Act.put]); (try simp only [List.setIfInBounds_toArray]); (try simp only [List.set_cons_succ]); (try simp only [List.set_cons_zero])
                      refine wpAnyH_ready (rs := [15]) (by kernel_rfl) (by simp) ?_
                      refine AllReadyH.cons (o := { dst := none, op := Op.store 22 (Operand.tmp 104) (Operand.tmp 103), type := 0, pos := "law.go:149", after := #[{ on := 14, ground := Ground.data }, { on := 13, ground := Ground.data }, { on := 13, ground := Ground.chain }, { on := 0, ground := Ground.phase }, { on := 1, ground := Ground.phase }, { on := 2, ground := Ground.phase }, { on := 3, ground := Ground.phase }, { on := 4, ground := Ground.phase }, { on := 5, ground := Ground.phase }, { on := 6, ground := Ground.phase }, { on := 7, ground := Ground.phase }, { on := 8, ground := Ground.phase }, { on := 9, ground := Ground.phase }, { on := 10, ground := Ground.phase }, { on := 11, ground := Ground.phase }, { on := 12, ground := Ground.phase }, { on := 13, ground := Ground.phase }], guard := none }) rfl (fun K hK => ?_) AllReadyH.nil
                      · skip
                        refine stepStoreFL ?_ (.tmp 104) (.tmp 103) ?_ tb 5 pn (tl x3 n3 (k + 1)).length cn ?_ ?_ T51.th.t5 ?_
                        · rfl
                        · rfl
                        · rfl
                        · rfl
                        have T53 := (T51.set (.slice pn (tl x3 n3 (k + 1)).length cn)).2.2
                        have O53 := ownsRow_setCell_below o51 (a := ⟨tb, 5, none⟩) (by show tb < _; have := HTb.out; omega) (.slice pn (tl x3 n3 (k + 1)).length cn)
                        have A53 := ownsRow_setCell_below A51 (a := ⟨tb, 5, none⟩) (by show tb < _; have := HTb.out; have := HB2.out; omega) (.slice pn (tl x3 n3 (k + 1)).length cn)
                        have C53 := ownsRow_setCell_below C51 (a := ⟨tb, 5, none⟩) (by show tb < _; have := HTb.out; have := HB2.out; omega) (.slice pn (tl x3 n3 (k + 1)).length cn)
                        refine hK.out _ _ ⟨T53.hs, T53.u.keep HCe.out⟩ (fun _ => ?_)
                        clear hK K
                        (try simp only [Act.put]); (try simp only [List.setIfInBounds_toArray]); (try simp only [List.set_cons_succ]); (try simp only [List.set_cons_zero])
                        refine wpAnyH_done (by kernel_rfl) ?_ _
                        refine NoPanic.normal ?_
                        have TE := hid T53
                        have OE := hid (show OwnF _ _ _ _ from O53)
                        have AE := hid A53
                        have CE := hid C53
                        go_wp2
                        go_roundw
                        case rel => exact ⟨k + 1, (j : Int) - 1, _, hlt, by have := HZj.out; omega, by go_num, TE.out, OE.out, AE.out, CE.out, (by have := TE.out.z; first | omega | exact Nat.le_trans HZr.out (Nat.le_trans Y50 (by simpa using Z51)))⟩
                        case measure => (simp [intOf])
                · skip
                  refine stepBuild2F ?_ (.tmp 96) (.tmp 101) ?_ (x3 j) (x3 j) ?_ ?_ ?_
                  · rfl
                  · rfl
                  · rfl
                  · rfl
                  intro m54 y54 hm54 hy54
                  have R54 : y54.cell? ⟨m54, 0, none⟩ = some (.float .f64 (x3 j)) ∧ y54.cell? ⟨m54, 1, none⟩ = some (.float .f64 (x3 j)) := cells2F hm54 hy54
                  have V54 := old_alloc hy54
                  have Y54 : wr.heap.size ≤ y54.heap.size := V54.size
                  have T54 := (HT.out.old ((Old.refl wr).drew)).old V54
                  have O54 := (HO.out.up ((Old.refl wr).drew)).up V54
                  have A54 := (HA.out.up ((Old.refl wr).drew)).up V54
                  have C54 := (HCc.out.old ((Old.refl wr).drew)).old V54
                  clear hm54 hy54 V54
                  refine hK.out _ _ ⟨T54.hs, T54.u.keep HCe.out⟩ (fun _ => ?_)
                  clear hK K
                  (try simp only [Act.put]); (try simp only [List.setIfInBounds_toArray]); (try simp only [List.set_cons_succ]); (try simp only [List.set_cons_zero])
                  refine wpAnyH_ready (rs := [1]) (by kernel_rfl) (by simp) ?_
                  refine AllReadyH.cons (o := { dst := some 91, op := Op.load 22 (Operand.tmp 90), type := 22, pos := "law.go:149", after := #[{ on := 0, ground := Ground.data }], guard := none }) rfl (fun K hK => ?_) AllReadyH.nil
                  · skip
                    refine stepLoadFL ?_ (.tmp 90) ?_ tb 5 pv (tl x3 n3 k).length cv ?_ T54.ht.2.2.2.2.2 ?_
                    · rfl
                    · rfl
                    · rfl
                    refine hK.out _ _ ⟨T54.hs, T54.u.keep HCe.out⟩ (fun _ => ?_)
                    clear hK K
                    (try simp only [Act.put]); (try simp only [List.setIfInBounds_toArray]); (try simp only [List.set_cons_succ]); (try simp only [List.set_cons_zero])
                    refine wpAnyH_ready (rs := [13]) (by kernel_rfl) (by simp) ?_
                    refine AllReadyH.cons (o := { dst := some 103, op := Op.call { callee := Callee.builtin Builtin.append, args := #[Operand.tmp 91, Operand.tmp 102], argTypes := #[22, 22] }, type := 22, pos := "law.go:149", after := #[{ on := 1, ground := Ground.data }, { on := 12, ground := Ground.data }], guard := none }) rfl (fun K hK => ?_) AllReadyH.nil
                    · skip
                      refine step_appF2 ?_ (.tmp 91) (.tmp 102) ?_ B3 _ (tl x3 n3 k) m54 (x3 j) (x3 j) ?_ ?_ O54 R54 (by rw [tl_len]; have := HNn.out; omega) (by have := T54.z; have := HBz.out; have := Y54; omega) ?_
                      · rfl
                      · rfl
                      · rfl
                      · rfl
                      intro v55 y55 o55 g55
                      have T55 := T54.grown g55 (fun i e => by have := (World.ownsRow.lt O54 i e).1; have := HTb.out; omega)
                      have Z55 := g55.size
                      have A55 := World.ownsRow.kept A54 g55 (Classical.byCases (fun e => .inl e) fun e => .inr fun e2 => by obtain ⟨i, hi⟩ := Option.ne_none_iff_exists'.1 e; have := HL1.out i hi; have := (World.ownsRow.lt O54 i (by rw [← e2]; exact hi)).1; omega)
                      have C55 := World.ownsRow.kept C54 g55 (Classical.byCases (fun e => .inl e) fun e => .inr fun e2 => by obtain ⟨i, hi⟩ := Option.ne_none_iff_exists'.1 e; have := HL2.out i hi; have := (World.ownsRow.lt O54 i (by rw [← e2]; exact hi)).1; omega)
                      rw [tl_step x3 n3 k j HJ.out] at o55
                      obtain ⟨pn, cn, en⟩ := OwnF.len o55
                      subst en
                      refine hK.out _ _ ⟨T55.hs, T55.u.keep HCe.out⟩ (fun _ => ?_)
                      clear hK K
                      (try simp only [Act.put]); (try simp only [List.setIfInBounds_toArray]); (try simp only [List.set_cons_succ]); (try simp only [List.set_cons_zero])
                      refine wpAnyH_take (i := 14) (oi := { dst := some 104, op := Op.fieldAddr 25 (Operand.tmp 3) 5, type := 0, pos := "law.go:149", after := #[{ on := 0, ground := Ground.phase }, { on := 1, ground := Ground.phase }, { on := 2, ground := Ground.phase }, { on := 3, ground := Ground.phase }, { on := 4, ground := Ground.phase }, { on := 5, ground := Ground.phase }, { on := 6, ground := Ground.phase }, { on := 7, ground := Ground.phase }, { on := 8, ground := Ground.phase }, { on := 9, ground := Ground.phase }, { on := 10, ground := Ground.phase }, { on := 11, ground := Ground.phase }, { on := 12, ground := Ground.phase }, { on := 13, ground := Ground.phase }], guard := none }) (v := ?vk56) rfl (by kernel_rfl) (by kernel_rfl) (by kernel_rfl) (fun _ _ _ h => h) (Or.inl ⟨by rfl, ?hk56⟩) ⟨T55.hs, T55.u.keep HCe.out⟩ ?rk56
                      case hk56 => (intro wz hSw; (try dsimp only at hSw); go_simp; try with_reducible rfl)
                      (try simp only [Act.put]); (try simp only [List.setIfInBounds_toArray]); (try simp only [List.set_cons_succ]); (try simp only [List.set_cons_zero])
                      refine wpAnyH_ready (rs := [15]) (by kernel_rfl) (by simp) ?_
                      refine AllReadyH.cons (o := { dst := none, op := Op.store 22 (Operand.tmp 104) (Operand.tmp 103), type := 0, pos := "law.go:149", after := #[{ on := 14, ground := Ground.data }, { on := 13, ground := Ground.data }, { on := 13, ground := Ground.chain }, { on := 0, ground := Ground.phase }, { on := 1, ground := Ground.phase }, { on := 2, ground := Ground.phase }, { on := 3, ground := Ground.phase }, { on := 4, ground := Ground.phase }, { on := 5, ground := Ground.phase }, { on := 6, ground := Ground.phase }, { on := 7, ground := Ground.phase }, { on := 8, ground := Ground.phase }, { on := 9, ground := Ground.phase }, { on := 10, ground := Ground.phase }, { on := 11, ground := Ground.phase }, { on := 12, ground := Ground.phase }, { on := 13, ground := Ground.phase }], guard := none }) rfl (fun K hK => ?_) AllReadyH.nil
                      · skip
                        refine stepStoreFL ?_ (.tmp 104) (.tmp 103) ?_ tb 5 pn (tl x3 n3 (k + 1)).length cn ?_ ?_ T55.th.t5 ?_
                        · rfl
                        · rfl
                        · rfl
                        · rfl
                        have T57 := (T55.set (.slice pn (tl x3 n3 (k + 1)).length cn)).2.2
                        have O57 := ownsRow_setCell_below o55 (a := ⟨tb, 5, none⟩) (by show tb < _; have := HTb.out; omega) (.slice pn (tl x3 n3 (k + 1)).length cn)
                        have A57 := ownsRow_setCell_below A55 (a := ⟨tb, 5, none⟩) (by show tb < _; have := HTb.out; have := HB2.out; omega) (.slice pn (tl x3 n3 (k + 1)).length cn)
                        have C57 := ownsRow_setCell_below C55 (a := ⟨tb, 5, none⟩) (by show tb < _; have := HTb.out; have := HB2.out; omega) (.slice pn (tl x3 n3 (k + 1)).length cn)
                        refine hK.out _ _ ⟨T57.hs, T57.u.keep HCe.out⟩ (fun _ => ?_)
                        clear hK K
                        (try simp only [Act.put]); (try simp only [List.setIfInBounds_toArray]); (try simp only [List.set_cons_succ]); (try simp only [List.set_cons_zero])
                        refine wpAnyH_done (by kernel_rfl) ?_ _
                        refine NoPanic.normal ?_
                        have TE := hid T57
                        have OE := hid (show OwnF _ _ _ _ from O57)
                        have AE := hid A57
                        have CE := hid C57
                        go_wp2
                        go_roundw
                        case rel => exact ⟨k + 1, (j : Int) - 1, _, hlt, by have := HZj.out; omega, by go_num, TE.out, OE.out, AE.out, CE.out, (by have := TE.out.z; first | omega | exact Nat.le_trans HZr.out (Nat.le_trans Y54 (by simpa using Z55)))⟩
                        case measure => (simp [intOf])
              · obtain rfl : n3 = k := by omega
                obtain rfl : z = -1 := by omega
                clear hz hk hlt
                clear HV1 HV2 HL1 HL2 HB2b HB3 HB2 HZr t0 t1 t2 t3 t4 t5
                obtain ⟨p1, q1, e1⟩ := OwnF.len HA.out
                subst e1
                obtain ⟨p2, q2, e2⟩ := OwnS.len HCc.out
                subst e2
                have OT := hid (show (⟨s1, s2, s3, p1, p2, pv, (tl x1 n1 n1).length, (tl f2 n2 n2).length, (tl x3 n3 n3).length, q1, q2, cv, atN (tl x1 n1 n1), atN (tl x3 n3 n3), atS (tl f2 n2 n2)⟩ : Sb).Ok wr from ⟨HA.out.fown.row (tl_all HWs.out.1) (by rw [tl_len]; have := HSm.out; omega), HCc.out.row (tl_all HWs.out.2.1) (by rw [tl_len]; have := HSm.out; omega), HO.out.fown.row (tl_all HWs.out.2.2) (by rw [tl_len]; have := HSm.out; omega), by show (tl x1 n1 n1).length ≤ _; rw [tl_len]; have := HSm.out; omega, by show (tl f2 n2 n2).length ≤ _; rw [tl_len]; have := HSm.out; omega, by show (tl x3 n3 n3).length ≤ _; rw [tl_len]; have := HSm.out; omega⟩)
                have TT := hid (show Turn (⟨s1, s2, s3, a1, a2, a3, n1, n2, n3, c1, c2, c3, x1, x3, f2⟩ : Sb) (⟨s1, s2, s3, p1, p2, pv, (tl x1 n1 n1).length, (tl f2 n2 n2).length, (tl x3 n3 n3).length, q1, q2, cv, atN (tl x1 n1 n1), atN (tl x3 n3 n3), atS (tl f2 n2 n2)⟩ : Sb) from ⟨rfl, rfl, rfl, tl_atN _ _, tl_atS _ _, tl_atN _ _⟩)
                have HYt := hid (show canK (⟨s1, s2, s3, a1, a2, a3, n1, n2, n3, c1, c2, c3, x1, x3, f2⟩ : Sb) = 0 → ∀ (W : World), Old wr W → Calls Tryz.prog 20 #[.agg #[.int .i64 s1, .int .i64 s2, .int .i64 s3, .slice p1 (tl x1 n1 n1).length q1, .slice p2 (tl f2 n2 n2).length q2, .slice pv (tl x3 n3 n3).length cv]] W fun e w' => ∃ c : Sb, e = .returned (.tuple #[.agg #[.int .i64 c.s1, .int .i64 c.s2, .int .i64 c.s3, .slice c.a1 c.n1 c.c1, .slice c.a2 c.n2 c.c2, .slice c.a3 c.n3 c.c3], .int .i64 0]) ∧ IsC (⟨s1, s2, s3, a1, a2, a3, n1, n2, n3, c1, c2, c3, x1, x3, f2⟩ : Sb) c ∧ c.Ok w' ∧ Old W w' from fun q W u => (canonS_c (⟨s1, s2, s3, p1, p2, pv, (tl x1 n1 n1).length, (tl f2 n2 n2).length, (tl x3 n3 n3).length, q1, q2, cv, atN (tl x1 n1 n1), atN (tl x3 n3 n3), atS (tl f2 n2 n2)⟩ : Sb) W (OT.out.old u) (by rw [TT.out.kk HWs.out]; exact q)).mono fun e w' ⟨c, he, hi, ho, hu⟩ => ⟨c, he, TT.out.isC HWs.out hi, ho, hu⟩)
                have HNt := hid (show canK (⟨s1, s2, s3, a1, a2, a3, n1, n2, n3, c1, c2, c3, x1, x3, f2⟩ : Sb) ≠ 0 → ∀ (W : World), Old wr W → Calls Tryz.prog 20 #[.agg #[.int .i64 s1, .int .i64 s2, .int .i64 s3, .slice p1 (tl x1 n1 n1).length q1, .slice p2 (tl f2 n2 n2).length q2, .slice pv (tl x3 n3 n3).length cv]] W fun e w' => e = .returned (.tuple #[.agg #[.int .i64 0, .int .i64 0, .int .i64 0, .slice none 0 0, .slice none 0 0, .slice none 0 0], .int .i64 (canK (⟨s1, s2, s3, a1, a2, a3, n1, n2, n3, c1, c2, c3, x1, x3, f2⟩ : Sb))]) ∧ Old W w' from fun q W u => (canonS_no (⟨s1, s2, s3, p1, p2, pv, (tl x1 n1 n1).length, (tl f2 n2 n2).length, (tl x3 n3 n3).length, q1, q2, cv, atN (tl x1 n1 n1), atN (tl x3 n3 n3), atS (tl f2 n2 n2)⟩ : Sb) W (OT.out.old u) (by rw [TT.out.kk HWs.out]; exact q)).mono fun e w' ⟨he, hu⟩ => ⟨by rw [he, TT.out.kk HWs.out], hu⟩)
                clear OT TT HA HCc HO HF1 HF2 HF3
                obtain ⟨t0, t1, t2, t3, t4, t5⟩ := HT.out.hs
                obtain ⟨u0, u1, u2, u3, u4, u5⟩ := HT.out.ht
                by_cases hc : canK (⟨s1, s2, s3, a1, a2, a3, n1, n2, n3, c1, c2, c3, x1, x3, f2⟩ : Sb) = 0
                · have HS := hid (HY.out hc)
                  have HTt := hid (HYt.out hc)
                  have HCz := hid hc
                  clear HY HN HYt HNt hc
                  go_upto_region 19 with (first | (go_at_call 20; refine (HS.out _ HT.out.u).mono ?_; rintro e y1 ⟨a, rfl, ia, oa, va⟩; have IA := hid ia; have OA := hid oa; have VA := hid va; clear ia oa va))
                  clear t0 t1 t2 t3 t4 t5 u0 u1 u2 u3 u4 u5 HS
                  generalize hy2 : y1.alloc (.cells #[.int .i64 a.s1, .int .i64 a.s2, .int .i64 a.s3, .slice a.a1 a.n1 a.c1, .slice a.a2 a.n2 a.c2, .slice a.a3 a.n3 a.c3] 25) = y2 at *
                  generalize hab : y1.heap.size = ab at *
                  obtain ⟨hB, hV⟩ := sub_new y1 a.s1 a.s2 a.s3 _ _ _ y2 hy2 ab hab
                  have T2 := hid (HT.out.old (VA.out.trans hV))
                  have A2 := hid hB
                  have OA2 := hid (OA.out.old hV)
                  have Q2 := hid (VA.out.trans hV)
                  clear hy2 hab hB hV OA VA HT
                  obtain ⟨t0, t1, t2, t3, t4, t5⟩ := T2.out.hs
                  obtain ⟨u0, u1, u2, u3, u4, u5⟩ := T2.out.ht
                  go_upto_region 20 with (first | (go_at_call 20; refine (HTt.out _ Q2.out).mono ?_; rintro e y3 ⟨b, rfl, ib, ob, vb⟩; have IB := hid ib; have OB := hid ob; have VB := hid vb; clear ib ob vb))
                  clear t0 t1 t2 t3 t4 t5 u0 u1 u2 u3 u4 u5 HTt
                  generalize hy4 : y3.alloc (.cells #[.int .i64 b.s1, .int .i64 b.s2, .int .i64 b.s3, .slice b.a1 b.n1 b.c1, .slice b.a2 b.n2 b.c2, .slice b.a3 b.n3 b.c3] 25) = y4 at *
                  generalize hbb : y3.heap.size = bb at *
                  obtain ⟨hB, hV⟩ := sub_new y3 b.s1 b.s2 b.s3 _ _ _ y4 hy4 bb hbb
                  have UE := hid (T2.out.u.trans (VB.out.trans hV))
                  have HSa := hid (subSame_any a b y4 (OA2.out.old (VB.out.trans hV)) (OB.out.old hV))
                  rw [IsC.same IA.out IB.out HWs.out HCz.out] at HSa
                  have A4 := hid (SubAt.old (VB.out.trans hV) A2.out)
                  have B4 := hid hB
                  clear hy4 hbb hB hV IA IB HCz HWs OA2 OB T2 A2 VB Q2
                  obtain ⟨t0, t1, t2, t3, t4, t5⟩ := A4.out
                  obtain ⟨u0, u1, u2, u3, u4, u5⟩ := B4.out
                  go_wp2_with (first | (go_at_call 18; refine (HSa.out).mono ?_; rintro e y5 ⟨rfl, v5⟩; have U5 := hid (UE.out.trans v5); clear v5))
                  go_ret
                  exact ⟨rfl, U5.out⟩
                · have HS := hid (HN.out hc)
                  have HTt := hid (HNt.out hc)
                  have cz : (canK (⟨s1, s2, s3, a1, a2, a3, n1, n2, n3, c1, c2, c3, x1, x3, f2⟩ : Sb) != 0) = true := by rw [bne_iff_ne]; exact hc
                  clear HY HN HYt HNt hc HWs
                  generalize canK (⟨s1, s2, s3, a1, a2, a3, n1, n2, n3, c1, c2, c3, x1, x3, f2⟩ : Sb) = cx at *
                  go_upto_region 19 with (first | (go_at_call 20; refine (HS.out _ HT.out.u).mono ?_; rintro e y1 ⟨rfl, va⟩; have VA := hid va; clear va))
                  clear t0 t1 t2 t3 t4 t5 u0 u1 u2 u3 u4 u5 HS
                  generalize hy2 : y1.alloc (.cells #[.int .i64 0, .int .i64 0, .int .i64 0, .slice none 0 0, .slice none 0 0, .slice none 0 0] 25) = y2 at *
                  generalize hab : y1.heap.size = ab at *
                  obtain ⟨hB, hV⟩ := sub_new y1 0 0 0 _ _ _ y2 hy2 ab hab
                  have T2 := hid (HT.out.old (VA.out.trans hV))
                  have Q2 := hid (VA.out.trans hV)
                  clear hy2 hab hB hV VA HT
                  obtain ⟨t0, t1, t2, t3, t4, t5⟩ := T2.out.hs
                  obtain ⟨u0, u1, u2, u3, u4, u5⟩ := T2.out.ht
                  go_wp2_with (first | (go_at_call 20; refine (HTt.out _ Q2.out).mono ?_; rintro e y3 ⟨rfl, vb⟩; have VB := hid (T2.out.u.trans vb); clear vb))
                  go_ret
                  exact ⟨rfl, VB.out.alloc _⟩
  · have m1 : ((n1 : Int) + n2 + n3 > 60) := by omega
    have m2 : (60 < (n1 : Int) + n2 + n3) := by omega
    go_wp2
    go_ret
    exact ⟨rfl, U3.out⟩
end Go.Proofs.YtodnegflaoedbaaGreat
