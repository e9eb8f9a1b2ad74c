/- The document's Canon and the program's answer alike at every submission; conditions: the lengths fit. -/
import Derived.Test.YtcnhcamilimnnaaWi
namespace Go.Proofs.Ytcnhcamilimnnaa
open Go.RowKit
set_option linter.unusedVariables false
theorem can_chk (m c k z : Bool) : (if chkC m c k = 0 then (if z = true then 41 else 0) else chkC m c k) = canC m c k z := by
  unfold chkC canC; cases m <;> cases c <;> cases k <;> cases z <;> rfl
theorem spo_rows' {L : List (Nat × Nat)} (h : ∀ r ∈ L, Fl.RV r) : ∀ s ∈ L.map Fl.spo, Fl.W s.a ∧ Fl.W s.b := by
  intro s hs
  obtain ⟨r, hr, rfl⟩ := List.mem_map.1 hs
  exact Fl.spo_W (h r hr)
set_option maxHeartbeats 1000000 in
set_option maxRecDepth 20000 in
theorem refCanon_any (s1 s2 s3 : Int) (a1 a2 a3 : Option Addr) (n1 n2 n3 c1 c2 c3 : Nat) (x1 x3 : Nat → Nat) (f2 : Nat → Sp) (b1 : n1 ≤ 17592186044000) (b2 : n2 ≤ 5864062014805) (b3 : n3 ≤ 17592186044000) (w : World) (h1 : FRow w (.slice a1 n1 c1) n1 x1) (h2 : SRow w (.slice a2 n2 c2) n2 f2) (h3 : FRow w (.slice a3 n3 c3) n3 x3) :
    Calls Try.prog 6 #[.agg #[.int .i64 s1, .int .i64 s2, .int .i64 s3, .slice a1 n1 c1, .slice a2 n2 c2, .slice a3 n3 c3]] w fun e w' => CanPost (CanRows (w.heap.size + 3) (Fl.sortL x1 n1) ((Fl.dfold (Fl.cdl f2 n2)).map Fl.spo) (Fl.sortL x3 n3)) s1 s2 s3 (Fl.sortL x1 n1).length ((Fl.dfold (Fl.cdl f2 n2)).map Fl.spo).length (Fl.sortL x3 n3).length (canC (misB s1 s2 s3) (crowdB (Fl.sortL x1 n1).length ((Fl.dfold (Fl.cdl f2 n2)).map Fl.spo).length (Fl.sortL x3 n3).length) (Fl.anyG (fun i => Fl.nan (atN (Fl.sortL x1 n1) i)) (Fl.sortL x1 n1).length || Fl.anyG (fun i => Fl.nan (atN (Fl.sortL x3 n3) i)) (Fl.sortL x3 n3).length) (Fl.anyG (fun i => Fl.nan (f2 i).a || Fl.nan (f2 i).b) n2)) w e w' := by
  have w1 : ∀ i, i < n1 → Fl.W (x1 i) := fun i hi => by obtain ⟨_, _, _, _, hc⟩ := h1; obtain ⟨_, _, _, q, _⟩ := hc i hi; exact q
  have w3 : ∀ i, i < n3 → Fl.W (x3 i) := fun i hi => by obtain ⟨_, _, _, _, hc⟩ := h3; obtain ⟨_, _, _, q, _⟩ := hc i hi; exact q
  have w2 := Fl.cdl_RV f2 n2 fun i hi => by obtain ⟨_, _, _, _, hc⟩ := h2; obtain ⟨_, _, _, q1, q2, _⟩ := hc i hi; exact (⟨q1, q2⟩ : Fl.W (f2 i).a ∧ Fl.W (f2 i).b)
  have hD := Fl.dfold_ok _ (Fl.cdl f2 n2) rfl w2
  have hDl : (Fl.dfold (Fl.cdl f2 n2)).length ≤ n2 := by have := hD.2.2; have := Fl.cdl_len f2 n2; omega
  have l1 := Fl.sortL_len x1 n1
  have l3 := Fl.sortL_len x3 n3
  have hml : ((Fl.dfold (Fl.cdl f2 n2)).map Fl.spo).length = (Fl.dfold (Fl.cdl f2 n2)).length := List.length_map ..
  rw [← can_chk]
  refine refCanon_core s1 s2 s3 a1 a2 a3 n1 n2 n3 c1 c2 c3 (Fl.sortL x1 n1) (Fl.sortL x3 n3) (Fl.dfold (Fl.cdl f2 n2)) _ w.heap.size _ (fun i => Fl.nan (f2 i).a || Fl.nan (f2 i).b) f2 w rfl h2 (fun j => rfl) ?_ ?_ ?_ ?_ ?_
  · exact fun W hW => sortR_any _ n1 x1 b1 W (h1.old hW)
  · exact fun W hW => sortR_any _ n3 x3 b3 W (h3.old hW)
  · exact fun W hW => refNorm_any _ n2 f2 b2 W (h2.old hW)
  · exact fun v base W h => spans_any v base _ W h hD.1.2 (by omega)
  · rintro p1 p2 p3 q1 q2 q3 W ⟨g1, g2, g3⟩
    have r2 := g2.row (spo_rows' hD.1.2) (by rw [hml]; omega)
    rw [hml] at r2 ⊢
    exact refCheck_form s1 s2 s3 p1 p2 p3 _ _ _ q1 q2 q3 W (g1.row (sortL_W x1 n1 w1) (by omega)) r2 (g3.row (sortL_W x3 n3 w3) (by omega)) hD.1 (sortL_again x1 n1 w1) (sortL_again x3 n3 w3) (sortL_W x1 n1 w1) (sortL_W x3 n3 w3)
end Go.Proofs.Ytcnhcamilimnnaa
