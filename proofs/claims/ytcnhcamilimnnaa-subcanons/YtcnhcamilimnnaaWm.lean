/- The law SubCanons at every submission; conditions: the lengths fit. -/
import Derived.Test.YtcnhcamilimnnaaWk
import Derived.Test.YtcnhcamilimnnaaWl
namespace Go.Proofs.Ytcnhcamilimnnaa
open Go.RowKit
set_option linter.unusedVariables false
attribute [local go_sem] run_bits run_frombits run_store_float eqF
/-- What Canon and the document's Canon have alike: the submission's numbers, its rows, the error. -/
def CanU (t1 t2 t3 : Int) (m1 m2 m3 : Nat) (y1 y3 : Nat → Nat) (g2 : Nat → Sp) (cc : Int) (W : World) (e : Ending) (w' : World) : Prop := ∃ (p1 p2 p3 : Option Addr) (q1 q2 q3 : Nat), e = .returned (.tuple #[.agg #[.int .i64 t1, .int .i64 t2, .int .i64 t3, .slice p1 m1 q1, .slice p2 m2 q2, .slice p3 m3 q3], .int .i64 cc]) ∧ (FRow w' (.slice p1 m1 q1) m1 y1 ∧ SRow w' (.slice p2 m2 q2) m2 g2 ∧ FRow w' (.slice p3 m3 q3) m3 y3) ∧ (0 < m1 → ∃ g, p1 = some ⟨g, 0, none⟩ ∧ FX W.heap.size w' g m1) ∧ Old W w'
theorem frow0 (w : World) (p : Option Addr) (q : Nat) (y : Nat → Nat) : FRow w (.slice p 0 q) 0 y := ⟨Nat.zero_le _, _, _, rfl, fun i hi => absurd hi (by omega)⟩
theorem srow0 (w : World) (p : Option Addr) (q : Nat) (y : Nat → Sp) : SRow w (.slice p 0 q) 0 y := ⟨Nat.zero_le _, _, _, rfl, fun i hi => absurd hi (by omega)⟩
theorem CanPost.same {B : Nat} {L1 L3 : List Nat} {L2 : List Sp} {s1 s2 s3 : Int} {cc : Int} {W : World} {e : Ending} {w' : World} (hB : W.heap.size ≤ B) (h1 : ∀ y ∈ L1, Fl.W y) (h3 : ∀ y ∈ L3, Fl.W y) (h2 : ∀ s ∈ L2, Fl.W s.a ∧ Fl.W s.b) (l1 : L1.length ≤ 17592186044000) (l2 : L2.length ≤ 17592186044000) (l3 : L3.length ≤ 17592186044000) (hz : cc = 0)
    (h : CanPost (CanRows B L1 L2 L3) s1 s2 s3 L1.length L2.length L3.length cc W e w') : CanU s1 s2 s3 L1.length L2.length L3.length (atN L1) (atN L3) (atS L2) 0 W e w' := by
  unfold CanPost at h
  obtain ⟨p1, p2, p3, q1, q2, q3, he, ⟨g1, g2, g3⟩, u⟩ := h
  rw [if_pos hz] at he
  refine ⟨p1, p2, p3, q1, q2, q3, he, ⟨g1.row h1 (by omega), g2.row h2 (by omega), g3.row h3 (by omega)⟩, fun h0 => ?_, u⟩
  obtain ⟨p, c, e', k⟩ := g1
  cases e'
  obtain ⟨g, rfl, hb, hk⟩ := k h0
  exact ⟨g, rfl, by omega, fun i hi => ⟨⟨_, (hk i hi).1⟩, (hk i hi).2⟩⟩
theorem CanPost.zero {P : Option Addr → Option Addr → Option Addr → Nat → Nat → Nat → World → Prop} {s1 s2 s3 : Int} {m1 m2 m3 : Nat} {cc : Int} {W : World} {e : Ending} {w' : World} (hz : ¬ cc = 0)
    (h : CanPost P s1 s2 s3 m1 m2 m3 cc W e w') : CanU 0 0 0 0 0 0 (fun _ => 0) (fun _ => 0) (fun _ => ⟨0, 0, false, false⟩) cc W e w' := by
  unfold CanPost at h
  obtain ⟨p1, p2, p3, q1, q2, q3, he, _, u⟩ := h
  rw [if_neg hz] at he
  exact ⟨none, none, none, 0, 0, 0, he, ⟨frow0 _ _ _ _, srow0 _ _ _ _, frow0 _ _ _ _⟩, fun h0 => absurd h0 (by omega), u⟩
theorem canons_pair (s1 s2 s3 : Int) (a1 a2 a3 : Option Addr) (n1 n2 n3 c1 c2 c3 : Nat) (x1 x3 : Nat → Nat) (f2 : Nat → Sp) (b1 : n1 ≤ 17592186044000) (b2 : n2 ≤ 5864062014805) (b3 : n3 ≤ 17592186044000) (w : World) (h1 : FRow w (.slice a1 n1 c1) n1 x1) (h2 : SRow w (.slice a2 n2 c2) n2 f2) (h3 : FRow w (.slice a3 n3 c3) n3 x3) :
    ∃ (t1 t2 t3 : Int) (m1 m2 m3 : Nat) (y1 y3 : Nat → Nat) (g2 : Nat → Sp) (cc : Int), m1 ≤ 17592186044000 ∧
      (∀ W, Old w W → Calls Try.prog 5 #[.agg #[.int .i64 s1, .int .i64 s2, .int .i64 s3, .slice a1 n1 c1, .slice a2 n2 c2, .slice a3 n3 c3]] W fun e w' => CanU t1 t2 t3 m1 m2 m3 y1 y3 g2 cc W e w') ∧
      (∀ W, Old w W → Calls Try.prog 6 #[.agg #[.int .i64 s1, .int .i64 s2, .int .i64 s3, .slice a1 n1 c1, .slice a2 n2 c2, .slice a3 n3 c3]] W fun e w' => CanU t1 t2 t3 m1 m2 m3 y1 y3 g2 cc W e w') := by
  have w1 : ∀ i, i < n1 → Fl.W (x1 i) := fun i hi => by obtain ⟨_, _, _, _, hc⟩ := h1; obtain ⟨_, _, _, q, _⟩ := hc i hi; exact q
  have w3 : ∀ i, i < n3 → Fl.W (x3 i) := fun i hi => by obtain ⟨_, _, _, _, hc⟩ := h3; obtain ⟨_, _, _, q, _⟩ := hc i hi; exact q
  have w2 := Fl.cdl_RV f2 n2 fun i hi => by obtain ⟨_, _, _, _, hc⟩ := h2; obtain ⟨_, _, _, q1, q2, _⟩ := hc i hi; exact (⟨q1, q2⟩ : Fl.W (f2 i).a ∧ Fl.W (f2 i).b)
  have hD := Fl.dfold_ok _ (Fl.cdl f2 n2) rfl w2
  have hDl : ((Fl.dfold (Fl.cdl f2 n2)).map Fl.spo).length ≤ n2 := by rw [List.length_map]; have := hD.2.2; have := Fl.cdl_len f2 n2; omega
  have l1 := Fl.sortL_len x1 n1
  have l3 := Fl.sortL_len x3 n3
  have A := fun W (hW : Old w W) => subCanon_any s1 s2 s3 a1 a2 a3 n1 n2 n3 c1 c2 c3 x1 x3 f2 b1 b2 b3 W (h1.old hW) (h2.old hW) (h3.old hW)
  have B := fun W (hW : Old w W) => refCanon_any s1 s2 s3 a1 a2 a3 n1 n2 n3 c1 c2 c3 x1 x3 f2 b1 b2 b3 W (h1.old hW) (h2.old hW) (h3.old hW)
  generalize (canC (misB s1 s2 s3) (crowdB (Fl.sortL x1 n1).length ((Fl.dfold (Fl.cdl f2 n2)).map Fl.spo).length (Fl.sortL x3 n3).length) (Fl.anyG (fun i => Fl.nan (atN (Fl.sortL x1 n1) i)) (Fl.sortL x1 n1).length || Fl.anyG (fun i => Fl.nan (atN (Fl.sortL x3 n3) i)) (Fl.sortL x3 n3).length) (Fl.anyG (fun i => Fl.nan (f2 i).a || Fl.nan (f2 i).b) n2)) = cc at A B
  by_cases hz : cc = 0
  · refine ⟨s1, s2, s3, _, _, _, _, _, _, 0, ?_, fun W hW => (A W hW).mono fun e w' h => h.same (by omega) (sortL_W x1 n1 w1) (sortL_W x3 n3 w3) (spo_rows' hD.1.2) (by omega) (by omega) (by omega) hz, fun W hW => (B W hW).mono fun e w' h => h.same (by omega) (sortL_W x1 n1 w1) (sortL_W x3 n3 w3) (spo_rows' hD.1.2) (by omega) (by omega) (by omega) hz⟩
    omega
  · exact ⟨0, 0, 0, 0, 0, 0, _, _, _, cc, by omega, fun W hW => (A W hW).mono fun e w' h => h.zero hz, fun W hW => (B W hW).mono fun e w' h => h.zero hz⟩
end Go.Proofs.Ytcnhcamilimnnaa
