/- The document's Canon at every submission: its form made; conditions: the lengths fit. -/
import Derived.Test.YtbkbnfgjkefcmaaGreatWf
import Derived.Test.YtbkbnfgjkefcmaaGreatWg
namespace Go.Proofs.YtbkbnfgjkefcmaaGreat
open Go.RowKit
set_option linter.unusedVariables false
attribute [local go_sem] run_bits run_frombits run_store_float eqF
/-- The submission, the answer's place, the form's place. -/
structure TB (m : Nat) (s1 s2 s3 : Int) (v1 v2 v3 x y z : Value) (W : World) : Prop where
  s : SubAt m s1 s2 s3 v1 v2 v3 W
  r : SubAt (m + 1) 0 0 0 (.slice none 0 0) (.slice none 0 0) (.slice none 0 0) W
  o : SubAt (m + 2) s1 s2 s3 x y z W
  fr : ∀ j, j < 6 → W.frozen? ⟨m + 1, j, none⟩ = false
  fo : ∀ j, j < 6 → W.frozen? ⟨m + 2, j, none⟩ = false
theorem SubAt.cellJ {m : Nat} {s1 s2 s3 : Int} {v1 v2 v3 : Value} {w : World} (h : SubAt m s1 s2 s3 v1 v2 v3 w) (j : Nat) (hj : j < 6) : ∃ z, w.cell? ⟨m, j, none⟩ = some z := by
  match j, hj with
  | 0, _ => exact ⟨_, h.1⟩
  | 1, _ => exact ⟨_, h.2.1⟩
  | 2, _ => exact ⟨_, h.2.2.1⟩
  | 3, _ => exact ⟨_, h.2.2.2.1⟩
  | 4, _ => exact ⟨_, h.2.2.2.2.1⟩
  | 5, _ => exact ⟨_, h.2.2.2.2.2⟩
theorem TB.old {m : Nat} {s1 s2 s3 : Int} {v1 v2 v3 x y z : Value} {W W' : World} (h : TB m s1 s2 s3 v1 v2 v3 x y z W) (u : Old W W') : TB m s1 s2 s3 v1 v2 v3 x y z W' :=
  ⟨SubAt.old u h.s, SubAt.old u h.r, SubAt.old u h.o, fun j hj => by obtain ⟨q, hq⟩ := h.r.cellJ j hj; exact u.keepF hq (h.fr j hj), fun j hj => by obtain ⟨q, hq⟩ := h.o.cellJ j hj; exact u.keepF hq (h.fo j hj)⟩
theorem SubAt.otherB {m k o : Nat} {s1 s2 s3 : Int} {v1 v2 v3 : Value} {w : World} (h : SubAt m s1 s2 s3 v1 v2 v3 w) (hk : k ≠ m) (u : Value) : SubAt m s1 s2 s3 v1 v2 v3 (w.setCell ⟨k, o, none⟩ u) := by
  have F : ∀ j, (w.setCell ⟨k, o, none⟩ u).cell? ⟨m, j, none⟩ = w.cell? ⟨m, j, none⟩ := fun j => World.cell?_setCell_far w ⟨k, o, none⟩ ⟨m, j, none⟩ u hk
  exact ⟨by rw [F]; exact h.1, by rw [F]; exact h.2.1, by rw [F]; exact h.2.2.1, by rw [F]; exact h.2.2.2.1, by rw [F]; exact h.2.2.2.2.1, by rw [F]; exact h.2.2.2.2.2⟩
theorem SubAt.setF {m : Nat} {s1 s2 s3 : Int} {x y z : Value} {w : World} (h : SubAt m s1 s2 s3 x y z w) (u : Value) : SubAt m s1 s2 s3 u y z (w.setCell ⟨m, 3, none⟩ u) ∧ SubAt m s1 s2 s3 x u z (w.setCell ⟨m, 4, none⟩ u) ∧ SubAt m s1 s2 s3 x y u (w.setCell ⟨m, 5, none⟩ u) := by
  have F : ∀ (o j : Nat), o ≠ j → (w.setCell ⟨m, o, none⟩ u).cell? ⟨m, j, none⟩ = w.cell? ⟨m, j, none⟩ := fun o j hn => World.cell?_setCell_other _ _ _ _ (fun q => hn (by cases q; rfl))
  obtain ⟨h0, h1, h2, h3, h4, h5⟩ := h
  refine ⟨⟨?_, ?_, ?_, ?_, ?_, ?_⟩, ⟨?_, ?_, ?_, ?_, ?_, ?_⟩, ⟨?_, ?_, ?_, ?_, ?_, ?_⟩⟩
  · rw [F 3 0 (by decide)]; exact h0
  · rw [F 3 1 (by decide)]; exact h1
  · rw [F 3 2 (by decide)]; exact h2
  · exact World.cell?_setCell_same _ _ _ h3
  · rw [F 3 4 (by decide)]; exact h4
  · rw [F 3 5 (by decide)]; exact h5
  · rw [F 4 0 (by decide)]; exact h0
  · rw [F 4 1 (by decide)]; exact h1
  · rw [F 4 2 (by decide)]; exact h2
  · rw [F 4 3 (by decide)]; exact h3
  · exact World.cell?_setCell_same _ _ _ h4
  · rw [F 4 5 (by decide)]; exact h5
  · rw [F 5 0 (by decide)]; exact h0
  · rw [F 5 1 (by decide)]; exact h1
  · rw [F 5 2 (by decide)]; exact h2
  · rw [F 5 3 (by decide)]; exact h3
  · rw [F 5 4 (by decide)]; exact h4
  · exact World.cell?_setCell_same _ _ _ h5
theorem TB.set {m : Nat} {s1 s2 s3 : Int} {v1 v2 v3 x y z : Value} {W : World} (h : TB m s1 s2 s3 v1 v2 v3 x y z W) (u : Value) : TB m s1 s2 s3 v1 v2 v3 u y z (W.setCell ⟨m + 2, 3, none⟩ u) ∧ TB m s1 s2 s3 v1 v2 v3 x u z (W.setCell ⟨m + 2, 4, none⟩ u) ∧ TB m s1 s2 s3 v1 v2 v3 x y u (W.setCell ⟨m + 2, 5, none⟩ u) :=
  ⟨⟨h.s.otherB (by omega) u, h.r.otherB (by omega) u, (h.o.setF u).1, fun j hj => by simpa using h.fr j hj, fun j hj => by simpa using h.fo j hj⟩,
   ⟨h.s.otherB (by omega) u, h.r.otherB (by omega) u, (h.o.setF u).2.1, fun j hj => by simpa using h.fr j hj, fun j hj => by simpa using h.fo j hj⟩,
   ⟨h.s.otherB (by omega) u, h.r.otherB (by omega) u, (h.o.setF u).2.2, fun j hj => by simpa using h.fr j hj, fun j hj => by simpa using h.fo j hj⟩⟩
/-- The document's Check at a form. -/
theorem refCheck_form (s1 s2 s3 : Int) (p1 p2 p3 : Option Addr) (L1 L3 : List Nat) (D : List (Nat × Nat)) (q1 q2 q3 : Nat) (w : World)
    (h1 : FRow w (.slice p1 L1.length q1) L1.length (atN L1)) (h2 : SRow w (.slice p2 D.length q2) D.length (atS (D.map Fl.spo))) (h3 : FRow w (.slice p3 L3.length q3) L3.length (atN L3))
    (hD : Fl.NL D) (e1 : Fl.sortL (atN L1) L1.length = L1) (e3 : Fl.sortL (atN L3) L3.length = L3) (hW1 : ∀ y ∈ L1, Fl.W y) (hW3 : ∀ y ∈ L3, Fl.W y) :
    Calls Tryz.prog 20 #[.agg #[.int .i64 s1, .int .i64 s2, .int .i64 s3, .slice p1 L1.length q1, .slice p2 D.length q2, .slice p3 L3.length q3]] w fun e w' => e = .returned (.int .i64 (chkC (misB s1 s2 s3) (crowdB L1.length D.length L3.length) (Fl.anyG (fun i => Fl.nan (atN L1 i)) L1.length || Fl.anyG (fun i => Fl.nan (atN L3 i)) L3.length))) ∧ Old w w' := by
  cases hm : misB s1 s2 s3
  · cases hc : crowdB L1.length D.length L3.length
    · have H := refCheck_late s1 s2 s3 p1 p2 p3 L1 L3 D q1 q2 q3 w hm hc h1 h2 h3 hD e1 e3 hW1 hW3
      unfold chkC; simpa using H
    · have H := refCheck_early s1 s2 s3 p1 p2 p3 L1.length D.length L3.length q1 q2 q3 w (.inr ⟨hm, hc⟩)
      rw [hm] at H
      unfold chkC; simpa using H
  · have H := refCheck_early s1 s2 s3 p1 p2 p3 L1.length D.length L3.length q1 q2 q3 w (.inl hm)
    rw [hm] at H
    unfold chkC; simpa using H
end Go.Proofs.YtbkbnfgjkefcmaaGreat
