/- The step of law 5, at every disk and every step; the law DiskApart's walk. -/
import Derived.Test.YtibeeamenhcngaaEdk
namespace Go.Proofs.Ytibeeamenhcngaa
open Go.RowKit Go.Lib Go.ChangeShapes Go.WideShapes
set_option linter.unusedVariables false
set_option linter.unusedSimpArgs false
set_option maxRecDepth 20000
def stepP (p : PD) (o : Opd) : PD := if o.k = 1 then createP p o.a else if o.k = 2 then removeP p o.a else if o.k = 3 then renameP p o.a o.z else if o.k = 4 then writeP p o.a o.n o.B else if o.k = 5 then cutP p o.a o.n else syncP p o.a
set_option maxHeartbeats 4000000 in
set_option maxRecDepth 20000 in
theorem stepL_any (w0 W : World) (db : Nat) (p : PD) (A : List Nat) (o : Opd) (h : Dsk w0 W db p A) (ho : o.Ok w0) : Calls Try.prog 7 #[.pointer (some ⟨db, 0, none⟩), .agg #[.int .i64 o.k, .string o.a, .string o.z, .int .i64 o.n, o.vb, o.vk]] W fun e w' => ∃ c : Int, e = .returned (.int .i64 c) ∧ Dsk w0 w' db (stepP p o) A ∧ Kp A W w' := by
  obtain ⟨ok, oa, oz, on, ovb, oB, ovk, okp⟩ := o
  have HOk := hid ho
  have HD := hid h
  dsimp only
  clear ho h
  have HRw := hid (show ∀ X, Old w0 X → Rw X ovb oB from fun X u => HOk.out.2.2.1.old u)
  have HRb := hid (show ∀ X, oB ≠ [] → ∀ g, ovb.ownBlock = some g → g < w0.heap.size ∨ g ∈ A from fun (X : Unit) h0 g e => .inl (HOk.out.2.2.1.lt (List.length_pos_iff.2 h0) g e))
  have HNn := hid HOk.out.2.1
  have HW0 := hid (show Old w0 W from HD.out.base)
  clear HOk
  by_cases c1 : ok = 1
  · subst c1
    have HP := hid (show stepP p ⟨1, oa, oz, on, ovb, oB, ovk, okp⟩ = createP p oa from by simp [stepP])
    go_enter Try.func7, Try.ntmps7
    go_wp2_with (go_at_call 14; refine (createD w0 _ db p A oa (HD.out.old ((Old.refl W).alloc _))).mono ?_; rintro e w1 ⟨rfl, d1, k1⟩; have D1 := hid d1; have K1 := hid k1; clear d1 k1)
    go_ret
    exact ⟨_, rfl, by rw [HP.out]; exact D1.out, (Kp.old ((Old.refl W).alloc _)).trans K1.out⟩
  by_cases c2 : ok = 2
  · subst c2
    clear c1
    have HP := hid (show stepP p ⟨2, oa, oz, on, ovb, oB, ovk, okp⟩ = removeP p oa from by simp [stepP])
    go_enter Try.func7, Try.ntmps7
    go_wp2_with (go_at_call 23; refine (removeD w0 _ db p A oa (HD.out.old ((Old.refl W).alloc _))).mono ?_; rintro e w1 ⟨rfl, d1, k1⟩; have D1 := hid d1; have K1 := hid k1; clear d1 k1)
    go_ret
    exact ⟨_, rfl, by rw [HP.out]; exact D1.out, (Kp.old ((Old.refl W).alloc _)).trans K1.out⟩
  by_cases c3 : ok = 3
  · subst c3
    clear c1 c2
    have HP := hid (show stepP p ⟨3, oa, oz, on, ovb, oB, ovk, okp⟩ = renameP p oa oz from by simp [stepP])
    go_enter Try.func7, Try.ntmps7
    go_wp2_with (go_at_call 24; refine (renameD w0 _ db p A oa oz (HD.out.old ((Old.refl W).alloc _))).mono ?_; rintro e w1 ⟨rfl, d1, k1⟩; have D1 := hid d1; have K1 := hid k1; clear d1 k1)
    go_ret
    exact ⟨_, rfl, by rw [HP.out]; exact D1.out, (Kp.old ((Old.refl W).alloc _)).trans K1.out⟩
  by_cases c4 : ok = 4
  · subst c4
    clear c1 c2 c3
    have HP := hid (show stepP p ⟨4, oa, oz, on, ovb, oB, ovk, okp⟩ = writeP p oa on oB from by simp [stepP])
    go_enter Try.func7, Try.ntmps7
    go_wp2_with (go_at_call 15; refine (writeD w0 _ db p A oa on _ oB (HD.out.old ((Old.refl W).alloc _)) (HRw.out _ (HW0.out.alloc _)) (HRb.out ()) HNn.out).mono ?_; rintro e w1 ⟨rfl, d1, k1⟩; have D1 := hid d1; have K1 := hid k1; clear d1 k1)
    go_ret
    exact ⟨_, rfl, by rw [HP.out]; exact D1.out, (Kp.old ((Old.refl W).alloc _)).trans K1.out⟩
  by_cases c5 : ok = 5
  · subst c5
    clear c1 c2 c3 c4
    have HP := hid (show stepP p ⟨5, oa, oz, on, ovb, oB, ovk, okp⟩ = cutP p oa on from by simp [stepP])
    go_enter Try.func7, Try.ntmps7
    go_wp2_with (go_at_call 25; refine (cutD w0 _ db p A oa on (HD.out.old ((Old.refl W).alloc _))).mono ?_; rintro e w1 ⟨rfl, d1, k1⟩; have D1 := hid d1; have K1 := hid k1; clear d1 k1)
    go_ret
    exact ⟨_, rfl, by rw [HP.out]; exact D1.out, (Kp.old ((Old.refl W).alloc _)).trans K1.out⟩
  have HP := hid (show stepP p ⟨ok, oa, oz, on, ovb, oB, ovk, okp⟩ = syncP p oa from by unfold stepP; dsimp only; rw [if_neg c1, if_neg c2, if_neg c3, if_neg c4, if_neg c5])
  go_enter Try.func7, Try.ntmps7
  go_wp2_with (go_at_call 16; refine (syncD w0 _ db p A oa (HD.out.old ((Old.refl W).alloc _))).mono ?_; rintro e w1 ⟨rfl, d1, k1⟩; have D1 := hid d1; have K1 := hid k1; clear d1 k1)
  go_ret
  exact ⟨_, rfl, by rw [HP.out]; exact D1.out, (Kp.old ((Old.refl W).alloc _)).trans K1.out⟩
end Go.Proofs.Ytibeeamenhcngaa
