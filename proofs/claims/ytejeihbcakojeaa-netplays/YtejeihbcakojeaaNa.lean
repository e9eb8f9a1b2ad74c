/- The example that the laws of layer 19 begin with; no condition. -/
import Derived.Test.YtejeihbcakojeaaN9
import Derived.Lib.SlBytesConst
namespace Go.Proofs.Ytejeihbcakojeaa
open Go.RowKit Go.Lib
set_option linter.unusedVariables false
set_option linter.unusedSimpArgs false
set_option maxRecDepth 20000
theorem Rw.oneM (w : World) (c g : Nat) (fr : Nat × Nat) (hc : c < 256) (hg : w.heap.size = g) : Rw (w.alloc (.cells #[.int .u8 (c : Int)] 5 fr)) (.slice (some ⟨g, 0, none⟩) 1 1) [c] := by
  subst hg
  refine .inr ⟨by simp, by simp [maxLen], w.heap.size, 0, 1, rfl, fun i hi => ?_, by simp, by simp [maxLen]⟩
  have : i = 0 := by simp at hi; omega
  subst this
  refine ⟨by simp [gd]; omega, ?_⟩
  rw [Nat.add_zero, World.cell?_alloc_mark]
  simp [gd]
def s1 (c : Nat) : ByteArray := ⟨#[UInt8.ofNat c]⟩
theorem conv1 (w : World) (v : Value) (c : Nat) (hc : c < 256) (h : Own w v [c]) : ∃ g cap, v = .slice (some ⟨g, 0, none⟩) 1 cap ∧ (convert 26 9 (.slice (some ⟨g, 0, none⟩) 1 cap)).run Try.prog w = .ok (.string (s1 c)) w := by
  obtain ⟨b, off, cap, rfl, hcell, _⟩ := h.row.cells (by simp)
  obtain ⟨g, cap', e⟩ : ∃ g cap', Value.slice (some ⟨b, off, none⟩) [c].length cap = .slice (some ⟨g, 0, none⟩) 1 cap' := by
    rcases h.cases with ⟨e, _⟩ | ⟨g, cap', _, e, _⟩
    · cases e
    · exact ⟨g, cap', e⟩
  cases e
  refine ⟨b, cap, rfl, ?_⟩
  exact Go.Lib.run_convert_whole (P := Try.prog) w 26 5 9 Try.underlying26 Try.underlying5 Try.underlying9 b 0 (s1 c) (fun i hi => by
    have hi0 : i = 0 := by have : (s1 c).size = 1 := rfl; omega
    subst hi0
    rw [hcell 0 (.int .u8 (c : Int)) rfl]
    have : ((s1 c)[0]).toNat = c := by show (UInt8.ofNat c).toNat = c; simp; omega
    rw [this]) cap
theorem e1 : sendC (mostN 9) [] = 0 ∧ sendP (mostN 9) [] (0, 0, [97]) = [(0, 0, [97])] := ⟨by kernel_rfl, by kernel_rfl⟩
theorem e2 : sendC (mostN 9) [(0, 0, [97])] = 0 ∧ sendP (mostN 9) [(0, 0, [97])] (0, 0, [98]) = [(0, 0, [97]), (0, 0, [98])] := ⟨by kernel_rfl, by kernel_rfl⟩
theorem e3 : dblB (mostN 9) [(0, 0, [97]), (0, 0, [98])] 0 = true ∧ dblP (mostN 9) [(0, 0, [97]), (0, 0, [98])] 0 = [(0, 0, [97]), (0, 0, [98]), (0, 0, [97])] := ⟨by kernel_rfl, by kernel_rfl⟩
theorem e4 : swpB [(0, 0, [97]), (0, 0, [98]), (0, 0, [97])] 0 1 = true ∧ swpP [(0, 0, [97]), (0, 0, [98]), (0, 0, [97])] 0 1 = [(0, 0, [98]), (0, 0, [97]), (0, 0, [97])] := ⟨by kernel_rfl, by kernel_rfl⟩
theorem three {Z : List Lt} {a b c : PL} (h : Z.map Lt.p = [a, b, c]) : ∃ x y z, Z = [x, y, z] ∧ x.p = a ∧ y.p = b ∧ z.p = c := by
  match Z, h with
  | [x, y, z], h => simp at h; exact ⟨x, y, z, rfl, h.1, h.2.1, h.2.2⟩
set_option maxHeartbeats 2000000 in
set_option maxRecDepth 20000 in
theorem alive_any (w : World) : Calls Try.prog 7 #[] w fun e w' => e = .returned (.bool true) ∧ Old w w' := by
  have tok1 : True := trivial
  have kc := fun (w : World) (C : Array Value) (n c : Nat) => Lib.run_convert_bytes_const (P := Try.prog) w 26 5 C n c Try.underlying26 Try.underlying5
  go_enter Try.func7, Try.ntmps7
  go_upto_region 4 with (first | (go_at_call 6; refine (newN w _ 9 (Old.refl _)).mono ?_; rintro e w1 ⟨nb, rfl, d1, _⟩; have D1 := hid d1; clear d1) | (go_at_call 8; have _t := tok1; clear tok1 _t; refine (sendN w _ nb _ _ _ 0 0 _ [97] (D1.out.old ((Old.refl w1).alloc _)) (Rw.oneM w1 97 _ _ (by omega) rfl) (by simp)).mono ?_; rintro e w2 ⟨rfl, d2, -⟩; rw [e1.1]; rw [e1.2] at d2; have D2 := hid d2; clear d2) | (go_at_call 8; refine (sendN w _ nb _ _ _ 0 0 _ [98] (D2.out.old ((Old.refl w2).alloc _)) (Rw.oneM w2 98 _ _ (by omega) rfl) (by simp)).mono ?_; rintro e w3 ⟨rfl, d3, -⟩; rw [e2.1]; rw [e2.2] at d3; have D3 := hid d3; clear d3) | (go_at_call 19; refine (doubleN w _ nb _ _ _ 0 D3.out).mono ?_; rintro e w4 ⟨rfl, d4, -⟩; rw [e3.1]; rw [e3.2] at d4; have D4 := hid d4; clear d4) | (go_at_call 20; refine (swapN w _ nb _ _ _ 0 1 D4.out).mono ?_; rintro e w5 ⟨rfl, d5, -⟩; rw [e4.1]; rw [e4.2] at d5; have D5 := hid d5; clear d5))
  clear D1 D2 D3 D4
  go_upto_region 5 with (go_at_call 14; refine (allN w _ nb _ _ _ D5.out).mono ?_; rintro e w6 ⟨go, Z, rfl, a6, u6⟩; have A6 := hid a6; have D6 := hid (D5.out.old u6); clear a6 u6 D5)
  obtain ⟨x, y, z, rfl, px, py, pz⟩ := three A6.out.p
  have L0 : x.L = [98] := congrArg (·.2.2) px
  have L1 : y.L = [97] := congrArg (·.2.2) py
  have L2 : z.L = [97] := congrArg (·.2.2) pz
  have o0 := (A6.out.own x (by simp)).1
  have o1 := (A6.out.own y (by simp)).1
  have o2 := (A6.out.own z (by simp)).1
  obtain ⟨g0, c0, q0, lc, lm, ⟨-, -, k0⟩, -⟩ := A6.out.row.at 0 (by simp)
  obtain ⟨g1, c1, q1, -, -, ⟨-, -, k1⟩, -⟩ := A6.out.row.at 1 (by simp)
  obtain ⟨g2, c2, q2, -, -, ⟨-, -, k2⟩, -⟩ := A6.out.row.at 2 (by simp)
  cases (Value.slice.inj q0).1
  cases (Value.slice.inj q1).1
  cases (Value.slice.inj q2).1
  clear q0 q1 q2 px py pz A6 lc lm
  rw [L0] at o0
  rw [L1] at o1
  rw [L2] at o2
  obtain ⟨h0, cc0, v0, t0⟩ := conv1 w6 _ 98 (by omega) o0
  obtain ⟨h1, cc1, v1, t1⟩ := conv1 w6 _ 97 (by omega) o1
  obtain ⟨h2, cc2, v2, t2⟩ := conv1 w6 _ 97 (by omega) o2
  simp only [List.getElem_cons_zero, List.getElem_cons_succ, v0, v1, v2] at k0 k1 k2
  simp at k0 k1 k2
  have s98 : (s1 98).toList = [98] := by kernel_rfl
  have s97 : (s1 97).toList = [97] := by kernel_rfl
  clear o0 o1 o2 v0 v1 v2 L0 L1 L2
  go_wp2_with (go_at_call 11; refine (lenN w _ nb _ _ _ D6.out).mono ?_; rintro e w' ⟨rfl, hw⟩; have hw2 := hw.symm; subst hw2)
  go_ret
  exact ⟨rfl, D6.out.base⟩
end Go.Proofs.Ytejeihbcakojeaa
