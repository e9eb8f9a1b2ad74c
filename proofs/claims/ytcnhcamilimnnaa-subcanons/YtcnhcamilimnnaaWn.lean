/- The law SubCanons, walked; conditions: the lengths fit. -/
import Derived.Test.YtcnhcamilimnnaaWm
namespace Go.Proofs.Ytcnhcamilimnnaa
open Go.RowKit
set_option linter.unusedVariables false
attribute [local go_sem] run_bits run_frombits run_store_float eqF
set_option maxHeartbeats 4000000 in
set_option maxRecDepth 20000 in
theorem canonsLaw (s1 s2 s3 : Int) (a1 a2 a3 : Option Addr) (n1 n2 n3 c1 c2 c3 : Nat) (x1 x3 : Nat → Nat) (f2 : Nat → Sp) (b1 : n1 ≤ 17592186044000) (b2 : n2 ≤ 5864062014805) (b3 : n3 ≤ 17592186044000) (w : World) (h1 : FRow w (.slice a1 n1 c1) n1 x1) (h2 : SRow w (.slice a2 n2 c2) n2 f2) (h3 : FRow w (.slice a3 n3 c3) n3 x3) :
    Calls Try.prog 3 #[.agg #[.int .i64 s1, .int .i64 s2, .int .i64 s3, .slice a1 n1 c1, .slice a2 n2 c2, .slice a3 n3 c3]] w fun e w' => e = .returned (.bool true) ∧ Old w w' := by
  obtain ⟨t1, t2, t3, m1, m2, m3, y1, y3, g2, cc, hm, A, B⟩ := canons_pair s1 s2 s3 a1 a2 a3 n1 n2 n3 c1 c2 c3 x1 x3 f2 b1 b2 b3 w h1 h2 h3
  have HA := hid A
  have HB := hid B
  have H1 := hid h1
  have HB1 := hid b1
  have HM := hid hm
  clear A B h1 h2 h3 b1 b2 b3 hm
  have s0 : SubAt w.heap.size s1 s2 s3 (.slice a1 n1 c1) (.slice a2 n2 c2) (.slice a3 n3 c3) (w.alloc (.cells #[.int .i64 s1, .int .i64 s2, .int .i64 s3, .slice a1 n1 c1, .slice a2 n2 c2, .slice a3 n3 c3] 25)) := by simp [SubAt]
  have S0 := hid s0
  clear s0
  go_enter Try.func3, Try.ntmps3
  go_upto_region 3 with (go_at_call 4; refine (canonical_any _).mono ?_; rintro e wA ⟨rfl, uA⟩; have UA := hid uA; clear uA)
  have UW := hid (((Old.refl w).alloc _).trans UA.out)
  have SA := hid (SubAt.old UA.out S0.out)
  clear UA S0
  obtain ⟨e0, e1, e2, e3, e4, e5⟩ := SA.out
  have eX := ((Old.refl wA).alloc (.cells #[] 33)).keep e3
  have zA := UW.out.size
  go_upto_region 4 with (first | (at_builtin; refine wp_appFW rfl (.tmp 11) (.tmp 13) rfl wA.heap.size _ _ n1 x1 rfl rfl (OwnF.empty (Nat.le_refl _) rfl) (H1.out.old (UW.out.alloc _)) HB1.out (by simp) ?_; intro v3 w3 r3 u3; have R3 := hid r3; have U3 := hid (Old.below ((Old.refl wA).alloc _) u3); clear r3 u3))
  obtain ⟨_, k1, k2, hv3, _⟩ := R3.out
  subst hv3
  clear e0 e1 e2 e3 e4 e5 eX
  have SB := hid (SubAt.old U3.out SA.out)
  have UX := hid (UW.out.trans U3.out)
  clear SA U3 UW zA
  obtain ⟨e0, e1, e2, e3, e4, e5⟩ := SB.out
  go_upto_region 5 with (first | (go_at_call 5; refine (HA.out _ UX.out).mono ?_; rintro e w4 ⟨p1, p2, p3, q1, q2, q3, rfl, r4, x4, u4⟩; have R4 := hid r4; have X4 := hid x4; have U4 := hid u4; clear r4 x4 u4))
  have T5 := hid (show SubAt w4.heap.size t1 t2 t3 (.slice p1 m1 q1) (.slice p2 m2 q2) (.slice p3 m3 q3) (w4.alloc (.cells #[.int .i64 t1, .int .i64 t2, .int .i64 t3, .slice p1 m1 q1, .slice p2 m2 q2, .slice p3 m3 q3] 25)) by simp [SubAt])
  have V5 := hid ((Old.refl w4).alloc (.cells #[.int .i64 t1, .int .i64 t2, .int .i64 t3, .slice p1 m1 q1, .slice p2 m2 q2, .slice p3 m3 q3] 25))
  generalize (w4.alloc (.cells #[.int .i64 t1, .int .i64 t2, .int .i64 t3, .slice p1 m1 q1, .slice p2 m2 q2, .slice p3 m3 q3] 25)) = w5 at *
  have UY := hid ((UX.out.trans U4.out).trans V5.out)
  clear e0 e1 e2 e3 e4 e5
  have SC := hid (SubAt.old (U4.out.trans V5.out) SB.out)
  obtain ⟨e0, e1, e2, e3, e4, e5⟩ := SC.out
  go_upto_region 6 with (first | (go_at_call 6; refine (HB.out _ UY.out).mono ?_; rintro e w6 ⟨r1, r2, r3, z1, z2, z3, rfl, r6, x6, u6⟩; have R6 := hid r6; have U6 := hid u6; clear r6 x6 u6))
  have T7 := hid (show SubAt w6.heap.size t1 t2 t3 (.slice r1 m1 z1) (.slice r2 m2 z2) (.slice r3 m3 z3) (w6.alloc (.cells #[.int .i64 t1, .int .i64 t2, .int .i64 t3, .slice r1 m1 z1, .slice r2 m2 z2, .slice r3 m3 z3] 25)) by simp [SubAt])
  have V7 := hid ((Old.refl w6).alloc (.cells #[.int .i64 t1, .int .i64 t2, .int .i64 t3, .slice r1 m1 z1, .slice r2 m2 z2, .slice r3 m3 z3] 25))
  generalize (w6.alloc (.cells #[.int .i64 t1, .int .i64 t2, .int .i64 t3, .slice r1 m1 z1, .slice r2 m2 z2, .slice r3 m3 z3] 25)) = w7 at *
  clear e0 e1 e2 e3 e4 e5
  have U57 := hid (U6.out.trans V7.out)
  have HS := hid (fun W (hW : Old w7 W) => refSame_eq t1 t2 t3 p1 p2 p3 r1 r2 r3 m1 m2 m3 q1 q2 q3 z1 z2 z3 y1 y3 g2 W (R4.out.1.old ((V5.out.trans U57.out).trans hW)) (R4.out.2.1.old ((V5.out.trans U57.out).trans hW)) (R4.out.2.2.old ((V5.out.trans U57.out).trans hW)) (R6.out.1.old (V7.out.trans hW)) (R6.out.2.1.old (V7.out.trans hW)) (R6.out.2.2.old (V7.out.trans hW)))
  have T5' := hid (SubAt.old U57.out T5.out)
  obtain ⟨d0, d1, d2, d3, d4, d5⟩ := T5'.out
  obtain ⟨f0, f1, f2', f3, f4, f5⟩ := T7.out
  go_upto_region 8 with (first | (go_at_call 7; refine (HS.out _ (Old.refl _)).mono ?_; rintro e w8 ⟨rfl, u8⟩; have U8 := hid u8; clear u8))
  have T8 := hid (SubAt.old U8.out T5'.out)
  have U38 := hid ((((U4.out.trans V5.out).trans U57.out).trans U8.out))
  have X8 := hid (show 0 < m1 → ∃ g, p1 = some ⟨g, 0, none⟩ ∧ FX w3.heap.size w8 g m1 ∧ g ≠ w4.heap.size from fun h0 => by
    obtain ⟨g, e, fx⟩ := X4.out h0
    obtain ⟨⟨z, hz⟩, _⟩ := fx.2 0 h0
    have := World.block_lt_of_cell? w4 _ hz
    exact ⟨g, e, fx.old ((V5.out.trans U57.out).trans U8.out), by simp at this; omega⟩)
  clear d0 d1 d2 d3 d4 d5 f0 f1 f2' f3 f4 f5 HS HA HB U57 T5' T7 T5 V5 V7 U6 R6 UY SC R4 X4 U8
  obtain ⟨d0, d1, d2, d3, d4, d5⟩ := T8.out
  have hmm : m1 ≤ 9223372036854775807 := by have := HM.out; omega
  go_wp2
  go_loopw [37] (fun i wr => ∃ k : Nat, k ≤ m1 ∧ i = .int .i64 (k : Nat) ∧ SubAt w4.heap.size t1 t2 t3 (.slice p1 m1 q1) (.slice p2 m2 q2) (.slice p3 m3 q3) wr ∧ (0 < m1 → ∃ g, p1 = some ⟨g, 0, none⟩ ∧ FX w3.heap.size wr g m1 ∧ g ≠ w4.heap.size) ∧ Old w3 wr) (fun i _ => m1 - (intOf i).toNat)
  case atStart => exact ⟨0, Nat.zero_le _, rfl, T8.out, X8.out, U38.out⟩
  case round =>
    clear d0 d1 d2 d3 d4 d5
    obtain ⟨k, hk, rfl, ht, hx, hu⟩ := hrel
    have HT := hid ht
    have HX := hid hx
    have HU := hid hu
    clear ht hx hu
    by_cases hlt : k < m1
    · obtain ⟨g, rfl, hfx, hne⟩ := HX.out (by omega)
      obtain ⟨⟨z, hz⟩, hf⟩ := hfx.2 k hlt
      have hgb := hfx.1
      have HFX := hid hfx
      have HNE := hid hne
      have HGB := hid hgb
      have l1 : (0 : Int) ≤ (k : Int) := by omega
      have l2 : (k : Int) < (m1 : Int) := by omega
      obtain ⟨d0, d1, d2, d3, d4, d5⟩ := HT.out
      clear hfx hne hgb
      go_wp2
      go_roundw
      case rel => exact ⟨k + 1, hlt, by go_num, HT.out.otherB HNE.out _, fun _ => ⟨g, rfl, HFX.out.set k _, HNE.out⟩, HU.out.setCell HGB.out _⟩
      case measure => simp [intOf]; omega
    · obtain rfl : k = m1 := by omega
      have HS := hid (sameF (.slice k1 n1 k2) (.slice a1 n1 c1) n1 x1 wr (R3.out.old HU.out) (H1.out.old (UX.out.trans HU.out)))
      obtain ⟨e0, e1, e2, e3, e4, e5⟩ := SubAt.old HU.out SB.out
      go_wp2_with (go_at_call 8; refine HS.out.mono ?_; rintro e w9 ⟨rfl, u9⟩; have U9 := hid u9; clear u9)
      go_ret
      exact ⟨rfl, (UX.out.trans HU.out).trans U9.out⟩
end Go.Proofs.Ytcnhcamilimnnaa
