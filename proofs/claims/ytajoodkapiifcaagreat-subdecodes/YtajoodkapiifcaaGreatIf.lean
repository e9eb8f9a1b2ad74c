/- The law SubDecodes at all bytes; conditions: the bytes lie in memory. -/
import Derived.Test.YtajoodkapiifcaaGreatIe
import Derived.Test.YtajoodkapiifcaaGreatIh
namespace Go.Proofs.YtajoodkapiifcaaGreat
open Go.RowKit Go.Lib
set_option linter.unusedVariables false
set_option linter.unusedSimpArgs false
set_option maxRecDepth 20000
def zeroS : Sb := ⟨0, 0, 0, none, none, none, 0, 0, 0, 0, 0, 0, fun _ => 0, fun _ => 0, fun _ => ⟨0, 0, false, false⟩⟩
theorem zeroS_ok (w : World) : zeroS.Ok w := ⟨⟨by simp [zeroS], _, _, rfl, fun i hi => by simp [zeroS] at hi⟩, ⟨by simp [zeroS], _, _, rfl, fun i hi => by simp [zeroS] at hi⟩, ⟨by simp [zeroS], _, _, rfl, fun i hi => by simp [zeroS] at hi⟩, by simp [zeroS], by simp [zeroS], by simp [zeroS]⟩
theorem refB_zero : refB zeroS zeroS = true := by rfl
theorem refB_sb (r : Raw) (p1 p2 p3 : Option Addr) (q1 q2 q3 : Nat) (a1 a2 a3 : Option Addr) (c1 c2 c3 : Nat) : refB (r.sb p1 p2 p3 q1 q2 q3) (r.sb a1 a2 a3 c1 c2 c3) = true := by
 unfold refB Raw.sb
 simp only
 rw [sameU_of (fun i hi => rfl), sameU_of (fun i hi => rfl), spU_of (fun i hi => rfl)]
 simp
theorem raw_one {L : List Nat} {r r' : Raw} (h : r.Ok) (h' : r'.Ok) (e : L = r.enc []) (e' : L = r'.enc []) : r' = r := by
 have a := tkSub_at r h []
 have b := tkSub_at r' h' []
 rw [← e] at a
 rw [← e', a] at b
 injection b with q
 injection q with q1
 exact q1.symm
attribute [local go_sem] run_bits run_frombits run_store_float eqF
set_option maxHeartbeats 1000000 in
theorem decodes_no (v : Value) (L : List Nat) (hL : LB L) (hno : ∀ r : Raw, r.Ok → r.chk = 0 → L ≠ r.enc []) (w : World) (hB : Pk.ByRow w v L.length (Pk.gd L)) :
    Calls Tryz.prog 4 #[v] w fun e w' => e = .returned (.bool true) ∧ Old w w' := by
 have HD := hid (fun (W : World) (u : Old w W) => decode_no L hL hno W v (hB.up u))
 have HR := hid (show ∀ (W : World), Old w W → Calls Tryz.prog 12 #[v] W fun e w' => e = .returned (.tuple #[.agg #[.int .i64 0, .int .i64 0, .int .i64 0, .slice none 0 0, .slice none 0 0, .slice none 0 0], .bool false]) ∧ Old W w' from fun W u => (refDecode_any v L hL W (hB.up u)).mono fun e w' q => by
  rcases q with ⟨u', ⟨_, q⟩ | ⟨r, _, _, _, _, _, _, ⟨h1, h2, h3⟩, _⟩⟩
  ·exact ⟨q, u'⟩
  ·exact absurd h3 (hno r h1 h2))
 have HS := hid (show ∀ W, Calls Tryz.prog 13 #[.agg #[.int .i64 0, .int .i64 0, .int .i64 0, .slice none 0 0, .slice none 0 0, .slice none 0 0], .agg #[.int .i64 0, .int .i64 0, .int .i64 0, .slice none 0 0, .slice none 0 0, .slice none 0 0]] W fun e w' => e = .returned (.bool true) ∧ Old W w' from fun W => by
  have q := refSameG zeroS zeroS W (zeroS_ok W) (zeroS_ok W)
  rw [refB_zero] at q
  exact q)
 clear hB hno hL
 unfold NoPost at HD
 go_enter Tryz.func4, Tryz.ntmps4
 go_upto_region 3 with (first | (go_at_call 6; refine (coding_any _).mono ?_; rintro e w2 ⟨rfl, u2⟩; have U2 := hid u2; clear u2))
 go_upto_region 4 with (first | (go_at_call 11; refine (HD.out _ U2.out).mono ?_; rintro e w3 ⟨rfl, u3⟩; have U3 := hid (U2.out.trans u3); clear u3))
 generalize hw4 : w3.alloc (.cells #[.int .i64 0, .int .i64 0, .int .i64 0, .slice none 0 0, .slice none 0 0, .slice none 0 0] 28) = w4 at *
 generalize htb : w3.heap.size = tb at *
 obtain ⟨hT, hV⟩ := sub_new w3 0 0 0 _ _ _ w4 hw4 tb htb
 have T4 := hid hT
 have U4 := hid (U3.out.trans hV)
 clear hw4 htb hT hV U2 U3 HD
 go_upto_region 5 with (first | (go_at_call 12; refine (HR.out _ U4.out).mono ?_; rintro e w5 ⟨rfl, u5⟩; have U5 := hid (U4.out.trans u5); have T5 := hid (SubAt.old u5 T4.out); clear u5))
 generalize hw6 : w5.alloc (.cells #[.int .i64 0, .int .i64 0, .int .i64 0, .slice none 0 0, .slice none 0 0, .slice none 0 0] 28) = w6 at *
 have hV : Old w5 w6 := by rw [← hw6]; exact (Old.refl _).alloc _
 have T6 := hid (SubAt.old hV T5.out)
 have U6 := hid (U5.out.trans hV)
 clear hw6 hV T4 U4 T5 U5 HR
 obtain ⟨k0, k1, k2, k3, k4, k5⟩ := T6.out
 go_wp2_with (first | (go_at_call 13; refine (HS.out _).mono ?_; rintro e w7 ⟨rfl, u7⟩; have U7 := hid (U6.out.trans u7); clear u7))
 go_ret
 exact ⟨rfl, U7.out⟩
set_option maxHeartbeats 1000000 in
theorem decodes_yes (r : Raw) (hr : r.Ok) (hc : r.chk = 0) (hL : LB (r.enc [])) (v : Value) (w : World) (hB : Pk.ByRow w v (r.enc []).length (Pk.gd (r.enc []))) :
    Calls Tryz.prog 4 #[v] w fun e w' => e = .returned (.bool true) ∧ Old w w' := by
 have hOk : ∀ (W : World) (p1 p2 p3 : Option Addr) (q1 q2 q3 : Nat), FRow W (.slice p1 r.xs.length q1) r.xs.length (atN r.xs) → SRow W (.slice p2 (prs r.ys).length q2) (prs r.ys).length (atS (prs r.ys)) → FRow W (.slice p3 r.zs.length q3) r.zs.length (atN r.zs) → (r.sb p1 p2 p3 q1 q2 q3).Ok W := fun W p1 p2 p3 q1 q2 q3 h1 h2 h3 => ⟨h1, h2, h3, by have := hr.n1; simp only [Raw.sb]; omega, by have := hr.n2; simp only [Raw.sb]; omega, by have := hr.n3; simp only [Raw.sb]; omega⟩
 have HD := hid (fun (W : World) (u : Old w W) => decode_yes r hr hc W v (hB.up u))
 have HR := hid (show ∀ (W : World), Old w W → Calls Tryz.prog 12 #[v] W fun e w' => ∃ (p1 p2 p3 : Option Addr) (q1 q2 q3 : Nat), e = .returned (.tuple #[.agg #[.int .i64 r.s1, .int .i64 r.s2, .int .i64 r.s3, .slice p1 r.xs.length q1, .slice p2 (prs r.ys).length q2, .slice p3 r.zs.length q3], .bool true]) ∧ (FRow w' (.slice p1 r.xs.length q1) r.xs.length (atN r.xs) ∧ SRow w' (.slice p2 (prs r.ys).length q2) (prs r.ys).length (atS (prs r.ys)) ∧ FRow w' (.slice p3 r.zs.length q3) r.zs.length (atN r.zs)) ∧ Old W w' from fun W u => (refDecode_any v _ hL W (hB.up u)).mono fun e w' q => by
  rcases q with ⟨u', ⟨q, _⟩ | ⟨r', p1, p2, p3, q1, q2, q3, ⟨h1, h2, h3⟩, he, hh⟩⟩
  ·exact absurd rfl (q r hr hc)
  ·obtain rfl := raw_one hr h1 rfl h3
   exact ⟨p1, p2, p3, q1, q2, q3, he, hh, u'⟩)
 have HS := hid (show ∀ (W : World) (p1 p2 p3 : Option Addr) (q1 q2 q3 : Nat) (a1 a2 a3 : Option Addr) (c1 c2 c3 : Nat), (FRow W (.slice p1 r.xs.length q1) r.xs.length (atN r.xs) ∧ SRow W (.slice p2 (prs r.ys).length q2) (prs r.ys).length (atS (prs r.ys)) ∧ FRow W (.slice p3 r.zs.length q3) r.zs.length (atN r.zs)) → (FRow W (.slice a1 r.xs.length c1) r.xs.length (atN r.xs) ∧ SRow W (.slice a2 (prs r.ys).length c2) (prs r.ys).length (atS (prs r.ys)) ∧ FRow W (.slice a3 r.zs.length c3) r.zs.length (atN r.zs)) → Calls Tryz.prog 13 #[.agg #[.int .i64 r.s1, .int .i64 r.s2, .int .i64 r.s3, .slice p1 r.xs.length q1, .slice p2 (prs r.ys).length q2, .slice p3 r.zs.length q3], .agg #[.int .i64 r.s1, .int .i64 r.s2, .int .i64 r.s3, .slice a1 r.xs.length c1, .slice a2 (prs r.ys).length c2, .slice a3 r.zs.length c3]] W fun e w' => e = .returned (.bool true) ∧ Old W w' from fun W p1 p2 p3 q1 q2 q3 a1 a2 a3 c1 c2 c3 h k => by
  have q := refSameG (r.sb p1 p2 p3 q1 q2 q3) (r.sb a1 a2 a3 c1 c2 c3) W (hOk W p1 p2 p3 q1 q2 q3 h.1 h.2.1 h.2.2) (hOk W a1 a2 a3 c1 c2 c3 k.1 k.2.1 k.2.2)
  rw [refB_sb] at q
  exact q)
 clear hB hL hOk hc hr
 unfold DecPost at HD
 generalize r.xs.length = n1 at *
 generalize (prs r.ys).length = n2 at *
 generalize r.zs.length = n3 at *
 generalize atN r.xs = x1 at *
 generalize atN r.zs = x3 at *
 generalize atS (prs r.ys) = f2 at *
 generalize r.s1 = s1 at *
 generalize r.s2 = s2 at *
 generalize r.s3 = s3 at *
 go_enter Tryz.func4, Tryz.ntmps4
 go_upto_region 3 with (first | (go_at_call 6; refine (coding_any _).mono ?_; rintro e w2 ⟨rfl, u2⟩; have U2 := hid u2; clear u2))
 go_upto_region 4 with (first | (go_at_call 11; refine (HD.out _ U2.out).mono ?_; rintro e w3 ⟨p1, p2, p3, q1, q2, q3, rfl, h3, u3⟩; have H3 := hid h3; have U3 := hid (U2.out.trans u3); clear h3 u3))
 generalize hw4 : w3.alloc (.cells #[.int .i64 s1, .int .i64 s2, .int .i64 s3, .slice p1 n1 q1, .slice p2 n2 q2, .slice p3 n3 q3] 28) = w4 at *
 generalize htb : w3.heap.size = tb at *
 obtain ⟨hT, hV⟩ := sub_new w3 s1 s2 s3 _ _ _ w4 hw4 tb htb
 have T4 := hid hT
 have U4 := hid (U3.out.trans hV)
 have H4 := hid (show FRow w4 (.slice p1 n1 q1) n1 x1 ∧ SRow w4 (.slice p2 n2 q2) n2 f2 ∧ FRow w4 (.slice p3 n3 q3) n3 x3 from ⟨H3.out.1.old hV, H3.out.2.1.old hV, H3.out.2.2.old hV⟩)
 clear hw4 htb hT hV U2 U3 HD H3
 go_upto_region 5 with (first | (go_at_call 12; refine (HR.out _ U4.out).mono ?_; rintro e w5 ⟨a1, a2, a3, c1, c2, c3, rfl, h5, u5⟩; have H5 := hid h5; have G5 := hid (show FRow w5 (.slice p1 n1 q1) n1 x1 ∧ SRow w5 (.slice p2 n2 q2) n2 f2 ∧ FRow w5 (.slice p3 n3 q3) n3 x3 from ⟨H4.out.1.old u5, H4.out.2.1.old u5, H4.out.2.2.old u5⟩); have U5 := hid (U4.out.trans u5); have T5 := hid (SubAt.old u5 T4.out); clear u5 h5))
 generalize hw6 : w5.alloc (.cells #[.int .i64 s1, .int .i64 s2, .int .i64 s3, .slice a1 n1 c1, .slice a2 n2 c2, .slice a3 n3 c3] 28) = w6 at *
 generalize hub : w5.heap.size = ub at *
 obtain ⟨hT, hV⟩ := sub_new w5 s1 s2 s3 _ _ _ w6 hw6 ub hub
 have R6 := hid hT
 have T6 := hid (SubAt.old hV T5.out)
 have U6 := hid (U5.out.trans hV)
 have K6 := hid (HS.out w6 p1 p2 p3 q1 q2 q3 a1 a2 a3 c1 c2 c3 ⟨G5.out.1.old hV, G5.out.2.1.old hV, G5.out.2.2.old hV⟩ ⟨H5.out.1.old hV, H5.out.2.1.old hV, H5.out.2.2.old hV⟩)
 clear hw6 hub hT hV T4 U4 T5 U5 HR H4 H5 G5 HS
 obtain ⟨k0, k1, k2, k3, k4, k5⟩ := T6.out
 obtain ⟨j0, j1, j2, j3, j4, j5⟩ := R6.out
 go_wp2_with (first | (go_at_call 13; refine K6.out.mono ?_; rintro e w7 ⟨rfl, u7⟩; have U7 := hid (U6.out.trans u7); clear u7))
 go_ret
 exact ⟨rfl, U7.out⟩
theorem decodesLaw (v : Value) (w : World) (h : ∃ (n : Nat) (x : Nat → Nat), Pk.ByRow w v n x) :
    Calls Tryz.prog 4 #[v] w fun e w' => e = .returned (.bool true) ∧ Old w w' := by
 obtain ⟨n, x, h⟩ := h
 obtain ⟨L, hL, hB⟩ := row_list h
 by_cases q : ∃ r : Raw, r.Ok ∧ r.chk = 0 ∧ L = r.enc []
 ·obtain ⟨r, hr, hc, rfl⟩ := q
  exact decodes_yes r hr hc hL v w hB
 ·exact decodes_no v L hL (fun r hr hc e => q ⟨r, hr, hc, e⟩) w hB
end Go.Proofs.YtajoodkapiifcaaGreat
