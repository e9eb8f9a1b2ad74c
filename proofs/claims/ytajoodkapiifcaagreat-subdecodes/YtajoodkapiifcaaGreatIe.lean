/- The law SubBack at all bytes; conditions: the bytes lie in memory. -/
import Derived.Test.YtajoodkapiifcaaGreatId
import Derived.Test.YtajoodkapiifcaaGreatScN
namespace Go.Proofs.YtajoodkapiifcaaGreat
open Go.RowKit Go.Lib
set_option linter.unusedVariables false
set_option linter.unusedSimpArgs false
set_option maxRecDepth 20000
theorem row_list {w : World} {v : Value} {n : Nat} {x : Nat → Nat} (h : Pk.ByRow w v n x) : ∃ L : List Nat, LB L ∧ Pk.ByRow w v L.length (Pk.gd L) := by
 refine ⟨(List.range n).map x, fun b hb => ?_, ?_⟩
 ·obtain ⟨i, hi, rfl⟩ := List.mem_map.1 hb
  exact h.lt i (List.mem_range.1 hi)
 ·have hl : ((List.range n).map x).length = n := by simp
  have hg : ∀ i, i < n → Pk.gd ((List.range n).map x) i = x i := fun i hi => by simp [Pk.gd, hi]
  rw [hl]
  rcases h with h | ⟨hn, hm, b, off, cap, hv, hc, hcp⟩
  ·exact .inl h
  ·exact .inr ⟨hn, hm, b, off, cap, hv, fun i hi => by rw [hg i hi]; exact hc i hi, hcp⟩
theorem LB.take {L : List Nat} (h : LB L) (k : Nat) : LB (L.take k) := fun b hb => h b (List.mem_of_mem_take hb)
theorem take_row {w : World} {b off cap : Nat} {L : List Nat} (h : Pk.ByRow w (.slice (some ⟨b, off, none⟩) L.length cap) L.length (Pk.gd L)) (k : Nat) (hk : k < L.length) : Pk.ByRow w (.slice (some ⟨b, off, none⟩) k cap) (L.take k).length (Pk.gd (L.take k)) := by
 have hl : (L.take k).length = k := by rw [List.length_take]; omega
 have hg : ∀ i, i < k → Pk.gd (L.take k) i = Pk.gd L i := fun i hi => by simp [Pk.gd, hi, List.getElem?_take]
 rw [hl]
 rcases h with ⟨h0, _⟩ | ⟨hn, hm, b', off', cap', hv, hc, hcp⟩
 ·omega
 ·cases hv
  by_cases h0 : k = 0
  ·subst h0; exact .inl ⟨rfl, _, _, rfl, fun h => by cases h⟩
  ·exact .inr ⟨by omega, by omega, b, off, cap, rfl, fun i hi => by rw [hg i hi]; exact hc i (by omega), by omega, hcp.2⟩
theorem no_part (r : Raw) (hr : r.Ok) (k : Nat) (hk : k < (r.enc []).length) : ∀ r' : Raw, r'.Ok → r'.chk = 0 → (r.enc []).take k ≠ r'.enc [] := by
 intro r' hr' _ he
 have e1 := tkSub_at r hr []
 have e2 : r.enc [] = r'.enc ((r.enc []).drop k) := by
  have q := r'.enc_app [] ((r.enc []).drop k)
  rw [← he, List.take_append_drop] at q
  exact q
 have e3 := tkSub_at r' hr' ((r.enc []).drop k)
 rw [← e2, e1] at e3
 have e4 : ([] : List Nat) = (r.enc []).drop k := by injection e3 with q; injection q
 have := congrArg List.length e4
 rw [List.length_drop] at this
 simp at this
 omega
theorem decode_yes (r : Raw) (hr : r.Ok) (hc : r.chk = 0) (w : World) (v : Value) (hB : Pk.ByRow w v (r.enc []).length (Pk.gd (r.enc []))) : Calls Tryz.prog 11 #[v] w fun e w' => DecPost r.s1 r.s2 r.s3 r.xs.length (prs r.ys).length r.zs.length (atN r.xs) (atN r.zs) (atS (prs r.ys)) w e w' := by
 rw [r.enc_bytes hr] at hB
 exact decode_ok r.s1 r.s2 r.s3 _ _ _ _ _ _ (fun i hi => (hr.f1 i hi).1) (fun i hi => ⟨(hr.f2.1 i hi).1.1, (hr.f2.1 i hi).2.1⟩) (fun i hi => (hr.f3 i hi).1) hc w v hB
def Raw.sb (r : Raw) (p1 p2 p3 : Option Addr) (q1 q2 q3 : Nat) : Sb := ⟨r.s1, r.s2, r.s3, p1, p2, p3, r.xs.length, (prs r.ys).length, r.zs.length, q1, q2, q3, atN r.xs, atN r.zs, atS (prs r.ys)⟩
theorem Raw.sb_enc (r : Raw) (hr : r.Ok) (p1 p2 p3 : Option Addr) (q1 q2 q3 : Nat) : (r.sb p1 p2 p3 q1 q2 q3).enc = r.enc [] := by
 rw [r.enc_bytes hr, ← encS_bytes]; rfl
theorem sameB_self (s : Sb) (h : s.chk = 0) : sameB s s = true := by
 unfold sameB
 rw [decide_eq_true h, decide_eq_true rfl]; rfl
theorem and_mask (a : Int) (m : Nat) (hm : m < 9223372036854775808) : ∃ M : Nat, M ≤ m ∧ bits .and .i64 a (m : Int) = (M : Int) := by
 refine ⟨(BitVec.ofInt 64 a &&& BitVec.ofInt 64 (m : Int)).toNat, ?_, ?_⟩
 ·rw [BitVec.toNat_and, BitVec.ofInt_natCast, BitVec.toNat_ofNat, Nat.mod_eq_of_lt (by omega)]
  exact Nat.and_le_right
 ·have h : (BitVec.ofInt 64 a &&& BitVec.ofInt 64 (m : Int)).toNat ≤ m := by
    rw [BitVec.toNat_and, BitVec.ofInt_natCast, BitVec.toNat_ofNat, Nat.mod_eq_of_lt (by omega)]
    exact Nat.and_le_right
  show IntKind.i64.wrap ((BitVec.ofInt 64 a &&& BitVec.ofInt 64 (m : Int)).toNat : Int) = _
  generalize (BitVec.ofInt 64 a &&& BitVec.ofInt 64 (m : Int)).toNat = r at *
  simp [IntKind.wrap, IntKind.bits, IntKind.signed]
  omega
theorem sameBytesL' (v u : Value) (L : List Nat) (w : World) (h1 : Pk.ByRow w v L.length (Pk.gd L)) (h2 : Pk.ByRow w u L.length (Pk.gd L)) : Calls Tryz.prog 15 #[v, u] w fun e w' => e = .returned (.bool true) ∧ Old w w' :=
 (Pk.sameBytes_eq v u L.length (Pk.gd L) (Pk.gd L) w h1 h2 (fun _ _ => rfl)).mono fun e w' h => ⟨h.1, by obtain ⟨m, q⟩ := h.2; rw [q]; exact (Old.refl w).drewN m⟩
attribute [local go_sem] run_bits run_frombits run_store_float eqF
set_option maxHeartbeats 2000000 in
theorem back_no (v : Value) (at_ : Int) (L : List Nat) (hL : LB L) (hno : ∀ r : Raw, r.Ok → r.chk = 0 → L ≠ r.enc []) (w : World) (hB : Pk.ByRow w v L.length (Pk.gd L)) :
    Calls Tryz.prog 5 #[v, .int .i64 at_] w fun e w' => e = .returned (.bool true) ∧ Old w w' := by
 have HD := hid (fun (W : World) (u : Old w W) => decode_no L hL hno W v (hB.up u))
 clear hB hno hL
 unfold NoPost at HD
 go_enter Tryz.func5, Tryz.ntmps5
 go_upto_region 3 with (first | (go_at_call 6; refine (coding_any _).mono ?_; rintro e w2 ⟨rfl, u2⟩; have U2 := hid u2; clear u2))
 go_upto_region 4 with (first | (go_at_call 11; refine (HD.out _ U2.out).mono ?_; rintro e w3 ⟨rfl, u3⟩; have U3 := hid (U2.out.trans u3); clear u3))
 have U4 := hid (U3.out.alloc (.cells #[.int .i64 0, .int .i64 0, .int .i64 0, .slice none 0 0, .slice none 0 0, .slice none 0 0] 28))
 clear HD U2 U3
 generalize w3.alloc (.cells #[.int .i64 0, .int .i64 0, .int .i64 0, .slice none 0 0, .slice none 0 0, .slice none 0 0] 28) = w4 at *
 go_wp2
 go_ret
 exact ⟨rfl, U4.out⟩
set_option maxHeartbeats 1000000 in
theorem back_yes (at_ : Int) (r : Raw) (hr : r.Ok) (hc : r.chk = 0) (hL : LB (r.enc [])) (w : World) (v : Value) (hB : Pk.ByRow w v (r.enc []).length (Pk.gd (r.enc []))) :
    Calls Tryz.prog 5 #[v, .int .i64 at_] w fun e w' => e = .returned (.bool true) ∧ Old w w' := by
 have hpos : 0 < (r.enc []).length := by
  have q := (Pk.num_len r.s1 hr.r1.1 hr.r1.2).1
  unfold Raw.enc
  rw [List.length_append]; omega
 obtain ⟨b, off, cap, rfl, hcc, hnc, hmx⟩ := hB.cells hpos
 obtain ⟨M, hM, eM⟩ := and_mask at_ 4095 (by omega)
 have hk : M % (r.enc []).length < (r.enc []).length := Nat.mod_lt _ hpos
 have HD := hid (fun (W : World) (u : Old w W) => decode_yes r hr hc W _ (hB.up u))
 have HN := hid (fun (W : World) (u : Old w W) => decode_no ((r.enc []).take (M % (r.enc []).length)) (hL.take _) (no_part r hr _ hk) W _ (take_row (hB.up u) _ hk))
 have HB := hid (fun (W : World) (u : Old w W) => hB.up u)
 have HS := hid (fun (W : World) (p1 p2 p3 : Option Addr) (q1 q2 q3 : Nat) (h1 : FRow W (.slice p1 r.xs.length q1) r.xs.length (atN r.xs)) (h2 : SRow W (.slice p2 (prs r.ys).length q2) (prs r.ys).length (atS (prs r.ys))) (h3 : FRow W (.slice p3 r.zs.length q3) r.zs.length (atN r.zs)) => (show (r.sb p1 p2 p3 q1 q2 q3).Ok W from ⟨h1, h2, h3, by have := hr.n1; simp only [Raw.sb]; omega, by have := hr.n2; simp only [Raw.sb]; omega, by have := hr.n3; simp only [Raw.sb]; omega⟩))
 have HE := hid (fun (W : World) (p1 p2 p3 : Option Addr) (q1 q2 q3 : Nat) (h : (r.sb p1 p2 p3 q1 q2 q3).Ok W) => by
  have q := (r.sb p1 p2 p3 q1 q2 q3).encode_ok W h hc
  rw [r.sb_enc hr] at q
  exact q)
 have HC := hid (fun (W : World) (p1 p2 p3 : Option Addr) (q1 q2 q3 : Nat) (h : (r.sb p1 p2 p3 q1 q2 q3).Ok W) => by
  have q := check_any r.s1 r.s2 r.s3 p1 p2 p3 r.xs.length (prs r.ys).length r.zs.length q1 q2 q3 (atN r.xs) (atN r.zs) (atS (prs r.ys)) h.b1 h.b2 h.b3 W h.h1 h.h2 h.h3
  rw [show chkV r.s1 r.s2 r.s3 r.xs.length (prs r.ys).length r.zs.length (atN r.xs) (atN r.zs) (atS (prs r.ys)) = 0 from hc] at q
  exact q)
 have HQ := hid (fun (W : World) (p1 p2 p3 : Option Addr) (q1 q2 q3 : Nat) (h : (r.sb p1 p2 p3 q1 q2 q3).Ok W) => by
  have q := subSame_any (r.sb p1 p2 p3 q1 q2 q3) (r.sb p1 p2 p3 q1 q2 q3) W h h
  rw [sameB_self (r.sb p1 p2 p3 q1 q2 q3) (show (r.sb p1 p2 p3 q1 q2 q3).chk = 0 from hc)] at q
  exact q)
 unfold NoPost at HN
 unfold DecPost at HD
 have HOk := hid (fun (W W' : World) (p1 p2 p3 : Option Addr) (q1 q2 q3 : Nat) (h : (r.sb p1 p2 p3 q1 q2 q3).Ok W) (u : Old W W') => h.old u)
 have HR := hid (fun (W : World) (u c : Value) (h1 : Pk.ByRow W u (r.enc []).length (Pk.gd (r.enc []))) (h2 : Pk.ByRow W c (r.enc []).length (Pk.gd (r.enc []))) => sameBytesL' u c (r.enc []) W h1 h2)
 unfold Raw.sb at *
 generalize r.xs.length = n1 at *
 generalize (prs r.ys).length = n2 at *
 generalize r.zs.length = n3 at *
 generalize atN r.xs = x1 at *
 generalize atN r.zs = x3 at *
 generalize atS (prs r.ys) = f2 at *
 generalize r.s1 = s1 at *
 generalize r.s2 = s2 at *
 generalize r.s3 = s3 at *
 generalize hNN : (r.enc []).length = N at *
 have HNN := hid hNN
 clear hNN
 unfold maxLen at hmx
 have hT : (bits .and .i64 at_ 4095).tmod (N : Int) = ((M % N : Nat) : Int) := by
  rw [show bits .and .i64 at_ 4095 = (M : Int) from eM, Int.tmod_eq_emod_of_nonneg (by omega)]
  rfl
 clear eM
 generalize M % N = k at *
 have l0 : (0 : Int) ≤ (k : Int) := by omega
 have l1 : (k : Int) ≤ (cap : Int) := by omega
 have l2 : ((N : Int) == 0) = false := by rw [beq_eq_false_iff_ne]; omega
 clear hcc hB hL hc hr
 go_enter Tryz.func5, Tryz.ntmps5
 go_upto_region 3 with (first | (go_at_call 6; refine (coding_any _).mono ?_; rintro e w2 ⟨rfl, u2⟩; have U2 := hid u2; clear u2))
 go_upto_region 4 with (first | (go_at_call 11; refine (HD.out _ U2.out).mono ?_; rintro e w3 ⟨p1, p2, p3, q1, q2, q3, rfl, h3, u3⟩; have H3 := hid h3; have U3 := hid (U2.out.trans u3); clear h3 u3))
 generalize hw4 : w3.alloc (.cells #[.int .i64 s1, .int .i64 s2, .int .i64 s3, .slice p1 n1 q1, .slice p2 n2 q2, .slice p3 n3 q3] 28) = w4 at *
 generalize htb : w3.heap.size = tb at *
 obtain ⟨hT, hV⟩ := sub_new w3 s1 s2 s3 _ _ _ w4 hw4 tb htb
 have T4 := hid hT
 have U4 := hid (U3.out.trans hV)
 have K4 := hid (HS.out w4 p1 p2 p3 q1 q2 q3 (H3.out.1.old hV) (H3.out.2.1.old hV) (H3.out.2.2.old hV))
 clear hw4 htb hT hV H3 U2 U3 HD HS
 obtain ⟨k0, k1, k2, k3, k4, k5⟩ := T4.out
 go_upto_region 7 with (first | (go_at_call 14; refine (HE.out _ _ _ _ _ _ _ K4.out).mono ?_; rintro e w5 ⟨b5, g5, c5, rfl, o5, q5, u5⟩; have O5 := hid (show Pk.ByRow w5 _ N (Pk.gd (r.enc [])) from by (have qq := o5.row; rw [HNN.out] at qq; exact qq)); have U5 := hid (U4.out.trans u5); have T5 := hid (SubAt.old u5 T4.out); have K5 := hid (HOk.out _ _ _ _ _ _ _ _ K4.out u5); clear o5 q5 u5))
 clear k0 k1 k2 k3 k4 k5 T4 K4 U4 HE
 go_upto_region 9 with (first | (go_at_call 15; refine (HR.out _ _ _ (HB.out _ U5.out) O5.out).mono ?_; rintro e w6 ⟨rfl, u6⟩; have U6 := hid (U5.out.trans u6); have K6 := hid (HOk.out _ _ _ _ _ _ _ _ K5.out u6); obtain ⟨k0, k1, k2, k3, k4, k5⟩ := SubAt.old u6 T5.out; have T6 := hid (SubAt.old u6 T5.out); clear u6) | (go_at_call 16; refine (HC.out _ _ _ _ _ _ _ K6.out).mono ?_; rintro e w7 ⟨rfl, u7⟩; have U7 := hid (U6.out.trans u7); have K7 := hid (HOk.out _ _ _ _ _ _ _ _ K6.out u7); clear k0 k1 k2 k3 k4 k5; obtain ⟨k0, k1, k2, k3, k4, k5⟩ := SubAt.old u7 T6.out; clear u7) | (go_at_call 17; refine (HQ.out _ _ _ _ _ _ _ K7.out).mono ?_; rintro e w8 ⟨rfl, u8⟩; have U8 := hid (U7.out.trans u8); clear u8))
 clear k0 k1 k2 k3 k4 k5 T5 T6 K5 K6 K7 U5 U6 U7 HC HQ HR HOk HB O5
 go_wp2_with (first | (go_at_call 11; refine (HN.out _ U8.out).mono ?_; rintro e w9 ⟨rfl, u9⟩; have U9 := hid (U8.out.trans u9); clear u9))
 go_ret
 exact ⟨rfl, U9.out.alloc _⟩
theorem backLaw (v : Value) (at_ : Int) (w : World) (h : ∃ (n : Nat) (x : Nat → Nat), Pk.ByRow w v n x) :
    Calls Tryz.prog 5 #[v, .int .i64 at_] w fun e w' => e = .returned (.bool true) ∧ Old w w' := by
 obtain ⟨n, x, h⟩ := h
 obtain ⟨L, hL, hB⟩ := row_list h
 by_cases q : ∃ r : Raw, r.Ok ∧ r.chk = 0 ∧ L = r.enc []
 ·obtain ⟨r, hr, hc, rfl⟩ := q
  exact back_yes at_ r hr hc hL w v hB
 ·exact back_no v at_ L hL (fun r hr hc e => q ⟨r, hr, hc, e⟩) w hB
end Go.Proofs.YtajoodkapiifcaaGreat
