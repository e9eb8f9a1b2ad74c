/- What the first functions of flo and of its reference return at every float64: IsNaN, Canon, Code, Nan, Bits, Same, Form; no condition. -/
import Derived.Test.YthjfkmjeppdcnaaGreatClL
import Derived.Test.YthjfkmjeppdcnaaGreatClA
import Derived.WalkKit
import Derived.WalkSpells
import Derived.WalkLawsBesides
import Derived.Deep.AppendLies
import Derived.Deep.RegionLaw
import Derived.Lib.SmallJoins
import Derived.ProofKit
import Derived.OpenShut
namespace Go.Proofs.YthjfkmjeppdcnaaGreat.Pk
set_option linter.unusedSimpArgs false
set_option maxRecDepth 20000
open Go.RowKit
theorem run_bits (b : Nat) (w : World) : (callFunc 80 #[.float .f64 b]).run Tryz.prog w = .ok (.value (.int .u64 (b : Int))) w := by kernel_rfl
theorem run_frombits (n : Int) (w : World) : (callFunc 111 #[.int .u64 n]).run Tryz.prog w = .ok (.value (.float .f64 n.toNat)) w := by kernel_rfl
theorem ret_f {a b : Nat} (h : a = b) : Ending.returned (.float .f64 a) = .returned (.float .f64 b) := by rw [h]
attribute [local go_sem] run_bits run_frombits
set_option maxHeartbeats 400000 in
theorem isNaN_any (b : Nat) (hb : Fl.W b) (w : World) :
    Calls Tryz.prog 59 #[.float .f64 b] w fun e w' => e = .returned (.bool (Fl.nan b)) ∧ w' = w := by
 by_cases hn : Fl.nan b = true
 ·have h := Fl.ord_nan_l b b hn
  rw [hn]; clear hn
  go_enter Tryz.func59, Tryz.ntmps59
  go_wp2
  go_ret
  exact ⟨rfl, rfl⟩
 ·have h := Fl.ord_self b hb (Fl.nf b hn)
  rw [Fl.nf b hn]; clear hn
  go_enter Tryz.func59, Tryz.ntmps59
  go_wp2
  go_ret
  exact ⟨rfl, rfl⟩
set_option maxHeartbeats 400000 in
theorem canon_any (b : Nat) (hb : Fl.W b) (w : World) :
    Calls Tryz.prog 81 #[.float .f64 b] w fun e w' => e = .returned (.float .f64 (Fl.canon b)) ∧ w' = w := by
 rcases Fl.kinds b hb with hn | ⟨hn, hz⟩ | ⟨hn, h1, h2⟩ | ⟨hn, h1, h2⟩
 ·have h := Fl.ord_nan_l b b hn
  rw [Fl.canon_nan b hn]; clear hn
  go_enter Tryz.func81, Tryz.ntmps81
  go_wp2
  go_ret
  exact ⟨rfl, rfl⟩
 ·have h := Fl.ord_self b hb hn
  have h0 := Fl.ord_zero b hb hz
  rw [Fl.canon_zero b hz]; clear hn hz
  go_enter Tryz.func81, Tryz.ntmps81
  go_wp2
  go_ret
  exact ⟨rfl, rfl⟩
 ·have h := Fl.ord_self b hb hn
  have h0 := Fl.ord_pos b h1 h2
  rw [Fl.canon_else b hn (by unfold Fl.S Fl.INF at *; omega)]; clear hn h1 h2
  go_enter Tryz.func81, Tryz.ntmps81
  go_wp2
  go_ret
  exact ⟨rfl, rfl⟩
 ·have h := Fl.ord_self b hb hn
  have h0 := Fl.ord_neg b h1 h2
  rw [Fl.canon_else b hn (by omega)]; clear hn h1 h2
  go_enter Tryz.func81, Tryz.ntmps81
  go_wp2
  go_ret
  exact ⟨rfl, rfl⟩
set_option maxHeartbeats 400000 in
theorem code_any (b : Nat) (hb : Fl.W b) (w : World) :
    Calls Tryz.prog 129 #[.float .f64 b] w fun e w' => e = .returned (.int .u64 (Fl.code b : Nat)) ∧ w' = w := by
 go_enter Tryz.func129, Tryz.ntmps129
 go_wp2_with (first | (go_at_call 59; refine (isNaN_any _ ‹_› _).mono ?_; rintro e w' ⟨rfl, rfl⟩) | (go_at_call 81; refine (canon_any _ ‹_› _).mono ?_; rintro e w' ⟨rfl, rfl⟩))
 all_goals go_ret
 ·exact ⟨ret_i (by rw [Fl.code_nan _ ‹_›]; rfl), rfl⟩
 ·have hc := Fl.canon_lt b hb
  have h1 := lo_of_and _ hc ‹_›
  exact ⟨ret_i (by rw [or_top _ h1, Fl.code_lo b hb ‹_› h1]), rfl⟩
 ·have hc := Fl.canon_lt b hb
  have h1 := hi_of_and _ ‹_›
  exact ⟨ret_i (by rw [xor_max _ hc, Fl.code_hi b hb ‹_› h1]), rfl⟩
set_option maxHeartbeats 400000 in
theorem refNan_any (b : Nat) (hb : Fl.W b) (w : World) :
    Calls Tryz.prog 50 #[.float .f64 b] w fun e w' => e = .returned (.bool (Fl.nan b)) ∧ w' = w := by
 have h := andNot_top b hb
 go_enter Tryz.func50, Tryz.ntmps50
 go_wp2
 go_ret
 refine ⟨ret_b ?_, rfl⟩
 unfold Fl.nan Fl.INF Fl.S
 rw [Bool.eq_iff_iff]; simp; omega
set_option maxHeartbeats 400000 in
theorem refBits_any (b : Nat) (hb : Fl.W b) (w : World) :
    Calls Tryz.prog 112 #[.float .f64 b] w fun e w' => e = .returned (.int .u64 (Fl.canon b : Nat)) ∧ w' = w := by
 go_enter Tryz.func112, Tryz.ntmps112
 go_wp2_with (go_at_call 50; refine (refNan_any _ ‹_› _).mono ?_; rintro e w' ⟨rfl, rfl⟩)
 all_goals go_ret
 ·exact ⟨ret_i (by rw [Fl.canon_nan _ ‹_›]; rfl), rfl⟩
 ·have h1 : b = Fl.S := by have := beq_iff_eq.1 ‹((b : Int) == 9223372036854775808) = true›; unfold Fl.S; omega
  exact ⟨ret_i (by rw [Fl.canon_zero _ (.inr h1)]; rfl), rfl⟩
 ·have h1 : b ≠ Fl.S := by have := beq_eq_false_iff_ne.1 ‹((b : Int) == 9223372036854775808) = false›; unfold Fl.S; omega
  exact ⟨ret_i (by rw [Fl.canon_else _ ‹_› h1]), rfl⟩
set_option maxHeartbeats 400000 in
theorem refCode_any (b : Nat) (hb : Fl.W b) (w : World) :
    Calls Tryz.prog 72 #[.float .f64 b] w fun e w' => e = .returned (.int .u64 (Fl.code b : Nat)) ∧ w' = w := by
 have HB := fun w => refBits_any b hb w
 rcases Fl.code_cases b hb with ⟨_, h1, h2⟩ | ⟨c, _, h1, h3, h2⟩ | ⟨c, _, h1, h3, h4, h2⟩
 ·rw [h1] at HB; rw [h2]; clear h1 h2
  have H : Hid _ := HB; clear HB
  go_enter Tryz.func72, Tryz.ntmps72
  go_wp2_with (go_at_call 112; refine (H.out _).mono ?_; rintro e w' ⟨rfl, rfl⟩)
  go_ret
  exact ⟨rfl, rfl⟩
 ·rw [h1] at HB; rw [h2]; clear h1 h2
  have H : Hid _ := HB; clear HB
  have t1 : ((c : Int) == 9221120237041090561) = false := beq_eq_false_iff_ne.2 (by omega)
  have t2 : decide ((9223372036854775808 : Int) ≤ (c : Int)) = false := by simp; omega
  have g := hid h3; clear h3
  go_enter Tryz.func72, Tryz.ntmps72
  go_wp2_with (go_at_call 112; refine (H.out _).mono ?_; rintro e w' ⟨rfl, rfl⟩)
  go_ret
  have g' := g.out
  exact ⟨ret_i (by rw [IntKind.wrap_u64]; omega), rfl⟩
 ·rw [h1] at HB; rw [h2]; clear h1 h2
  have H : Hid _ := HB; clear HB
  have t1 : ((c : Int) == 9221120237041090561) = false := beq_eq_false_iff_ne.2 (by omega)
  have t2 : decide ((9223372036854775808 : Int) ≤ (c : Int)) = true := by simp; omega
  have g := hid h4; clear h3 h4
  go_enter Tryz.func72, Tryz.ntmps72
  go_wp2_with (go_at_call 112; refine (H.out _).mono ?_; rintro e w' ⟨rfl, rfl⟩)
  go_ret
  have g' := g.out
  exact ⟨ret_i (by rw [IntKind.wrap_u64]; omega), rfl⟩
end Go.Proofs.YthjfkmjeppdcnaaGreat.Pk
namespace Go.Proofs.YthjfkmjeppdcnaaGreat.Pk
set_option maxRecDepth 20000
open Go.RowKit
theorem un_neg (k : FloatKind) (b : Nat) : Op.unary .neg (.float k b) = pure (.float k (Op.negFloat k b)) := rfl
attribute [local go_sem] run_bits run_frombits un_neg
set_option maxHeartbeats 400000 in
theorem isCode_any (u : Nat) (hu : Fl.W u) (w : World) :
    Calls Tryz.prog 114 #[.int .u64 (u : Int)] w fun e w' => e = .returned (.bool (Fl.isCode u)) ∧ w' = w := by
 have hu' : u < 18446744073709551616 := hu
 have e := Fl.isCode_iff u
 by_cases h0 : u = 0
 ·subst h0
  clear e hu hu'
  go_enter Tryz.func114, Tryz.ntmps114
  go_wp2
  go_ret
  exact ⟨rfl, rfl⟩
 have t0 : ((u : Int) == 0) = false := beq_eq_false_iff_ne.2 (by omega)
 by_cases h1 : 9223372036854775808 ≤ u
 ·have t1 : decide ((9223372036854775808 : Int) ≤ (u : Int)) = true := by simp; omega
  have g := hid (show u < 18446744073709551616 ∧ 9223372036854775808 ≤ u from ⟨hu', h1⟩)
  have e' := hid e
  clear hu hu' h0 h1 e
  go_enter Tryz.func114, Tryz.ntmps114
  go_wp2
  go_ret
  have g' := g.out
  have e'' := e'.out
  refine ⟨ret_b ?_, rfl⟩
  rw [Bool.eq_iff_iff, e'', decide_eq_true_iff, IntKind.wrap_u64]; omega
 ·have t1 : decide ((9223372036854775808 : Int) ≤ (u : Int)) = false := by simp; omega
  have g := hid (show u < 9223372036854775808 ∧ u ≠ 0 by omega)
  have e' := hid e
  have t2 : IntKind.u64.wrap (18446744073709551615 - (u : Int)) = 18446744073709551615 - (u : Int) := by rw [IntKind.wrap_u64]; omega
  by_cases h2 : u < 9223372036854775807
  ·have t3 : decide ((9223372036854775808 : Int) < IntKind.u64.wrap (18446744073709551615 - (u : Int))) = true := by rw [t2]; simp; omega
   have t2' := hid t2
   have g2 := hid h2
   clear hu hu' h0 h1 e t2 h2
   go_enter Tryz.func114, Tryz.ntmps114
   go_wp2
   go_ret
   have g' := g.out
   have e'' := e'.out
   have g2' := g2.out
   refine ⟨ret_b ?_, rfl⟩
   rw [t2'.out, Bool.eq_iff_iff, e'', decide_eq_true_iff]; omega
  ·have t3 : decide ((9223372036854775808 : Int) < IntKind.u64.wrap (18446744073709551615 - (u : Int))) = false := by rw [t2]; simp; omega
   have g2 := hid h2
   clear hu hu' h0 h1 e t2 h2
   go_enter Tryz.func114, Tryz.ntmps114
   go_wp2
   go_ret
   have g' := g.out
   have e'' := e'.out
   have g2' := g2.out
   refine ⟨ret_b ?_, rfl⟩
   rw [Bool.eq_iff_iff, e'']; simp; omega
set_option maxHeartbeats 400000 in
theorem rof_any (u : Nat) (hu : Fl.W u) (w : World) :
    Calls Tryz.prog 71 #[.int .u64 (u : Int)] w fun e w' => e = .returned (.float .f64 (Fl.of u)) ∧ w' = w := by
 have hu' : u < 18446744073709551616 := hu
 by_cases h0 : u = 0
 ·subst h0
  clear hu hu'
  go_enter Tryz.func71, Tryz.ntmps71
  go_wp2
  go_ret
  exact ⟨rfl, rfl⟩
 have t0 : ((u : Int) == 0) = false := beq_eq_false_iff_ne.2 (by omega)
 by_cases h1 : 9223372036854775808 ≤ u
 ·have t1 : decide ((9223372036854775808 : Int) ≤ (u : Int)) = true := by simp; omega
  have g := hid (show u < 18446744073709551616 ∧ 9223372036854775808 ≤ u from ⟨hu', h1⟩)
  clear hu hu' h0 h1
  go_enter Tryz.func71, Tryz.ntmps71
  go_wp2
  go_ret
  have g' := g.out
  refine ⟨ret_f ?_, rfl⟩
  unfold Fl.of Fl.S; rw [if_neg (by omega), if_pos g'.2, IntKind.wrap_u64]; omega
 ·have t1 : decide ((9223372036854775808 : Int) ≤ (u : Int)) = false := by simp; omega
  have g := hid (show u < 9223372036854775808 ∧ u ≠ 0 by omega)
  clear hu hu' h0 h1
  go_enter Tryz.func71, Tryz.ntmps71
  go_wp2
  go_ret
  have g' := g.out
  refine ⟨ret_f ?_, rfl⟩
  unfold Fl.of Fl.S; rw [if_neg (by omega), if_neg (by omega), IntKind.wrap_u64]; omega
set_option maxHeartbeats 400000 in
theorem compare_any (a b : Nat) (ha : Fl.W a) (hb : Fl.W b) (w : World) :
    Calls Tryz.prog 119 #[.float .f64 a, .float .f64 b] w fun e w' => e = .returned (.int .i64 (Fl.cmpc a b)) ∧ w' = w := by
 rcases Fl.cmp_cases a b ha hb with ⟨na, nb, e⟩ | ⟨na, nb, e⟩ | ⟨na, nb, e⟩ | ⟨na, nb, o, e⟩ | ⟨na, nb, o, e⟩ | ⟨na, nb, o, e⟩
 ·have o1 := Fl.ord_nan_l a a na
  have o2 := Fl.ord_nan_l b b nb
  rw [e]; clear e na nb ha hb
  go_enter Tryz.func119, Tryz.ntmps119
  go_wp2
  go_ret
  exact ⟨rfl, rfl⟩
 ·have o1 := Fl.ord_nan_l a a na
  have o2 := Fl.ord_self b hb nb
  rw [e]; clear e na nb ha hb
  go_enter Tryz.func119, Tryz.ntmps119
  go_wp2
  go_ret
  exact ⟨rfl, rfl⟩
 ·have o1 := Fl.ord_self a ha na
  have o2 := Fl.ord_nan_l b b nb
  rw [e]; clear e na nb ha hb
  go_enter Tryz.func119, Tryz.ntmps119
  go_wp2
  go_ret
  exact ⟨rfl, rfl⟩
 ·have o1 := Fl.ord_self a ha na
  have o2 := Fl.ord_self b hb nb
  rw [e]; clear e na nb ha hb
  go_enter Tryz.func119, Tryz.ntmps119
  go_wp2
  go_ret
  exact ⟨rfl, rfl⟩
 ·have o1 := Fl.ord_self a ha na
  have o2 := Fl.ord_self b hb nb
  rw [e]; clear e na nb ha hb
  go_enter Tryz.func119, Tryz.ntmps119
  go_wp2
  go_ret
  exact ⟨rfl, rfl⟩
 ·have o1 := Fl.ord_self a ha na
  have o2 := Fl.ord_self b hb nb
  rw [e]; clear e na nb ha hb
  go_enter Tryz.func119, Tryz.ntmps119
  go_wp2
  go_ret
  exact ⟨rfl, rfl⟩
set_option maxHeartbeats 400000 in
theorem cmp_any (a b : Nat) (ha : Fl.W a) (hb : Fl.W b) (w : World) :
    Calls Tryz.prog 83 #[.float .f64 a, .float .f64 b] w fun e w' => e = .returned (.int .i64 (Fl.cmpc a b)) ∧ w' = w := by
 go_enter Tryz.func83, Tryz.ntmps83
 go_wp2_with (go_at_call 119; refine (compare_any _ _ ‹Fl.W a› ‹Fl.W b› _).mono ?_; rintro e w' ⟨rfl, rfl⟩)
 go_ret
 exact ⟨rfl, rfl⟩
set_option maxHeartbeats 400000 in
theorem refCmp_any (a b : Nat) (ha : Fl.W a) (hb : Fl.W b) (w : World) :
    Calls Tryz.prog 70 #[.float .f64 a, .float .f64 b] w fun e w' => e = .returned (.int .i64 (Fl.cmpc a b)) ∧ w' = w := by
 rcases Fl.cmpc_cases a b with ⟨e, h⟩ | ⟨e, h⟩ | ⟨e, h⟩
 ·skip
  rw [e]; clear e
  go_enter Tryz.func70, Tryz.ntmps70
  go_wp2_with (go_at_call 72; refine (refCode_any _ ‹_› _).mono ?_; rintro e w' ⟨rfl, rfl⟩)
  go_ret
  exact ⟨rfl, rfl⟩
 ·have h1 : ¬ Fl.code a < Fl.code b := by omega
  have h2 : ¬ Fl.code b < Fl.code a := by omega
  clear h
  rw [e]; clear e
  go_enter Tryz.func70, Tryz.ntmps70
  go_wp2_with (go_at_call 72; refine (refCode_any _ ‹_› _).mono ?_; rintro e w' ⟨rfl, rfl⟩)
  go_ret
  exact ⟨rfl, rfl⟩
 ·have h1 : ¬ Fl.code a < Fl.code b := by omega
  rw [e]; clear e
  go_enter Tryz.func70, Tryz.ntmps70
  go_wp2_with (go_at_call 72; refine (refCode_any _ ‹_› _).mono ?_; rintro e w' ⟨rfl, rfl⟩)
  go_ret
  exact ⟨rfl, rfl⟩
set_option maxHeartbeats 400000 in
theorem inf_pos  (w : World) :
    Calls Tryz.prog 147 #[.int .i64 1] w fun e w' => e = .returned (.float .f64 9218868437227405312) ∧ w' = w := by
 go_enter Tryz.func147, Tryz.ntmps147
 go_wp2
 go_ret
 exact ⟨rfl, rfl⟩
set_option maxHeartbeats 400000 in
theorem inf_neg  (w : World) :
    Calls Tryz.prog 147 #[.int .i64 (-1)] w fun e w' => e = .returned (.float .f64 18442240474082181120) ∧ w' = w := by
 go_enter Tryz.func147, Tryz.ntmps147
 go_wp2
 go_ret
 exact ⟨rfl, rfl⟩
set_option maxHeartbeats 400000 in
theorem isInf_pos (b : Nat) (hb : Fl.W b) (w : World) :
    Calls Tryz.prog 124 #[.float .f64 b, .int .i64 1] w fun e w' => e = .returned (.bool (decide (b = Fl.INF))) ∧ w' = w := by
 have t := Fl.gt_max b hb
 clear hb
 go_enter Tryz.func124, Tryz.ntmps124
 go_wp2
 go_ret
 exact ⟨rfl, rfl⟩
set_option maxHeartbeats 400000 in
theorem isInf_neg (b : Nat) (hb : Fl.W b) (w : World) :
    Calls Tryz.prog 124 #[.float .f64 b, .int .i64 (-1)] w fun e w' => e = .returned (.bool (decide (b = Fl.S + Fl.INF))) ∧ w' = w := by
 have t := Fl.neg_gt_max b hb
 clear hb
 go_enter Tryz.func124, Tryz.ntmps124
 go_wp2
 go_ret
 exact ⟨rfl, rfl⟩
end Go.Proofs.YthjfkmjeppdcnaaGreat.Pk
namespace Go.Proofs.YthjfkmjeppdcnaaGreat.Pk
set_option maxRecDepth 20000
open Go.RowKit
set_option linter.unusedVariables false
theorem step_call {P : Program} {ops : Array Oper} {o : Oper} {a : Act} {w : World} {K : Act → World → Prop} {Q : Exit → Act → World → Prop} {E : Prop} (hg : o.guard = none) (F : FuncId) (s x : Operand) (ts : Array TypeId)
    (hop : o.op = Op.call { callee := Callee.value (Operand.func F), args := #[s, x], argTypes := ts }) (u v : Value) (hs : a.eval s = u) (hx : a.eval x = v) (hF : a.eval (Operand.func F) = .func (.func F) #[] #[])
    (henter : (callFunc F #[u, v]).run P w = .ok (.enter F #[u, v]) w)
    (hc : Calls P F #[u, v] w fun e w' => ∃ r, e = .returned r ∧ K (a.put o.dst r) w') :
    if Region.wanted o (yielded ops a.tmps) = true then Oper.wp P o a w K Q else E := by
 have hw : Region.wanted o (yielded ops a.tmps) = true := by simp [Region.wanted, hg]
 rw [if_pos hw]
 unfold Oper.wp
 simp [execOp, hop, resolve, invoke, hs, hx, hF, Deferred.ofValue]
 rw [henter]
 refine hc.mono ?_
 rintro e w' ⟨r, rfl, hk⟩
 exact hk
theorem infoVal : (Tryz.prog.info? 97).map (fun i => (i.zero, i.size, i.bytes)) = some (some (.agg #[.int .i64 0, .int .i64 0, .float .f64 0, .slice none 0 0, .bool false]), 5, 56) := by kernel_rfl
end Go.Proofs.YthjfkmjeppdcnaaGreat.Pk
namespace Go.Proofs.YthjfkmjeppdcnaaGreat.Pk
set_option maxRecDepth 20000
open Go.RowKit
set_option linter.unusedVariables false
attribute [local go_sem] run_bits run_frombits run_store_float
def keyL (c : Nat) : Nat → List Nat | 0 => [] | k + 1 => keyL c k ++ [c / 2 ^ (56 - 8 * k) % 256]
theorem keyL_len (c : Nat) : ∀ k, (keyL c k).length = k | 0 => rfl | k + 1 => by simp [keyL, keyL_len c k]
set_option maxHeartbeats 1000000 in
theorem appendKey_any (base : Nat) (v : Value) (L : List Nat) (x : Nat) (hx : Fl.W x) (hn : L.length ≤ 70368744177664) (w : World) (hown : OwnL base w v L) (hbase : base ≤ w.heap.size) :
    Calls Tryz.prog 98 #[v, .float .f64 x] w fun e w' => ∃ v', e = .returned v' ∧ OwnL base w' v' (L ++ keyL (Fl.code x) 8) ∧ Grew w v w' v' := by
 have HO := hid hown
 have hnn := hid hn
 have HC := hid (code_any x hx w)
 have hcl := hid (Fl.code_le x hx)
 clear hown hn hx
 generalize Fl.code x = c at *
 go_enter Tryz.func98, Tryz.ntmps98
 go_wp2_with (go_at_call 129; refine HC.out.mono ?_; rintro e w' ⟨rfl, hw⟩; have hw2 := hw.symm; subst hw2)
 go_loopw [0, 6] (fun a s wr => ∃ k : Nat, k ≤ 8 ∧ s = .int .i64 (56 - 8 * (k : Int)) ∧ OwnL base wr a (L ++ keyL c k) ∧ Grew w v wr a) (fun _ s _ => (intOf s + 8).toNat)
 case atStart => exact ⟨0, by omega, rfl, by simpa [keyL] using HO.out, Grew.refl _ _⟩
 case round =>
  obtain ⟨k, hk, rfl, ho, hg⟩ := hrel
  have HOk := hid ho
  have hbs := hid (Nat.le_trans hbase hg.by_.size)
  have hkl := hid (keyL_len c k)
  clear ho
  by_cases hlt : k < 8
  ·have t0 : (0 : Int) ≤ 56 - 8 * (k : Int) := by omega
   have hcast : ((c : Int) / 2 ^ (56 - 8 * k) % 256) = ((c / 2 ^ (56 - 8 * k) % 256 : Nat) : Int) := by simp
   have HR := hid (row1L wr _ (c / 2 ^ (56 - 8 * k) % 256) hcast (Nat.mod_lt _ (by omega)))
   clear hcast
   have HK : Hid (keyL c (k + 1) = keyL c k ++ [c / 2 ^ (56 - 8 * k) % 256]) := rfl
   go_wp2_with (at_builtin; refine wp_app rfl (.tmp 13) (.tmp 18) rfl base _ _ (L ++ keyL c k).length [c / 2 ^ (56 - 8 * k) % 256].length (gd (L ++ keyL c k)) (gd [c / 2 ^ (56 - 8 * k) % 256]) rfl rfl (HOk.out.alloc _) HR.out (by have := hnn.out; have := hkl.out; simp; omega) (by have := hbs.out; simp; omega) ?_; intro v' w1 hown hgr1 hbel)
   go_roundw
   case rel => exact ⟨k + 1, hlt, by go_num, by rw [HK.out, ← List.append_assoc]; exact OwnL.app hown, hg.trans (((Grew.refl _ _).alloc _).trans hgr1)⟩
   case measure => simp [intOf]; omega
  ·obtain rfl : k = 8 := by omega
   go_wp2
   go_ret
   exact ⟨_, rfl, HOk.out, hg⟩
set_option maxHeartbeats 400000 in
theorem appendVal_key (base : Nat) (v : Value) (L : List Nat) (p : PV) (hk : p.k = 2) (hn : L.length ≤ 70368744177664) (w : World) (hp : PV.In w p) (hown : OwnL base w v L) (hbase : base ≤ w.heap.size) :
    Calls Tryz.prog 66 #[v, p.agg] w fun e w' => ∃ v', e = .returned v' ∧ OwnL base w' v' (L ++ keyL (Fl.code p.x) 8) ∧ Grew w v w' v' := by
 obtain ⟨a, c, hb⟩ := PV.slice hp
 have HN := hid (fun (W : World) (hW : OwnL base W v L) (hb : base ≤ W.heap.size) => appendKey_any base v L p.x (by unfold Fl.W; exact hp.xin) hn W hW hb)
 obtain ⟨k, n, x, b, bn, bx, on⟩ := p
 simp only at hb hk
 subst hb hk
 have HO := hid hown
 clear hp hown hn
 unfold PV.agg
 simp only at HN ⊢
 generalize keyL (Fl.code x) 8 = K at *
 go_enter Tryz.func66, Tryz.ntmps66
 go_wp2_with (go_at_call 98; refine (HN.out _ (HO.out.alloc _) (by simp; omega)).mono ?_; rintro e w1 ⟨v1, rfl, o1, g1⟩; have H1 := hid o1; clear o1)
 go_ret
 exact ⟨_, rfl, H1.out, ((Grew.refl _ _).alloc _).trans g1⟩
end Go.Proofs.YthjfkmjeppdcnaaGreat.Pk
namespace Go.Proofs.YthjfkmjeppdcnaaGreat.Pk
set_option maxRecDepth 20000
open Go.RowKit
set_option linter.unusedVariables false
attribute [local go_sem] run_bits run_frombits run_store_float
theorem step_app {ops : Array Oper} {o : Oper} {a : Act} {w : World} {K : Act → World → Prop} {Q : Exit → Act → World → Prop} {E : Prop} (hgd : o.guard = none) (s x : Operand)
    (ho : o.op = .call { callee := .builtin .append, args := #[s, x], argTypes := #[34, 34] }) (base : Nat) (v u : Value) (n m : Nat) (X Y : Nat → Nat)
    (hs : a.eval s = v) (hx : a.eval x = u) (hown : OwnB base w v n X) (hrow : ByRow w u m Y) (hb : n + m ≤ 140737488355328) (hbase : base ≤ w.heap.size)
    (h : ∀ v' w', OwnB base w' v' (n + m) (cat n X Y) → Grew w v w' v' → Below base w w' → K (a.put o.dst v') w') :
    if Region.wanted o (yielded ops a.tmps) = true then Oper.wp Tryz.prog o a w K Q else E := by
 have hw : Region.wanted o (yielded ops a.tmps) = true := by simp [Region.wanted, hgd]
 rw [if_pos hw]
 have h2 := wp_app (ops := ops) (rest := []) (Q := fun e a' w' => e = .normal ∧ K a' w') (o := o) (a := a) (w := w) hgd s x ho base v u n m X Y hs hx hown hrow hb hbase (fun v' w' q1 q2 q3 => ⟨rfl, h v' w' q1 q2 q3⟩)
 unfold wpList at h2
 rw [if_pos hw] at h2
 rcases h2 with h2 | ⟨_, a', w', h3, _⟩
 ·unfold Oper.wp at *
  generalize (execOp a.eval o).run Tryz.prog w = r at *
  cases r with
  | ok nx w' =>
   cases nx <;> simp only [Oper.upon] at h2 ⊢ <;>
    first
     | exact h2.2
     | exact h2
     | exact Calls.mono h2 (fun e w'' he => by
         cases e with
         | returned r => exact he.2
         | panicked c => exact absurd he.1 (by simp)
         | outgrown => obtain ⟨a', w', h3, _⟩ := he; exact absurd h3 (by simp))
     | exact Rows.mono h2 (fun _ _ he => he.2)
  | halt x w' => cases x <;> simp only [Oper.upon] at h2 ⊢ <;> first | exact h2 | exact absurd h2.1 (by simp)
 ·exact absurd h3 (by simp)
def byL (n : Nat) (x : Nat → Nat) : List Nat := (List.range n).map x
theorem byL_len (n : Nat) (x : Nat → Nat) : (byL n x).length = n := by simp [byL]
theorem gd_byL (n : Nat) (x : Nat → Nat) (i : Nat) (h : i < n) : gd (byL n x) i = x i := by simp [gd, byL, h]
theorem ByRow.byL {w : World} {v : Value} {n : Nat} {x : Nat → Nat} (h : ByRow w v n x) : ByRow w v (byL n x).length (gd (byL n x)) := by
 rw [byL_len]
 rcases h with h | ⟨hn, hm, b, off, cap, hv, hc, hcp⟩
 ·exact .inl h
 ·exact .inr ⟨hn, hm, b, off, cap, hv, fun i hi => by rw [gd_byL n x i hi]; exact hc i hi, hcp⟩
theorem cell_blk {w : World} {b : Nat} {C : Array Value} {t : TypeId} {fr : Nat × Nat} (h : w.heap[b]? = some (.cells C t fr)) (j : Nat) (u : Value) (hj : C[j]? = some u) : w.cell? ⟨b, j, none⟩ = some u := by
 simp [World.cell?, h, hj]
theorem Grew.drew {w w1 : World} {v v1 : Value} (h : Grew w v w1 v1) : Grew w v w1.drew v1 := ⟨⟨h.by_.os, h.by_.tape, h.by_.output, h.by_.size, h.by_.block⟩, h.row⟩
theorem enter_appendNum (args : Array Value) (w : World) : (callFunc 97 args).run Tryz.prog w = .ok (.enter 97 args) w := by kernel_rfl
set_option maxHeartbeats 1000000 in
theorem appendVal_bytes (w0 : World) (v : Value) (L : List Nat) (p : PV) (hk : p.k = 3) (hbn : p.bn ≤ 4096) (hn : L.length ≤ 70368744177664) (w : World) (hp : PV.In w0 p) (hu : Up w0 w) (hown : OwnL w0.heap.size w v L) :
    Calls Tryz.prog 66 #[v, p.agg] w fun e w' => ∃ v', e = .returned v' ∧ OwnL w0.heap.size w' v' (L ++ (numL p.bn ++ byL p.bn p.bx)) ∧ Grew w v w' v' := by
 obtain ⟨a, c, hb⟩ := PV.slice hp
 have HN := hid (fun (W : World) (hW : OwnL w0.heap.size W v L) (hb : w0.heap.size ≤ W.heap.size) => appendNum_any w0.heap.size v L (p.bn : Int) (by omega) (by omega) hn W hW hb)
 have HR := hid (hp.row.byL)
 have HL := hid (num_len (p.bn : Int) (by omega) (by omega)).2
 have HY := hid (byL_len p.bn p.bx)
 have HU := hid hu
 obtain ⟨k, n, x, b, bn, bx, on⟩ := p
 simp only at hb hk HN HR HL HY hbn
 subst hb hk
 have HO := hid hown
 have hnn := hid hn
 have hbb := hid hbn
 clear hp hown hn hu hbn
 unfold PV.agg
 simp only at HN ⊢
 generalize numL (bn : Int) = N at *
 generalize byL bn bx = Y at *
 go_enter Tryz.func66, Tryz.ntmps66
 go_wp2
 go_region_law (first | (refine step_call rfl 97 (.tmp 21) (.tmp 24) _ rfl v (.int .i64 (bn : Int)) (by rfl) (by rfl) (by rfl) (enter_appendNum _ _) ?_; refine (HN.out _ (OwnB.drew (OwnB.alloc HO.out _)) (by have := HU.out.size; simp at *; omega)).mono ?_; rintro e w1 ⟨v1, rfl, o1, g1⟩; refine ⟨_, rfl, ?_⟩; have hb1 := (g1.by_.block w.heap.size (by simp) (by intro hk; have := (HO.out.own.lt _ hk.symm).2; omega)).trans (heap_alloc_new w _); have y3 := cell_blk hb1 3 _ rfl; have H1 := hid o1; have HG1 := hid g1; clear o1 g1 hb1) | (refine step_app rfl (.tmp 25) (.tmp 27) rfl w0.heap.size v1 (.slice a bn c) (L ++ N).length Y.length (gd (L ++ N)) (gd Y) (by rfl) (by rfl) H1.out (HR.out.up (Below.trans (Up.drew (Up.alloc HU.out _)) (HG1.out.below (OwnB.drew (OwnB.alloc HO.out _)) (by have := HU.out.size; simp at *; omega)))) (by have := hnn.out; have := hbb.out; have := HY.out; have := HL.out; simp; omega) (by have := HU.out.size; have := HG1.out.by_.size; simp at *; omega) ?_; intro v' w3 hown3 hgr3 hbel3))
 all_goals go_wp2
 all_goals go_ret
 all_goals exact ⟨_, rfl, by rw [← List.append_assoc]; exact OwnL.app hown3, (((Grew.refl _ _).alloc _).drew.trans HG1.out).trans hgr3⟩
end Go.Proofs.YthjfkmjeppdcnaaGreat.Pk
namespace Go.Proofs.YthjfkmjeppdcnaaGreat.Pk
set_option maxRecDepth 20000
open Go.RowKit
set_option linter.unusedVariables false
attribute [local go_sem] run_bits run_frombits run_store_float
def encV (p : PV) : List Nat := if p.k = 1 then numL p.n else if p.k = 2 then keyL (Fl.code p.x) 8 else if p.k = 3 then numL p.bn ++ byL p.bn p.bx else [if p.on then 1 else 0]
theorem encV_len (p : PV) (h : pvE p = 0) (hn : -9223372036854775808 ≤ p.n ∧ p.n ≤ 9223372036854775807) : (encV p).length ≤ 4106 := by
 unfold encV
 unfold pvE at h
 split
 ·have := (num_len p.n hn.1 hn.2).2; omega
 ·split
  ·rw [keyL_len]; omega
  ·split
   ·have hb : p.bn ≤ 4096 := by
      by_cases hb : 4096 < p.bn
      ·simp [*] at h
      ·omega
    have := (num_len (p.bn : Int) (by omega) (by omega)).2
    rw [List.length_append, byL_len]; omega
   ·simp
def firstE (f : Nat → PV) : Nat → Nat | 0 => 0 | k + 1 => if firstE f k = 0 then pvE (f k) else firstE f k
theorem firstE_stop (f : Nat → PV) (k : Nat) (h : firstE f k ≠ 0) : ∀ n, k ≤ n → firstE f n = firstE f k := by
 intro n hn
 induction n with
 | zero => obtain rfl : k = 0 := by omega
           rfl
 | succ n ih =>
  by_cases e : k = n + 1
  ·rw [e]
  ·have := ih (by omega)
   simp [firstE, this, h]
theorem putL_len (f : Nat → PV) (n : Nat) (hn : ∀ i, i < n → -9223372036854775808 ≤ (f i).n ∧ (f i).n ≤ 9223372036854775807) : ∀ k, k ≤ n → firstE f k = 0 → (putL encV f k).length ≤ 4106 * k := by
 intro k hk
 induction k with
 | zero => intro _; simp [putL]
 | succ k ih =>
  intro he
  have h0 : firstE f k = 0 := by
   by_cases h : firstE f k = 0
   ·exact h
   ·rw [firstE_stop f k h _ (Nat.le_succ k)] at he; exact absurd he h
  have h1 : pvE (f k) = 0 := by simpa [firstE, h0] using he
  have := ih (by omega) h0
  have := encV_len (f k) h1 (hn k (by omega))
  simp [putL]; omega
set_option maxHeartbeats 400000 in
theorem appendVal_any (w0 : World) (v : Value) (L : List Nat) (p : PV) (he : pvE p = 0) (hn : L.length ≤ 70368744177664) (w : World) (hp : PV.In w0 p) (hu : Up w0 w) (hown : OwnL w0.heap.size w v L) :
    Calls Tryz.prog 66 #[v, p.agg] w fun e w' => ∃ v', e = .returned v' ∧ OwnL w0.heap.size w' v' (L ++ encV p) ∧ Grew w v w' v' := by
 have hcase : (p.k = 1 ∨ p.k = 2 ∨ p.k = 3 ∨ p.k = 4) ∧ (p.k = 3 → p.bn ≤ 4096) := by
  unfold pvE at he
  by_cases h1 : p.k < 1 ∨ 4 < p.k
  ·simp [h1] at he
  ·refine ⟨by omega, fun h3 => ?_⟩
   by_cases hb : 4096 < p.bn
   ·simp [h3, hb] at he
   ·omega
 obtain ⟨h | h | h | h, hb⟩ := hcase
 ·rw [show encV p = numL p.n by simp [encV, h]]
  exact appendVal_num w0.heap.size v L p h hn w (hp.up hu) hown hu.size
 ·rw [show encV p = keyL (Fl.code p.x) 8 by simp [encV, h]]
  exact appendVal_key w0.heap.size v L p h hn w (hp.up hu) hown hu.size
 ·rw [show encV p = numL p.bn ++ byL p.bn p.bx by simp [encV, h]]
  exact appendVal_bytes w0 v L p h (hb h) hn w hp hu hown
 ·rw [show encV p = [if p.on then 1 else 0] by simp [encV, h]]
  exact appendVal_flag w0.heap.size v L p h _ rfl hn w (hp.up hu) hown hu.size
set_option maxHeartbeats 2000000 in
theorem put_row (a : Option Addr) (n cap : Nat) (f : Nat → PV) (hnc : n ≤ 4194304) (w : World) (hc : ∀ i, i < n → ∃ b off, a = some ⟨b, off, none⟩ ∧ PV.At w b (off + i * 5) (f i) ∧ PV.In w (f i)) :
    Calls Tryz.prog 42 #[.slice a n cap] w fun e w' => ∃ v' L', e = .returned (.tuple #[v', .int .i64 (firstE f n : Nat)]) ∧ OwnL w.heap.size w' v' L' ∧ (firstE f n = 0 → L' = putL encV f n) ∧ (firstE f n ≠ 0 → L' = []) ∧ Up w w' := by
 have HC := hid hc
 have HL := hid (putL_len f n (fun i hi => by obtain ⟨b, off, _, _, h⟩ := hc i hi; exact h.nin))
 clear hc
 generalize hE : firstE f n = E
 have HE := hid hE
 clear hE
 go_enter Tryz.func42, Tryz.ntmps42
 go_wp2
 go_loopw [4, 10] (fun o i wr => ∃ k : Nat, k ≤ n ∧ i = .int .i64 (k : Nat) ∧ OwnL w.heap.size wr o (putL encV f k) ∧ Up w wr ∧ firstE f k = 0) (fun _ i _ => n - (intOf i).toNat)
 case atStart => exact ⟨0, Nat.zero_le _, rfl, OwnB.nil _ _ _, Up.refl _, rfl⟩
 case round =>
  obtain ⟨k, hk, rfl, ho, hu, h0⟩ := hrel
  by_cases hlt : k < n
  ·obtain ⟨b, off, ha, hat, hin⟩ := HC.out k hlt
   subst ha
   have hat2 := hat.up hu
   obtain ⟨x0, x1, x2, x3, x4⟩ := hat2
   have hin2 := hid (hin.up hu)
   have HF := hid (fun (W : World) (hW : Up wr W) => fault_any (f k) W (hin2.out.up hW))
   have HOk := hid ho
   obtain ⟨a, c, hb⟩ := PV.slice hin
   have HB := hid hb
   have HLk := hid (HL.out k (by omega) h0)
   have hS : firstE f (k + 1) = pvE (f k) := by simp [firstE, h0]
   have hAgg := hid (show (f k).agg = .agg #[.int .i64 (f k).k, .int .i64 (f k).n, .float .f64 (f k).x, .slice a (f k).bn c, .bool (f k).on] by unfold PV.agg; rw [hb])
   have HP : Hid (putL encV f (k + 1) = putL encV f k ++ encV (f k)) := rfl
   by_cases hz : pvE (f k) = 0
   ·have HAk := hid (fun (W : World) (hW : Up w W) (v : Value) (hv : OwnL w.heap.size W v (putL encV f k)) => appendVal_any w v (putL encV f k) (f k) hz (by have := HLk.out; omega) W hin hW hv)
    have HS := hid (hS.trans hz)
    rw [hz] at HF
    rw [hAgg.out] at HF HAk
    rw [hb] at x3
    clear ho hin hat hb HC HL hz hS h0 HE
    generalize (f k).k = k1 at *
    generalize (f k).n = k2 at *
    generalize (f k).x = k3 at *
    generalize (f k).bn = k4 at *
    generalize (f k).on = k5 at *
    go_wp2_with (first | (go_at_call 65; refine (HF.out _ ((Up.refl wr).alloc _)).mono ?_; rintro e w1 ⟨rfl, u1⟩; have hcells := fun j u (h : (#[.int .i64 k1, .int .i64 k2, .float .f64 k3, .slice a k4 c, .bool k5] : Array Value)[j]? = some u) => u1.keep (cell_new wr #[.int .i64 k1, .int .i64 k2, .float .f64 k3, .slice a k4 c, .bool k5] 97 (0, 0) j u h); have y0 := hcells 0 _ rfl; have y1 := hcells 1 _ rfl; have y2 := hcells 2 _ rfl; have y3 := hcells 3 _ rfl; have y4 := hcells 4 _ rfl; clear hcells; have HU1 := hid (Up.trans ((Up.refl wr).alloc _) u1); clear u1))
    refine (HAk.out w1 (Up.trans hu HU1.out) _ (OwnB.up HOk.out HU1.out)).mono ?_
    rintro e w2 ⟨v2, rfl, o2, g2⟩
    have H2 := hid o2
    have u2 : Up w w2 := Below.trans (Up.trans hu HU1.out) (g2.below (OwnB.up HOk.out HU1.out) (Nat.le_trans hu.size HU1.out.size))
    clear o2 g2 y0 y1 y2 y3 y4 x0 x1 x2 x3 x4
    go_wp2
    go_roundw
    case rel => exact ⟨k + 1, hlt, by go_num, by rw [HP.out]; exact H2.out, u2, HS.out⟩
    case measure => simp [intOf]; omega
   ·have hEk : E = pvE (f k) := by rw [← HE.out, ← hS]; exact firstE_stop f (k + 1) (by rw [hS]; exact hz) n hlt
    rw [← hEk] at HF hz
    rw [hAgg.out] at HF
    rw [hb] at x3
    have hEz := hid hz
    have hEb : ((E : Int) != 0) = true := by simp; omega
    clear ho hin hat hb HC HL hz hS h0 HE hEk
    generalize (f k).k = k1 at *
    generalize (f k).n = k2 at *
    generalize (f k).x = k3 at *
    generalize (f k).bn = k4 at *
    generalize (f k).on = k5 at *
    go_wp2_with (first | (go_at_call 65; refine (HF.out _ ((Up.refl wr).alloc _)).mono ?_; rintro e w1 ⟨rfl, u1⟩; have HU1 := hid (Up.trans ((Up.refl wr).alloc _) u1); clear u1))
    go_ret2
    exact ⟨_, [], rfl, OwnB.nil _ _ _, fun h => absurd h hEz.out, fun _ => rfl, Up.trans hu HU1.out⟩
  ·obtain rfl : k = n := by omega
   have HOk := hid ho
   obtain rfl : 0 = E := by rw [← HE.out, h0]
   clear ho HC HL HE
   go_wp2
   go_ret2
   exact ⟨_, rfl, _, HOk.out, rfl, hu⟩
end Go.Proofs.YthjfkmjeppdcnaaGreat.Pk
namespace Go.Proofs.YthjfkmjeppdcnaaGreat.Pk
set_option maxRecDepth 20000
open Go.ChangeShapes Go.WideShapes Go.RowKit Go.Joins
set_option linter.unusedVariables false
theorem trod_byteRow {H : Type} {enc : TypeId × Value → H} {w : World} {fuel : Nat} {v : Value} {y : DataW H × List MemPlace} (h : DataW.trod enc Tryz.prog w 0 (fun _ => true) true fuel 34 [v] = some y) : ∃ n x, ByRow w v n x := by
 rcases DataW.trod_slice Tryz.underlying34 h with ⟨hcs, _⟩ | ⟨a, len, cap, elems, rest, m, _, hcs, _, hb, hl, hm, hlen, hel, _, _⟩
 ·simp at hcs; subst hcs
  exact ⟨0, fun _ => 0, .inl ⟨rfl, none, 0, rfl, fun _ => rfl⟩⟩
 ·simp at hcs; subst hcs
  by_cases hz : len = 0
  ·subst hz; exact ⟨0, fun _ => 0, .inl ⟨rfl, _, _, rfl, fun h => by cases h⟩⟩
  ·have each : ∀ i, i < len → ∃ n : Int, w.cell? (a.add i) = some (.int .u8 n) ∧ 0 ≤ n ∧ n < 256 := by
     intro i hi
     have h1 := hel i hi
     have h2 : elems[i]? = some (elems[i]'(by omega)) := List.getElem?_eq_getElem (by omega)
     rw [h2, cellsByte, Nat.mul_one, Option.bind_eq_some_iff] at h1
     obtain ⟨cs', hcs, hy'⟩ := h1
     obtain ⟨n, rfl, _, hw⟩ := DataW.trod_int Tryz.underlying5 hy'
     exact ⟨n, cell_of_cells?_one hcs, by simp [Lit.wf, IntKind.min, IntKind.max, IntKind.bits, IntKind.signed] at hw; omega⟩
   obtain ⟨b, off, spot⟩ := a
   obtain ⟨n0, h0, _⟩ := each 0 (by omega)
   have hspot : spot = none := by simpa [Addr.add] using World.cell?_spot h0
   subst hspot
   refine ⟨len, fun i => match w.cell? ⟨b, off + i, none⟩ with | some (.int _ n) => n.toNat | _ => 0, .inr ⟨by omega, by omega, b, off, cap, rfl, fun i hi => ?_, hl, hm⟩⟩
   obtain ⟨n, hn, hw⟩ := each i hi
   rw [Go.WideShapes.add_plain] at hn
   simp only [hn]
   exact ⟨by omega, by rw [Int.toNat_of_nonneg hw.1]⟩
theorem trod_float {H : Type} {enc : TypeId × Value → H} {P : Program} {w : World} {base : Nat} {spare : Nat → Bool} {held : Bool} {fuel : Nat} {t : TypeId} {cs : List Value} {x : DataW H × List MemPlace} (ht : P.underlying t = some (.float .f64)) (h : DataW.trod enc P w base spare held fuel t cs = some x) : ∃ n, cs = [.float .f64 n] ∧ x = (.lit (.float .f64 n), []) ∧ (Lit.float .f64 n).wf = true := by
 cases fuel with
 | zero => simp [DataW.trod] at h
 | succ n =>
  unfold DataW.trod at h
  rw [ht] at h
  split at h <;> simp_all
theorem cellsVal : Tryz.prog.cellsOf 97 = 5 := by kernel_rfl
theorem cellsOne : Tryz.prog.cellsOf 3 = 1 ∧ Tryz.prog.cellsOf 2 = 1 ∧ Tryz.prog.cellsOf 29 = 1 ∧ Tryz.prog.cellsOf 34 = 1 ∧ Tryz.prog.cellsOf 4 = 1 := by refine ⟨?_, ?_, ?_, ?_, ?_⟩ <;> kernel_rfl
theorem trod_val {H : Type} {enc : TypeId × Value → H} {w : World} {fuel : Nat} {cs : List Value} {y : DataW H × List MemPlace} (h : DataW.trod enc Tryz.prog w 0 (fun _ => true) true fuel 97 cs = some y) :
    ∃ p : PV, cs = [.int .i64 p.k, .int .i64 p.n, .float .f64 p.x, p.b, .bool p.on] ∧ PV.In w p := by
 obtain ⟨xs, n, _, _, hl, hlen, hf⟩ := DataW.trod_struct Tryz.underlying97 h
 rw [cellsVal] at hl
 match cs, hl with
 | [c0, c1, c2, c3, c4], _ =>
  match xs, hlen with
  | [y0, y1, y2, y3, y4], _ =>
   have h0 := hf 0 _ rfl
   have h1 := hf 1 _ rfl
   have h2 := hf 2 _ rfl
   have h3 := hf 3 _ rfl
   have h4 := hf 4 _ rfl
   simp [cellsOne] at h0 h1 h2 h3 h4
   obtain ⟨a0, e0, _, q0⟩ := DataW.trod_int Tryz.underlying3 h0
   obtain ⟨a1, e1, _, q1⟩ := DataW.trod_int Tryz.underlying2 h1
   obtain ⟨a2, e2, _, q2⟩ := trod_float Tryz.underlying29 h2
   obtain ⟨bn, bx, q3⟩ := trod_byteRow h3
   obtain ⟨a4, e4, _⟩ := DataW.trod_bool Tryz.underlying4 h4
   simp at e0 e1 e2 e4
   subst e0 e1 e2 e4
   refine ⟨⟨a0, a1, a2, c3, bn, bx, a4⟩, rfl, ⟨?_, ?_, ?_, q3⟩⟩
   ·simp [Lit.wf, IntKind.min, IntKind.max, IntKind.bits, IntKind.signed] at q0; simp; omega
   ·simp [Lit.wf, IntKind.min, IntKind.max, IntKind.bits, IntKind.signed] at q1; simp; omega
   ·simp [Lit.wf] at q2; exact q2
theorem cells?_each {w : World} {base : Nat} {a : Addr} {n : Nat} {cs : List Value} (h : w.cells? base a n = some cs) (i : Nat) (hi : i < n) : w.cell? (a.add i) = cs[i]? := by
 unfold World.cells? at h
 split at h
 ·exact mapM_some_get h i i (by simp [hi])
 ·cases h
theorem open_vals {H : Type} {enc : TypeId × Value → H} {w : World} {base : Nat} {v : Value} {d : DataW H} {ps : List MemPlace} (hv : Value.okWide Tryz.prog w .any base 99 v) (h : DataW.Trod enc Tryz.prog w 0 (fun _ => true) true 99 v d ps) :
    ∃ (m : Nat) (P : Nat → PV), VRow w v m P ∧ ((d = .nil ∧ m = 0) ∨ ∃ elems spare, d = .slice elems spare ∧ elems.length = m) := by
 obtain ⟨a0, len0, cap0, rfl⟩ := okWide_slice Tryz.underlying99 hv
 obtain ⟨fuel, hf⟩ := h
 rcases DataW.trod_slice Tryz.underlying99 hf with ⟨hcs, hd⟩ | ⟨a, len, cap, elems, rest, m, _, hcs, hd, hb, hl, hm, hlen, hel, _, _⟩
 ·simp [Value.cells] at hcs
  obtain ⟨rfl, rfl, rfl⟩ := hcs
  simp at hd
  exact ⟨0, fun _ => ⟨0, 0, 0, .nilIface, 0, fun _ => 0, false⟩, .inl ⟨rfl, none, 0, rfl, fun _ => rfl⟩, .inl ⟨hd.1, rfl⟩⟩
 ·simp [Value.cells] at hcs
  obtain ⟨ha, hln, hcp⟩ := hcs
  rw [ha, hln, hcp]
  clear ha hln hcp hf hv a0 len0 cap0
  simp only [Prod.mk.injEq] at hd
  have hdd : d = .slice (elems.map (·.1)) (rest.map (·.1)) := hd.1
  by_cases hz : len = 0
  ·subst hz; exact ⟨0, fun _ => ⟨0, 0, 0, .nilIface, 0, fun _ => 0, false⟩, .inl ⟨rfl, _, _, rfl, fun h => by cases h⟩, .inr ⟨_, _, hdd, by simpa using hlen⟩⟩
  ·have each : ∀ i, i < len → ∃ p : PV, (∀ j, j < 5 → w.cell? ((a.add (i * 5)).add j) = ([.int .i64 p.k, .int .i64 p.n, .float .f64 p.x, p.b, .bool p.on] : List Value)[j]?) ∧ PV.In w p := by
     intro i hi
     have h1 := hel i hi
     have h2 : elems[i]? = some (elems[i]'(by omega)) := List.getElem?_eq_getElem (by omega)
     rw [h2, cellsVal, Option.bind_eq_some_iff] at h1
     obtain ⟨cs', hcs, hy'⟩ := h1
     obtain ⟨p, rfl, hp⟩ := trod_val hy'
     exact ⟨p, fun j hj => cells?_each hcs j hj, hp⟩
   obtain ⟨b, off, spot⟩ := a
   obtain ⟨p0, h0, _⟩ := each 0 (by omega)
   have hspot : spot = none := by simpa [Addr.add] using World.cell?_spot (h0 0 (by omega))
   subst hspot
   have each2 : ∀ i, ∃ p : PV, i < len → PV.At w b (off + i * 5) p ∧ PV.In w p := by
    intro i
    by_cases hi : i < len
    ·obtain ⟨p, q1, q2⟩ := each i hi
     simp only [Go.WideShapes.add_plain] at q1
     exact ⟨p, fun _ => ⟨⟨q1 0 (by omega), q1 1 (by omega), q1 2 (by omega), q1 3 (by omega), q1 4 (by omega)⟩, q2⟩⟩
    ·exact ⟨p0, fun h => absurd h hi⟩
   exact ⟨len, fun i => Classical.choose (each2 i), .inr ⟨by omega, b, off, cap, rfl, fun i hi => Classical.choose_spec (each2 i) hi, hl, hm⟩, .inr ⟨_, _, hdd, by simpa using hlen⟩⟩
end Go.Proofs.YthjfkmjeppdcnaaGreat.Pk
namespace Go.Proofs.YthjfkmjeppdcnaaGreat.Pk
set_option maxRecDepth 20000
open Go.RowKit
set_option linter.unusedVariables false
def pvc (p : PV) : Nat → Value | 0 => .int .i64 p.k | 1 => .int .i64 p.n | 2 => .float .f64 p.x | 3 => p.b | _ => .bool p.on
def vl (n : Nat) (f : Nat → PV) : List Value := (List.range (n * 5)).map fun j => pvc (f (j / 5)) (j % 5)
def catP (n : Nat) (f g : Nat → PV) : Nat → PV := fun i => if i < n then f i else g (i - n)
theorem vl_len (n : Nat) (f : Nat → PV) : (vl n f).length = n * 5 := by simp [vl]
theorem vl_get (n : Nat) (f : Nat → PV) (j : Nat) (h : j < n * 5) : (vl n f)[j]? = some (pvc (f (j / 5)) (j % 5)) := by simp [vl, h]
theorem vl_get_ge (n : Nat) (f : Nat → PV) (j : Nat) (h : n * 5 ≤ j) : (vl n f)[j]? = none := List.getElem?_eq_none (by rw [vl_len]; exact h)
theorem vl_cat (n m : Nat) (f g : Nat → PV) : vl n f ++ vl m g = vl (n + m) (catP n f g) := by
 apply List.ext_getElem?
 intro j
 by_cases h : j < n * 5
 ·rw [List.getElem?_append_left (by rw [vl_len]; exact h), vl_get _ _ _ h, vl_get _ _ _ (by omega)]
  simp [catP, show j / 5 < n by omega]
 ·rw [List.getElem?_append_right (by rw [vl_len]; omega), vl_len]
  by_cases k : j < (n + m) * 5
  ·rw [vl_get _ _ _ (by omega), vl_get _ _ _ k]
   have e1 : (j - n * 5) / 5 = j / 5 - n := by omega
   have e2 : (j - n * 5) % 5 = j % 5 := by omega
   simp [catP, show ¬ j / 5 < n by omega, e1, e2]
  ·rw [vl_get_ge _ _ _ (by omega), vl_get_ge _ _ _ (by omega)]
theorem pvc_one {w : World} {p : PV} (h : PV.In w p) (j : Nat) : (pvc p j).oneCell' = true := by
 obtain ⟨a, c, hb⟩ := PV.slice h
 unfold pvc
 split <;> simp [Value.oneCell', hb]
theorem vl_one (w : World) (n : Nat) (f : Nat → PV) (h : ∀ i, i < n → PV.In w (f i)) : ∀ u ∈ vl n f, u.oneCell' = true := by
 intro u hu
 simp only [vl, List.mem_map, List.mem_range] at hu
 obtain ⟨j, hj, rfl⟩ := hu
 exact pvc_one (h (j / 5) (by omega)) _
def OwnV (base : Nat) (w : World) (v : Value) (n : Nat) (f : Nat → PV) : Prop := w.ownsRow base 97 5 v n (vl n f)
theorem OwnV.empty {base g : Nat} {w : World} {f : Nat → PV} (hb : base ≤ w.heap.size) (hg : w.heap.size = g) : OwnV base (w.alloc (.cells #[] 97)) (.slice (some ⟨g, 0, none⟩) 0 0) 0 f := by
 subst hg
 exact World.ownsRow_made w #[] 0 hb (by unfold maxLen; omega) rfl
theorem OwnV.shape {base : Nat} {w : World} {v : Value} {n : Nat} {f : Nat → PV} (h : OwnV base w v n f) : ∃ a c, v = .slice a n c ∧ ∀ i, i < n → ∃ b off, a = some ⟨b, off, none⟩ ∧ PV.At w b (off + i * 5) (f i) := by
 have h2 := h
 rcases h2.2 with ⟨hv, hn⟩ | ⟨g, cap, cur, hv, hb, hg, hnc, hcm, hcs, htk⟩
 ·subst hn; exact ⟨none, 0, hv, fun i hi => by omega⟩
 ·refine ⟨_, _, hv, fun i hi => ⟨g, 0, rfl, ?_⟩⟩
  subst hv
  have at_ : ∀ j, j < 5 → w.cell? ⟨g, 0 + i * 5 + j, none⟩ = some (pvc (f i) j) := by
   intro j hj
   rw [Nat.zero_add, World.ownsRow.cellAt h (i * 5 + j) (by omega), vl_get _ _ _ (by omega)]
   rw [show (i * 5 + j) / 5 = i by omega, show (i * 5 + j) % 5 = j by omega]
  exact ⟨at_ 0 (by omega), at_ 1 (by omega), at_ 2 (by omega), at_ 3 (by omega), at_ 4 (by omega)⟩
theorem wp_appVg {ops : Array Oper} {rest : List Oper} {o : Oper} {a : Act} {Q : Exit → Act → World → Prop} {w : World} (hgd : o.guard = none) (s x : Operand)
    (ho : o.op = .call { callee := .builtin .append, args := #[s, x], argTypes := #[99, 99] }) (base : Nat) (v u : Value) (n m : Nat) (f g : Nat → PV)
    (hs : a.eval s = v) (hx : a.eval x = u) (hown : OwnV base w v n f) (hrow : VRow w u m g) (hb : n + m ≤ 4194304) (hbase : base ≤ w.heap.size)
    (h : ∀ v' w', OwnV base w' v' (n + m) (catP n f g) → w.grownBy w' v.ownBlock → wpList Tryz.prog ops Q rest (a.put o.dst v') w') : wpList Tryz.prog ops Q (o :: rest) a w := by
 obtain ⟨i0, hi, hz0, hz1, hz2⟩ := info_parts infoVal
 have one : ∀ (ad : Addr) (c : Nat), u = .slice (some ad) m c → (∀ i, i < m → PV.In w (g i)) → (∀ j, j < m * 5 → w.cell? (ad.add j) = some (pvc (g (j / 5)) (j % 5))) → wpList Tryz.prog ops Q (o :: rest) a w := by
  intro ad c hu hin hc
  have news : ∀ j t, (vl m g)[j]? = some t → w.cell? (ad.add j) = some t := by
   intro j t hj
   by_cases hjm : j < m * 5
   ·rw [vl_get _ _ _ hjm] at hj; cases hj; exact hc j hjm
   ·rw [vl_get_ge _ _ _ (by omega)] at hj; cases hj
  refine wpList_append_own w hgd s x 99 ho base 97 i0 _ 5 56 Tryz.underlying99 hi hz0 hz1 hz2 rfl (by decide) v n (vl n f) hs hown ad m c (vl m g) (hx.trans hu) (vl_len _ _) news (vl_one w m g hin) (by unfold maxLen; omega) (by omega) hbase ?_
  intro v' w' h1 h2 h3
  rw [vl_cat] at h1
  exact h v' w' h1 h2
 rcases hrow with ⟨rfl, ad, c, rfl, hz⟩ | ⟨hm, b, off, cap, rfl, hc, _⟩
 ·cases ad with
  | none =>
   obtain rfl := hz rfl
   refine wpList_append_own_none hgd s x 99 ho base 97 i0 5 Tryz.underlying99 hi v n (vl n f) hs hown hx ?_
   refine h v w ?_ (World.grownBy.refl _ _)
   unfold OwnV
   rw [← vl_cat]
   simpa [OwnV, vl] using hown
  | some ad => exact one ad c rfl (fun i hi => by omega) (fun j hj => by omega)
 ·refine one ⟨b, off, none⟩ cap rfl (fun i hi => (hc i hi).2) (fun j hj => ?_)
  rw [Go.WideShapes.add_plain]
  obtain ⟨h0, h1, h2, h3, h4⟩ := (hc (j / 5) (by omega)).1
  have hj5 : j % 5 < 5 := Nat.mod_lt _ (by omega)
  have e : off + j = off + j / 5 * 5 + j % 5 := by omega
  rw [e]
  generalize j % 5 = r at *
  match r, hj5 with
  | 0, _ => exact h0
  | 1, _ => exact h1
  | 2, _ => exact h2
  | 3, _ => exact h3
  | 4, _ => exact h4
theorem wp_appV {ops : Array Oper} {rest : List Oper} {o : Oper} {a : Act} {Q : Exit → Act → World → Prop} {w : World} (hgd : o.guard = none) (s x : Operand)
    (ho : o.op = .call { callee := .builtin .append, args := #[s, x], argTypes := #[99, 99] }) (base : Nat) (v u : Value) (n m : Nat) (f g : Nat → PV)
    (hs : a.eval s = v) (hx : a.eval x = u) (hown : OwnV base w v n f) (hrow : VRow w u m g) (hb : n + m ≤ 4194304) (hbase : base ≤ w.heap.size)
    (h : ∀ v' w', OwnV base w' v' (n + m) (catP n f g) → Below base w w' → wpList Tryz.prog ops Q rest (a.put o.dst v') w') : wpList Tryz.prog ops Q (o :: rest) a w :=
 wp_appVg hgd s x ho base v u n m f g hs hx hown hrow hb hbase (fun v' w' h1 h2 => h v' w' h1 (Below.grown (Below.refl _ _) h2 hbase (fun k hk => (World.ownsRow.lt hown k hk).1)))
theorem wp_app_g {ops : Array Oper} {rest : List Oper} {o : Oper} {a : Act} {Q : Exit → Act → World → Prop} {w : World} (hw : Region.wanted o (yielded ops a.tmps) = true) (s x : Operand)
    (ho : o.op = .call { callee := .builtin .append, args := #[s, x], argTypes := #[34, 34] }) (base : Nat) (v u : Value) (n m : Nat) (X Y : Nat → Nat)
    (hs : a.eval s = v) (hx : a.eval x = u) (hown : OwnB base w v n X) (hrow : ByRow w u m Y) (hb : n + m ≤ 140737488355328) (hbase : base ≤ w.heap.size)
    (h : ∀ v' w', OwnB base w' v' (n + m) (cat n X Y) → Grew w v w' v' → Below base w w' → wpList Tryz.prog ops Q rest (a.put o.dst v') w') : wpList Tryz.prog ops Q (o :: rest) a w := by
 unfold wpList
 rw [if_pos hw]
 left
 have h2 := step_app (o := { o with guard := none }) (ops := ops) (a := a) (w := w) (K := wpList Tryz.prog ops Q rest) (Q := Q) (E := True) rfl s x ho base v u n m X Y hs hx hown hrow hb hbase h
 rw [if_pos (by simp [Region.wanted])] at h2
 exact h2
theorem firstE_cat (f g : Nat → PV) (n : Nat) : ∀ k, k ≤ n → firstE (catP n f g) k = firstE f k := by
 intro k hk
 induction k with
 | zero => rfl
 | succ k ih => simp [firstE, ih (by omega), catP, show k < n by omega]
theorem firstE_cat2 (f g : Nat → PV) (n : Nat) : ∀ m, firstE (catP n f g) (n + m) = if firstE f n = 0 then firstE g m else firstE f n := by
 intro m
 induction m with
 | zero => rw [Nat.add_zero, firstE_cat f g n n (Nat.le_refl _)]; by_cases h : firstE f n = 0 <;> simp [h, firstE]
 | succ m ih =>
  rw [← Nat.add_assoc]
  by_cases h : firstE f n = 0
  ·simp [firstE, ih, h, catP, show ¬ n + m < n by omega]
  ·simp [firstE, ih, h]
theorem putL_cat (enc : PV → List Nat) (f g : Nat → PV) (n : Nat) : ∀ k, k ≤ n → putL enc (catP n f g) k = putL enc f k := by
 intro k hk
 induction k with
 | zero => rfl
 | succ k ih => simp [putL, ih (by omega), catP, show k < n by omega]
theorem putL_cat2 (enc : PV → List Nat) (f g : Nat → PV) (n : Nat) : ∀ m, putL enc (catP n f g) (n + m) = putL enc f n ++ putL enc g m := by
 intro m
 induction m with
 | zero => rw [Nat.add_zero, putL_cat enc f g n n (Nat.le_refl _)]; simp [putL]
 | succ m ih =>
  rw [← Nat.add_assoc]
  simp [putL, ih, catP, show ¬ n + m < n by omega]
end Go.Proofs.YthjfkmjeppdcnaaGreat.Pk
