/- Proved: for every slice of bytes and every two ints the law PackFails returns true, without a condition. -/
import Derived.Test.YtobdgdcccogghaaPf
import Derived.ProofKit
import Derived.OpenShut
import Derived.Lib.SmallJoins
namespace Go.Proofs.Ytobdgdcccogghaa.packFailsDone
open Go.ChangeShapes Go.WideShapes Go.ChangeAt Go.RowKit Go.Joins
set_option linter.unusedVariables false

theorem own : ownKnob Try.prog.godebug = none := by kernel_rfl
theorem laidOut : laidOutB Try.prog = true := by kernel_rfl
theorem chg_up {w W W' : World} {S : List Nat} (h : Up w W) (c : Chg S W W') (hS : ∀ k, k ∈ S → w.heap.size ≤ k) : Up w W' := Below.trans h (c.below _ hS (Below.size h))
set_option maxHeartbeats 1000000 in
/-- The law as far as its first test: then the two readings. -/
theorem head (v0 : Value) (n0 : Nat) (x0 : Nat → Nat) (a1 a2 : Int) (w : World) (w0 : ByRow w v0 n0 x0) (hwf : -9223372036854775808 ≤ a2 ∧ a2 ≤ 9223372036854775807) (hw1 : -9223372036854775808 ≤ a1 ∧ a1 ≤ 9223372036854775807)
    (f g nv bv mv bw : Int)
    (H2 : ∀ (W : World) (bs bn bb : Nat), ByRow W v0 n0 x0 → Var W bs 3 a2 → Var W bn 3 0 → Var W bb 3 0 → bn ≠ bb → Calls Try.prog 21 #[v0, .func (.func 29) #[] #[.pointer (some ⟨bs, 0, none⟩), .pointer (some ⟨bn, 0, none⟩), .pointer (some ⟨bb, 0, none⟩)]] W fun e W4 => e = .returned (.int .i64 f) ∧ Var W4 bn 3 nv ∧ Var W4 bb 3 bv ∧ Chg [bn, bb] W W4)
    (H3 : ∀ (W : World) (bm bb : Nat), ByRow W v0 n0 x0 → Var W bm 2 0 → Var W bb 3 bv → bm ≠ bb → Calls Try.prog 21 #[v0, .func (.func 31) #[] #[.pointer (some ⟨bm, 0, none⟩), .pointer (some ⟨bb, 0, none⟩)]] W fun e W4 => e = .returned (.int .i64 g) ∧ Var W4 bm 2 mv ∧ Var W4 bb 3 bw ∧ Chg [bm, bb] W W4)
    (hend : (f = 0 ∧ g = 0 ∧ nv = mv ∧ 0 ≤ nv ∧ nv ≤ a2 ∧ bw = 2) ∨ (f = 30 ∧ (g = 30 ∨ (g = 0 ∧ (mv < 0 ∨ (0 ≤ mv ∧ a2 < mv)))))) :
    Calls Try.prog 8 #[v0, .int .i64 a1, .int .i64 a2] w fun e w' => e = .returned (.bool true) ∧ Up w w' := by
  have hmf : ∀ (fn : Fn) (first cap : Array Value) (w : World), (Instr.makeFunc fn first cap).run Try.prog w = .ok (.func fn first cap) w := fun _ _ _ _ => rfl
  have K2 := hid H2
  have K3 := hid H3
  have KE := hid hend
  have HV := hid w0
  clear H2 H3 hend w0
  obtain ⟨E, hE⟩ : ∃ E : Int, E = if a1 = 0 then 30 else a1 := ⟨_, rfl⟩
  have HE := hid hE
  clear hE
  go_enter Try.func8, Try.ntmps8
  go_wp2_with (go_at_call 20; refine (reading_any _).mono ?_; rintro e W1 ⟨rfl, u1⟩; have HU1 := hid u1; clear u1)
  have hc1 : Var W1 w.heap.size 3 a1 := ((var_new w 3 a1).up ((Up.refl _).alloc _)).up HU1.out
  have hs1 : Var W1 (w.heap.size + 1) 3 a2 := by
    have := (var_new (w.alloc (.cells #[.int .i64 a1] 3)) 3 a2).up HU1.out
    rw [show (w.alloc (.cells #[.int .i64 a1] 3)).heap.size = w.heap.size + 1 by simp] at this
    exact this
  have u1 : Up w W1 := Up.trans (((Up.refl w).alloc _).alloc _) HU1.out
  refine (read1 w.heap.size 3 a1 v0 n0 x0 W1 (HV.out.up u1) hc1 E HE.out).mono ?_
  rintro e W2 ⟨rfl, g2⟩
  have hc2 := hc1.chg g2 (by simp)
  have hs2 := hs1.chg g2 (by simp)
  have u2 := chg_up u1 g2 (by simp)
  have c2 := hc2.cell
  have HC2 := hid hc2
  have HS2 := hid hs2
  clear hc1 hs1 hc2 hs2 g2 HU1
  have tE : E = if a1 = 0 then 30 else a1 := HE.out
  by_cases ha : a1 = 0
  · rw [if_pos ha] at tE
    subst tE
    subst ha
    go_wp2_with (fail)
    have u3 : Up w (((W2.alloc (.cells #[.int .i64 0] 3)).alloc (.cells #[.int .i64 0] 2)).alloc (.cells #[.int .i64 0] 3)) := ((u2.alloc _).alloc _).alloc _
    have up3 : Up W2 (((W2.alloc (.cells #[.int .i64 0] 3)).alloc (.cells #[.int .i64 0] 2)).alloc (.cells #[.int .i64 0] 3)) := (((Up.refl W2).alloc _).alloc _).alloc _
    have hn3 : Var (((W2.alloc (.cells #[.int .i64 0] 3)).alloc (.cells #[.int .i64 0] 2)).alloc (.cells #[.int .i64 0] 3)) W2.heap.size 3 0 := (var_new W2 3 0).up (((Up.refl _).alloc _).alloc _)
    have hm3 : Var (((W2.alloc (.cells #[.int .i64 0] 3)).alloc (.cells #[.int .i64 0] 2)).alloc (.cells #[.int .i64 0] 3)) (W2.heap.size + 1) 2 0 := by
      have := (var_new (W2.alloc (.cells #[.int .i64 0] 3)) 2 0).up ((Up.refl _).alloc (.cells #[.int .i64 0] 3))
      rw [show (W2.alloc (.cells #[.int .i64 0] 3)).heap.size = W2.heap.size + 1 by simp] at this
      exact this
    have hb3 : Var (((W2.alloc (.cells #[.int .i64 0] 3)).alloc (.cells #[.int .i64 0] 2)).alloc (.cells #[.int .i64 0] 3)) (W2.heap.size + 1 + 1) 3 0 := by
      have := var_new ((W2.alloc (.cells #[.int .i64 0] 3)).alloc (.cells #[.int .i64 0] 2)) 3 0
      rw [show ((W2.alloc (.cells #[.int .i64 0] 3)).alloc (.cells #[.int .i64 0] 2)).heap.size = W2.heap.size + 1 + 1 by simp] at this
      exact this
    have hs3 := HS2.out.up up3
    have hle : w.heap.size + 1 < W2.heap.size := HS2.out.lt
    refine (K2.out _ (w.heap.size + 1) W2.heap.size (W2.heap.size + 1 + 1) (HV.out.up u3) hs3 hn3 hb3 (by omega)).mono ?_
    rintro e W5 ⟨rfl, hn5, hb5, g5⟩
    have hm5 := hm3.chg g5 (by simp)
    have hs5 := hs3.chg g5 (by simp; omega)
    have u5 := chg_up u3 g5 (fun k hk => by simp at hk; omega)
    have HN5 := hid hn5
    have HB5 := hid hb5
    have HM5 := hid hm5
    have HS5 := hid hs5
    clear hn3 hm3 hb3 hs3 up3 u3 hn5 hb5 hm5 hs5 g5 c2
    go_wp2_with (fail)
    refine (K3.out W5 (W2.heap.size + 1) (W2.heap.size + 1 + 1) (HV.out.up u5) HM5.out HB5.out (by omega)).mono ?_
    rintro e W6 ⟨rfl, hm6, hb6, g6⟩
    have hn6 := HN5.out.chg g6 (by simp; omega)
    have hs6 := HS5.out.chg g6 (by simp; omega)
    have u6 := chg_up u5 g6 (fun k hk => by simp at hk; omega)
    have cn := hn6.cell
    have cm := hm6.cell
    have cb := hb6.cell
    have cs := hs6.cell
    clear hm6 hb6 g6 hn6 hs6 HN5 HB5 HM5 HS5 HS2 HC2 u5 u2 u1
    rcases KE.out with ⟨rfl, rfl, rfl, e1, e2, rfl⟩ | ⟨rfl, rfl | ⟨rfl, e3 | ⟨e3, e4⟩⟩⟩
    · go_wp2
      go_ret
      exact ⟨rfl, u6⟩
    · go_wp2
      go_ret
      exact ⟨rfl, u6⟩
    · go_wp2
      go_ret
      exact ⟨rfl, u6⟩
    · go_wp2
      go_ret
      exact ⟨rfl, u6⟩
  · rw [if_neg ha] at tE
    subst tE
    have ta : (E == 0) = false := by rw [beq_eq_false_iff_ne]; exact ha
    have tb : (E != 0) = true := by rw [bne_iff_ne]; exact ha
    have tc : (E != E) = false := by simp
    clear ha HE
    go_wp2_with (fail)
    have u3 : Up w (((W2.alloc (.cells #[.int .i64 0] 3)).alloc (.cells #[.int .i64 0] 2)).alloc (.cells #[.int .i64 0] 3)) := ((u2.alloc _).alloc _).alloc _
    have up3 : Up W2 (((W2.alloc (.cells #[.int .i64 0] 3)).alloc (.cells #[.int .i64 0] 2)).alloc (.cells #[.int .i64 0] 3)) := (((Up.refl W2).alloc _).alloc _).alloc _
    have hn3 : Var (((W2.alloc (.cells #[.int .i64 0] 3)).alloc (.cells #[.int .i64 0] 2)).alloc (.cells #[.int .i64 0] 3)) W2.heap.size 3 0 := (var_new W2 3 0).up (((Up.refl _).alloc _).alloc _)
    have hm3 : Var (((W2.alloc (.cells #[.int .i64 0] 3)).alloc (.cells #[.int .i64 0] 2)).alloc (.cells #[.int .i64 0] 3)) (W2.heap.size + 1) 2 0 := by
      have := (var_new (W2.alloc (.cells #[.int .i64 0] 3)) 2 0).up ((Up.refl _).alloc (.cells #[.int .i64 0] 3))
      rw [show (W2.alloc (.cells #[.int .i64 0] 3)).heap.size = W2.heap.size + 1 by simp] at this
      exact this
    have hb3 : Var (((W2.alloc (.cells #[.int .i64 0] 3)).alloc (.cells #[.int .i64 0] 2)).alloc (.cells #[.int .i64 0] 3)) (W2.heap.size + 1 + 1) 3 0 := by
      have := var_new ((W2.alloc (.cells #[.int .i64 0] 3)).alloc (.cells #[.int .i64 0] 2)) 3 0
      rw [show ((W2.alloc (.cells #[.int .i64 0] 3)).alloc (.cells #[.int .i64 0] 2)).heap.size = W2.heap.size + 1 + 1 by simp] at this
      exact this
    have hs3 := HS2.out.up up3
    have hle : w.heap.size + 1 < W2.heap.size := HS2.out.lt
    refine (K2.out _ (w.heap.size + 1) W2.heap.size (W2.heap.size + 1 + 1) (HV.out.up u3) hs3 hn3 hb3 (by omega)).mono ?_
    rintro e W5 ⟨rfl, hn5, hb5, g5⟩
    have hm5 := hm3.chg g5 (by simp)
    have hs5 := hs3.chg g5 (by simp; omega)
    have u5 := chg_up u3 g5 (fun k hk => by simp at hk; omega)
    have HN5 := hid hn5
    have HB5 := hid hb5
    have HM5 := hid hm5
    have HS5 := hid hs5
    clear hn3 hm3 hb3 hs3 up3 u3 hn5 hb5 hm5 hs5 g5 c2
    go_wp2_with (fail)
    refine (K3.out W5 (W2.heap.size + 1) (W2.heap.size + 1 + 1) (HV.out.up u5) HM5.out HB5.out (by omega)).mono ?_
    rintro e W6 ⟨rfl, hm6, hb6, g6⟩
    have hn6 := HN5.out.chg g6 (by simp; omega)
    have hs6 := HS5.out.chg g6 (by simp; omega)
    have u6 := chg_up u5 g6 (fun k hk => by simp at hk; omega)
    have cn := hn6.cell
    have cm := hm6.cell
    have cb := hb6.cell
    have cs := hs6.cell
    clear hm6 hb6 g6 hn6 hs6 HN5 HB5 HM5 HS5 HS2 HC2 u5 u2 u1
    rcases KE.out with ⟨rfl, rfl, rfl, e1, e2, rfl⟩ | ⟨rfl, rfl | ⟨rfl, e3 | ⟨e3, e4⟩⟩⟩
    · go_wp2
      go_ret
      exact ⟨rfl, u6⟩
    · go_wp2
      go_ret
      exact ⟨rfl, u6⟩
    · go_wp2
      go_ret
      exact ⟨rfl, u6⟩
    · go_wp2
      go_ret
      exact ⟨rfl, u6⟩

theorem walk (v0 : Value) (n0 : Nat) (x0 : Nat → Nat) (a1 : Int) (a2 : Int) (w : World) (w0 : ByRow w v0 n0 x0) (w1 : (Lit.int .i64 a1).wf = true) (w2 : (Lit.int .i64 a2).wf = true) :
    Calls Try.prog 8 #[v0, .int .i64 a1, .int .i64 a2] w fun e w' => e = .returned (.bool true) ∧ Up w w' := by
  have hmf : ∀ (fn : Fn) (first cap : Array Value) (w : World), (Instr.makeFunc fn first cap).run Try.prog w = .ok (.func fn first cap) w := fun _ _ _ _ => rfl
  have hwf := w2
  simp [Lit.wf, IntKind.min, IntKind.max, IntKind.bits, IntKind.signed] at hwf
  have hw1 := w1
  simp [Lit.wf, IntKind.min, IntKind.max, IntKind.bits, IntKind.signed] at hw1
  have hB : ∀ (W : World) (bs bn bb : Nat), lnK x0 n0 = 0 ∨ lnV x0 n0 < 0 ∨ a2 < lnV x0 n0 → ByRow W v0 n0 x0 → Var W bs 3 a2 → Var W bn 3 0 → Var W bb 3 0 → bn ≠ bb → Calls Try.prog 21 #[v0, .func (.func 29) #[] #[.pointer (some ⟨bs, 0, none⟩), .pointer (some ⟨bn, 0, none⟩), .pointer (some ⟨bb, 0, none⟩)]] W fun e W4 => e = .returned (.int .i64 30) ∧ Var W4 bn 3 0 ∧ Var W4 bb 3 0 ∧ Chg [bn, bb] W W4 := by
    intro W bs bn bb hk hv hs hn hb hne
    exact (read2_no bs bn bb 3 a2 v0 n0 x0 W hv hs hk).mono fun e W4 ⟨he, hg⟩ => ⟨he, hn.chg hg (by simp), hb.chg hg (by simp), hg.mono (by simp)⟩
  by_cases hk : lnK x0 n0 = 0
  · refine head v0 n0 x0 a1 a2 w w0 hwf hw1 30 30 0 0 0 0 (fun W bs bn bb => hB W bs bn bb (.inl hk)) (fun W bm bb hv hm hb hne => ?_) (.inr ⟨rfl, .inl rfl⟩)
    exact (read3_no bm bb v0 n0 x0 W hv hk).mono fun e W4 ⟨he, hg⟩ => ⟨he, hm.chg hg (by simp), hb.chg hg (by simp), hg.mono (by simp)⟩
  · by_cases hr : 0 ≤ lnV x0 n0 ∧ lnV x0 n0 ≤ a2
    · refine head v0 n0 x0 a1 a2 w w0 hwf hw1 (if 0 < n0 - lnK x0 n0 then 30 else 0) (if 0 < n0 - lnK x0 n0 then 30 else 0) (lnV x0 n0) (0 + 1) (lnV x0 n0) (0 + 1 + 1) (fun W bs bn bb hv hs hn hb hne => read2_ok bs bn bb _ _ _ a2 0 0 v0 n0 x0 W hv hs hn hb hne (by omega) (by omega) hk hr.1 hr.2 hwf.2) (fun W bm bb hv hm hb hne => read3_ok bm bb _ _ 0 (0 + 1) v0 n0 x0 W hv hm hb hne (by omega) (by omega) hk) ?_
      split
      · exact .inr ⟨rfl, .inl rfl⟩
      · exact .inl ⟨rfl, rfl, rfl, hr.1, hr.2, rfl⟩
    · refine head v0 n0 x0 a1 a2 w w0 hwf hw1 30 (if 0 < n0 - lnK x0 n0 then 30 else 0) 0 0 (lnV x0 n0) (0 + 1) (fun W bs bn bb => hB W bs bn bb (.inr (by omega))) (fun W bm bb hv hm hb hne => read3_ok bm bb _ _ 0 0 v0 n0 x0 W hv hm hb hne (by omega) (by omega) hk) (.inr ⟨rfl, ?_⟩)
      split
      · exact .inl rfl
      · exact .inr ⟨rfl, by omega⟩

set_option maxRecDepth 100000 in
theorem lifted (os : Os) (started : os.Started) (H : Type) (enc : TypeId × Value → H) :
    ReturnsInHanded {} Try.checked os 8 .any (Rows.packFailsSpec.pre6 enc Try.prog Try.f8 Rows.packFailsRow.domain false) (Rows.packFailsSpec.post enc Try.prog Try.f8 false true false false) := by
  refine returnsInHanded_of_change (C := Try.checked) own started (by kernel_rfl) Try.func8
    (ChangeSpec.witness6 (enc := enc) (C := Try.checked) false ⟨#[], #[.slice none 0 0, .int .i64 0, .int .i64 0], []⟩ 8 (by kernel_rfl) (by kernel_rfl) (by kernel_rfl) (by kernel_rfl)) ?_
  intro W base args ds gs before hval0 hW hcnd _
  have hval : ∀ (j : Nat) t v, Try.f8.params[j]? = some t → args[j]? = some v → Value.okWide Try.prog W .any base t v := hval0
  have hW' := hW
  obtain ⟨p, q, hA0, hV, rfl, hfz, hnd⟩ := hW
  have hA : DataW.TrodAll enc Try.prog W 0 (fun _ => true) true Try.f8.params.toList args.toList ds p := hA0
  rw [Try.params8] at hA hval
  obtain ⟨v0, vs0, d0, ds0, p0, q0, hargs, rfl, rfl, h0, r0⟩ := trodAll_cons hA
  obtain ⟨v1, vs1, d1, ds1, p1, q1, rfl, rfl, rfl, h1, r1⟩ := trodAll_cons r0
  obtain ⟨v2, vs2, d2, ds2, p2, q2, rfl, rfl, rfl, h2, r2⟩ := trodAll_cons r1
  obtain ⟨rfl, rfl, rfl⟩ := trodAll_nil r2
  obtain rfl : args = #[v0, v1, v2] := by cases args; simp_all
  obtain ⟨rfl, rfl⟩ := trodVars_none hV
  have k0 := h0
  have lt0 : ∀ x ∈ p0, x.block < W.heap.size := by obtain ⟨m, hm⟩ := k0; exact DataW.trod_lt m _ _ _ hm
  obtain ⟨n0, x0, w0⟩ := open_bytes (hval 0 24 v0 rfl rfl) h0
  have k1 := h1
  have lt1 : ∀ x ∈ p1, x.block < W.heap.size := by obtain ⟨m, hm⟩ := k1; exact DataW.trod_lt m _ _ _ hm
  obtain ⟨a1, rfl, _, _, w1⟩ := open_int Try.underlying3 (hval 1 3 v1 rfl rfl) h1
  have k2 := h2
  have lt2 : ∀ x ∈ p2, x.block < W.heap.size := by obtain ⟨m, hm⟩ := k2; exact DataW.trod_lt m _ _ _ hm
  obtain ⟨a2, rfl, _, _, w2⟩ := open_int Try.underlying3 (hval 2 3 v2 rfl rfl) h2
  clear hA0 hval0
  refine (walk v0 n0 x0 a1 a2 W w0 w1 w2).mono fun e W' ⟨he, bel⟩ => ?_
  subst he
  exact ⟨_, rfl, _, _, _, [], _, [], hW', trodAll_mk1 (shut_bool Try.underlying4 _), (trodAll_cons_mk (Below.trod laidOut (by kernel_rfl) (of_decide_eq_true (by kernel_rfl)) k0 bel lt0) (trodAll_cons_mk (Below.trod laidOut (by kernel_rfl) (of_decide_eq_true (by kernel_rfl)) k1 bel lt1) (trodAll_cons_mk (Below.trod laidOut (by kernel_rfl) (of_decide_eq_true (by kernel_rfl)) k2 bel lt2) trodAll_mk0))), rfl, Below.frame bel _, fun h => by cases h⟩

theorem proved : Rows.PackFailsSaid :=
  OpenClaim.holds_of_wide 8 Try.f8 rfl rfl rfl rfl rfl rfl rfl ⟨rfl, rfl, rfl, rfl, rfl⟩ rfl rfl rfl rfl rfl (by kernel_rfl) Try.func8 (by kernel_rfl)
    (of_decide_eq_true (by kernel_rfl)) (by unfold Func.isWrapper; first | (rw [if_pos (by decide +kernel)]; kernel_rfl) | (rw [if_neg (by decide +kernel)]; exact ⟨rfl, rfl⟩))
    (fun os started H enc _ => lifted os started H enc)
end Go.Proofs.Ytobdgdcccogghaa.packFailsDone
namespace Go.Proofs.Ytobdgdcccogghaa
theorem packFails_holds : Rows.PackFailsSaid := packFailsDone.proved
#print axioms packFails_holds
end Go.Proofs.Ytobdgdcccogghaa
