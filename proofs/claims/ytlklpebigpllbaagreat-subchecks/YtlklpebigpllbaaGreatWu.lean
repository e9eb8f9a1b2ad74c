/- The law SubChecks at every submission; conditions: the lengths fit. -/
import Derived.Test.YtlklpebigpllbaaGreatWkv
namespace Go.Proofs.YtlklpebigpllbaaGreat
open Go.RowKit Go.Lib
set_option linter.unusedVariables false
set_option linter.unusedSimpArgs false
set_option maxRecDepth 20000
theorem ent_chk (args : Array Value) (w : World) : (callFunc 4 args).run Tryz.prog w = .ok (.enter 4 args) w := by kernel_rfl
theorem ent_rchk (args : Array Value) (w : World) : (callFunc 6 args).run Tryz.prog w = .ok (.enter 6 args) w := by kernel_rfl
theorem chk_small : chkV 1 2 0 2 1 1 (atN [4607182418800017408, 4613937818241073152]) (atN [4611686018427387904]) (atS [⟨4607182418800017408, 4613937818241073152, false, false⟩]) = 0 := by decide +kernel
theorem chk_zero (x y : Nat → Nat) (f : Nat → Sp) : chkV 0 0 0 0 0 0 x y f = 43 := by
  unfold chkV
  rw [show misB 0 0 0 = true from rfl]
  rfl
theorem frow0 (w : World) (x : Nat → Nat) : FRow w (.slice none 0 0) 0 x := ⟨by omega, _, _, rfl, fun i hi => by omega⟩
theorem srow0 (w : World) (f : Nat → Sp) : SRow w (.slice none 0 0) 0 f := ⟨by omega, _, _, rfl, fun i hi => by omega⟩
attribute [local go_sem] run_bits run_frombits run_store_float eqF
set_option maxHeartbeats 4000000 in
set_option maxRecDepth 20000 in
theorem checksLaw (s1 s2 s3 : Int) (a1 a2 a3 : Option Addr) (n1 n2 n3 c1 c2 c3 : Nat) (x1 x3 : Nat → Nat) (f2 : Nat → Sp) (b1 : n1 ≤ 17592186044000) (b2 : n2 ≤ 5864062014805) (b3 : n3 ≤ 17592186044000) (w : World) (h1 : FRow w (.slice a1 n1 c1) n1 x1) (h2 : SRow w (.slice a2 n2 c2) n2 f2) (h3 : FRow w (.slice a3 n3 c3) n3 x3) :
    Calls Tryz.prog 3 #[.agg #[.int .i64 s1, .int .i64 s2, .int .i64 s3, .slice a1 n1 c1, .slice a2 n2 c2, .slice a3 n3 c3]] w fun e w' => e = .returned (.bool true) ∧ Old w w' := by
  have HC := hid (fun (W : World) (u : Old w W) => check_any s1 s2 s3 a1 a2 a3 n1 n2 n3 c1 c2 c3 x1 x3 f2 b1 b2 b3 W (h1.old u) (h2.old u) (h3.old u))
  have HR := hid (fun (W : World) (u : Old w W) => refChk_any s1 s2 s3 a1 a2 a3 n1 n2 n3 c1 c2 c3 x1 x3 f2 W (h1.old u) (h2.old u) (h3.old u))
  have HZ := hid (fun (W : World) => check_any 0 0 0 none none none 0 0 0 0 0 0 (fun _ => 0) (fun _ => 0) (fun _ => ⟨0, 0, false, false⟩) (by omega) (by omega) (by omega) W (frow0 W _) (srow0 W _) (frow0 W _))
  rw [chk_zero] at HZ
  clear h1 h2 h3
  generalize chkV s1 s2 s3 n1 n2 n3 x1 x3 f2 = r at *
  go_enter Tryz.func3, Tryz.ntmps3
  go_upto_region 1 with fail
  generalize hw1 : w.alloc (.cells #[.int .i64 s1, .int .i64 s2, .int .i64 s3, .slice a1 n1 c1, .slice a2 n2 c2, .slice a3 n3 c3] 25) = w1 at *
  generalize hsb : w.heap.size = sb at *
  obtain ⟨hS, hV⟩ := sub_new w s1 s2 s3 _ _ _ w1 hw1 sb hsb
  have HV := hid hV
  have HS := hid hS
  clear hw1 hV hsb hS
  go_upto_region 3 with (first | (go_at_call 5; refine (small_any _).mono ?_; rintro e w2 ⟨g1, g2, g3, rfl, q2, u2⟩; have U2 := hid u2; have Q2 := hid (check_any 1 2 0 _ _ _ 2 1 1 _ _ _ _ _ _ (by omega) (by omega) (by omega) w2 q2.1 q2.2.1 q2.2.2); rw [chk_small] at Q2; clear u2 q2) | (go_at_call_of 4 (Value.agg #[.int .i64 1, .int .i64 2, .int .i64 0, .slice (some ⟨g1, 0, none⟩) 2 2, .slice (some ⟨g2, 0, none⟩) 1 1, .slice (some ⟨g3, 0, none⟩) 1 1]); refine Q2.out.mono ?_; rintro e w3 ⟨rfl, u3⟩; have U3 := hid (U2.out.trans u3); clear u3) | (go_at_call 4; refine (HZ.out _).mono ?_; rintro e w4 ⟨rfl, u4⟩; have U4 := hid (U3.out.trans u4); clear u4))
  have BR := hid (SubAt.old U4.out HS.out)
  have HU := hid (HV.out.trans U4.out)
  have HC2 := hid (fun (W : World) (u : Old w4 W) => HC.out W (HU.out.trans u))
  have HR2 := hid (fun (W : World) (u : Old w4 W) => HR.out W (HU.out.trans u))
  clear HC HR HZ HS HV Q2 U2 U3 U4
  refine wp_region_noPanic ?_
  refine wp_region_held_drew (S := SubAt sb s1 s2 s3 (.slice a1 n1 c1) (.slice a2 n2 c2) (.slice a3 n3 c3)) (by kernel_rfl) ?_ (fun hHeld => ?_)
  · exact SubAt.old ((Old.refl _).drew) BR.out
  (try simp only [Act.put]); (try simp only [List.setIfInBounds_toArray]); (try simp only [List.set_cons_succ]); (try simp only [List.set_cons_zero])
  clear hHeld
  refine wpAnyH_take (i := 0) (oi := { dst := some 11, op := Op.load 25 (Operand.tmp 1), type := 25, pos := "law.go:34", after := #[], guard := none }) (v := ?vk1) rfl (by kernel_rfl) (by kernel_rfl) (by kernel_rfl) (fun _ _ _ h => h) (Or.inl ⟨by rfl, ?hk1⟩) (SubAt.old ((Old.refl w4).drew) BR.out) ?rk1
  case hk1 => (intro wz hSw; (try dsimp only at hSw); go_simp; try with_reducible rfl)
  (try simp only [Act.put]); (try simp only [List.setIfInBounds_toArray]); (try simp only [List.set_cons_succ]); (try simp only [List.set_cons_zero])
  refine wpAnyH_take (i := 2) (oi := { dst := some 13, op := Op.load 25 (Operand.tmp 1), type := 25, pos := "law.go:34", after := #[], guard := none }) (v := ?vk2) rfl (by kernel_rfl) (by kernel_rfl) (by kernel_rfl) (fun _ _ _ h => h) (Or.inl ⟨by rfl, ?hk2⟩) (SubAt.old ((Old.refl w4).drew) BR.out) ?rk2
  case hk2 => (intro wz hSw; (try dsimp only at hSw); go_simp; try with_reducible rfl)
  (try simp only [Act.put]); (try simp only [List.setIfInBounds_toArray]); (try simp only [List.set_cons_succ]); (try simp only [List.set_cons_zero])
  refine wpAnyH_ready (rs := [1]) (by kernel_rfl) (by simp) ?_
  refine AllReadyH.cons (o := { dst := some 12, op := Op.call { callee := Callee.value (Operand.func 4), args := #[Operand.tmp 11], argTypes := #[25] }, type := 26, pos := "law.go:34", after := #[{ on := 0, ground := Ground.data }], guard := none }) rfl (fun K hK => ?_) AllReadyH.nil
  refine wantCall1 ?_ 4 (.tmp 11) #[25] ?_ (.agg #[.int .i64 s1, .int .i64 s2, .int .i64 s3, .slice a1 n1 c1, .slice a2 n2 c2, .slice a3 n3 c3]) ?_ ?_ (ent_chk _ _) ?_
  · rfl
  · rfl
  · rfl
  · rfl
  refine (HC2.out _ ((Old.refl w4).drew)).mono ?_
  rintro o x3 ⟨rfl, b3⟩
  refine ⟨_, rfl, ?_⟩
  have U3 := ((Old.refl w4).drew).trans b3
  refine hK.out _ _ (SubAt.old U3 BR.out) (fun _ => ?_)
  clear hK K
  (try simp only [Act.put]); (try simp only [List.setIfInBounds_toArray]); (try simp only [List.set_cons_succ]); (try simp only [List.set_cons_zero])
  refine wpAnyH_ready (rs := [3]) (by kernel_rfl) (by simp) ?_
  refine AllReadyH.cons (o := { dst := some 14, op := Op.call { callee := Callee.value (Operand.func 6), args := #[Operand.tmp 13], argTypes := #[25] }, type := 3, pos := "law.go:34", after := #[{ on := 2, ground := Ground.data }, { on := 1, ground := Ground.chain }], guard := none }) rfl (fun K hK => ?_) AllReadyH.nil
  refine wantCall1 ?_ 6 (.tmp 13) #[25] ?_ (.agg #[.int .i64 s1, .int .i64 s2, .int .i64 s3, .slice a1 n1 c1, .slice a2 n2 c2, .slice a3 n3 c3]) ?_ ?_ (ent_rchk _ _) ?_
  · rfl
  · rfl
  · rfl
  · rfl
  refine (HR2.out _ U3).mono ?_
  rintro o x4 ⟨rfl, b4⟩
  refine ⟨_, rfl, ?_⟩
  have U4 := U3.trans b4
  refine hK.out _ _ (SubAt.old U4 BR.out) (fun _ => ?_)
  clear hK K
  (try simp only [Act.put]); (try simp only [List.setIfInBounds_toArray]); (try simp only [List.set_cons_succ]); (try simp only [List.set_cons_zero])
  refine wpAnyH_take (i := 4) (oi := { dst := some 15, op := Op.binOp BinOp.eql 3 (Operand.tmp 12) (Operand.tmp 14) 3, type := 4, pos := "law.go:34", after := #[{ on := 1, ground := Ground.data }, { on := 3, ground := Ground.data }], guard := none }) (v := ?vk5) rfl (by kernel_rfl) (by kernel_rfl) (by kernel_rfl) (fun _ _ _ h => h) (Or.inl ⟨by rfl, ?hk5⟩) (SubAt.old U4 BR.out) ?rk5
  case hk5 => (intro wz hSw; (try dsimp only at hSw); go_simp; try with_reducible rfl)
  (try simp only [Act.put]); (try simp only [List.setIfInBounds_toArray]); (try simp only [List.set_cons_succ]); (try simp only [List.set_cons_zero])
  refine wpAnyH_ready (rs := [5]) (by kernel_rfl) (by simp) ?_
  refine AllReadyH.cons (o := { dst := some 2, op := Op.assign (Operand.tmp 15), type := 4, pos := "law.go:34", after := #[{ on := 4, ground := Ground.data }, { on := 3, ground := Ground.chain }, { on := 0, ground := Ground.phase }, { on := 1, ground := Ground.phase }, { on := 2, ground := Ground.phase }, { on := 3, ground := Ground.phase }, { on := 4, ground := Ground.phase }], guard := none }) rfl (fun K hK => ?_) AllReadyH.nil
  go_simp
  refine hK.out _ _ (SubAt.old U4 BR.out) (fun _ => ?_)
  clear hK K
  (try simp only [Act.put]); (try simp only [List.setIfInBounds_toArray]); (try simp only [List.set_cons_succ]); (try simp only [List.set_cons_zero])
  refine wpAnyH_done (by kernel_rfl) ?_ _
  refine NoPanic.normal ?_
  have U9 := hid U4
  go_wp2
  go_ret
  exact ⟨rfl, HU.out.trans U9.out⟩
end Go.Proofs.YtlklpebigpllbaaGreat
