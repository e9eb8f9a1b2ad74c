/- Proved: for every two submissions and every bool the law SerialPairs returns true, without a condition. -/
import Derived.Test.YtjpcdjkandhfbaaGreatTJ
import Derived.Test.YtjpcdjkandhfbaaGreatTA
import Derived.SizedLaws
import Derived.ProofKit
import Derived.OpenShut
import Derived.Lib.SmallJoins
namespace Go.Proofs.YtjpcdjkandhfbaaGreat.serialPairsDone
open Go.ChangeShapes Go.WideShapes Go.ChangeAt Go.RowKit Go.Joins
set_option linter.unusedVariables false
set_option maxRecDepth 20000

theorem own : ownKnob Tryz.prog.godebug = none := by kernel_rfl
theorem laidOut : laidOutB Tryz.prog = true := by kernel_rfl
theorem wb {a : Nat} (h : (Lit.float .f64 a).wf = true) : Fl.W a := by simp [Lit.wf] at h; exact h
theorem walk (v0 : Value) (v1 : Value) (a2 : Bool) (w : World) (w0 : SubB w v0) (w1 : SubB w v1) (w2 : True) :
    Calls Tryz.prog 8 #[v0, v1, .bool a2] w fun e w' => e = .returned (.bool true) ∧ Old w w' := by
  obtain ⟨s1, s2, s3, ga1, ga2, ga3, n1, n2, n3, c1, c2, c3, x1, x3, f2, rfl, ⟨h1, h2, h3⟩, b1, b2, b3⟩ := w0
  obtain ⟨r1, r2, r3, p1, p2, p3, m1, m2, m3, d1, d2, d3, y1, y3, g2, rfl, ⟨k1, k2, k3⟩, e1, e2, e3⟩ := w1
  exact pairsLaw ⟨s1, s2, s3, ga1, ga2, ga3, n1, n2, n3, c1, c2, c3, x1, x3, f2⟩ ⟨r1, r2, r3, p1, p2, p3, m1, m2, m3, d1, d2, d3, y1, y3, g2⟩ a2 w ⟨h1, h2, h3, b1, b2, b3⟩ ⟨k1, k2, k3, e1, e2, e3⟩

set_option maxRecDepth 100000 in
theorem lifted (os : Os) (started : os.Started) (H : Type) (enc : TypeId × Value → H) :
    ReturnsInHanded {} Tryz.checked os 8 .any (Rows.serialPairsSpec.pre6 enc Tryz.prog Tryz.f8 Rows.serialPairsRow.domain false) (Rows.serialPairsSpec.post enc Tryz.prog Tryz.f8 false true false false) := by
  refine returnsInHanded_of_change_sized (C := Tryz.checked) own started (by kernel_rfl) Tryz.func8
    (ChangeSpec.witness6 (enc := enc) (C := Tryz.checked) false ⟨#[], #[.agg #[.int .i64 0, .int .i64 0, .int .i64 0, .slice none 0 0, .slice none 0 0, .slice none 0 0], .agg #[.int .i64 0, .int .i64 0, .int .i64 0, .slice none 0 0, .slice none 0 0, .slice none 0 0], .bool false], []⟩ 8 (by kernel_rfl) (by kernel_rfl) (by kernel_rfl) (by kernel_rfl)) ?_
  intro W base args ds gs before hval0 hW hcnd hsz0 _
  have hval : ∀ (j : Nat) t v, Tryz.f8.params[j]? = some t → args[j]? = some v → Value.okWide Tryz.prog W .any base t v := hval0
  have hW' := hW
  obtain ⟨p, q, hA0, hV, rfl, hfz, hnd⟩ := hW
  have hA : DataW.TrodAll enc Tryz.prog W 0 (fun _ => true) true Tryz.f8.params.toList args.toList ds p := hA0
  have hsz : (DataW.weightsEach Tryz.prog (Tryz.f8.params.toList ++ Rows.serialPairsSpec.plain.varTypes Tryz.prog) (ds ++ gs)).all (· ≤ reachBytes) = true := hsz0
  rw [Tryz.params8] at hA hval hsz
  obtain ⟨v0, vs0, d0, ds0, p0, q0, hargs, rfl, rfl, h0, r0⟩ := trodAll_cons hA
  obtain ⟨v1, vs1, d1, ds1, p1, q1, rfl, rfl, rfl, h1, r1⟩ := trodAll_cons r0
  obtain ⟨v2, vs2, d2, ds2, p2, q2, rfl, rfl, rfl, h2, r2⟩ := trodAll_cons r1
  obtain ⟨rfl, rfl, rfl⟩ := trodAll_nil r2
  obtain rfl : args = #[v0, v1, v2] := by cases args; simp_all
  obtain ⟨rfl, rfl⟩ := trodVars_none hV
  have hwt : ∀ (j : Nat) t d, _ → _ → ∀ x ∈ DataW.weights Tryz.prog t d, x ≤ reachBytes := fun j t d ht hd x hx => by simpa using List.all_eq_true.1 hsz _ (DataW.weights_mem_each (j := j) (t := t) (d := d) ht hd x hx)
  have k0 := h0
  have lt0 : ∀ x ∈ p0, x.block < W.heap.size := by obtain ⟨m, hm⟩ := k0; exact DataW.trod_lt m _ _ _ hm
  have w0 := open_subB (hval 0 31 v0 rfl rfl) h0 (hwt 0 31 d0 rfl rfl)
  have k1 := h1
  have lt1 : ∀ x ∈ p1, x.block < W.heap.size := by obtain ⟨m, hm⟩ := k1; exact DataW.trod_lt m _ _ _ hm
  have w1 := open_subB (hval 1 31 v1 rfl rfl) h1 (hwt 1 31 d1 rfl rfl)
  have k2 := h2
  have lt2 : ∀ x ∈ p2, x.block < W.heap.size := by obtain ⟨m, hm⟩ := k2; exact DataW.trod_lt m _ _ _ hm
  obtain ⟨a2, rfl, _, _⟩ := open_bool Tryz.underlying4 (hval 2 4 v2 rfl rfl) h2
  clear hA0 hval0
  refine (walk v0 v1 a2 W w0 w1 trivial).mono fun e W' ⟨he, bel⟩ => ?_
  subst he
  exact ⟨_, rfl, _, _, _, [], _, [], hW', trodAll_mk1 (shut_bool Tryz.underlying4 _), (trodAll_cons_mk (Below.trod laidOut (by kernel_rfl) (of_decide_eq_true (by kernel_rfl)) k0 bel lt0) (trodAll_cons_mk (Below.trod laidOut (by kernel_rfl) (of_decide_eq_true (by kernel_rfl)) k1 bel lt1) (trodAll_cons_mk (Below.trod laidOut (by kernel_rfl) (of_decide_eq_true (by kernel_rfl)) k2 bel lt2) trodAll_mk0))), rfl, Below.frame bel _, fun h => by cases h⟩

theorem proved : Rows.SerialPairsSaid :=
  OpenClaim.holds_of_wide 8 Tryz.f8 rfl rfl rfl rfl rfl rfl rfl ⟨rfl, rfl, rfl, rfl, rfl⟩ rfl rfl rfl rfl rfl (by kernel_rfl) Tryz.func8 (by kernel_rfl)
    (of_decide_eq_true (by kernel_rfl)) (by unfold Func.isWrapper; first | (rw [if_pos (by decide +kernel)]; kernel_rfl) | (rw [if_neg (by decide +kernel)]; exact ⟨rfl, rfl⟩))
    (fun os started H enc _ => lifted os started H enc)
end Go.Proofs.YtjpcdjkandhfbaaGreat.serialPairsDone
namespace Go.Proofs.YtjpcdjkandhfbaaGreat
theorem serialPairs_holds : Rows.SerialPairsSaid := serialPairsDone.proved
#print axioms serialPairs_holds
end Go.Proofs.YtjpcdjkandhfbaaGreat
