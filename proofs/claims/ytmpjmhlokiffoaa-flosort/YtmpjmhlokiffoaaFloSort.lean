/- Proved: for every row of float64 the law FloSort returns true, without a condition. -/
import Derived.Test.YtmpjmhlokiffoaaSl2
import Derived.SizedLaws
import Derived.ProofKit
import Derived.OpenShut
import Derived.Lib.SmallJoins
namespace Go.Proofs.Ytmpjmhlokiffoaa.floSortDone
open Go.ChangeShapes Go.WideShapes Go.ChangeAt Go.RowKit Go.Joins
set_option linter.unusedVariables false

theorem own : ownKnob Try.prog.godebug = none := by kernel_rfl
theorem laidOut : laidOutB Try.prog = true := by kernel_rfl
theorem wb {a : Nat} (h : (Lit.float .f64 a).wf = true) : Fl.W a := by simp [Lit.wf] at h; exact h
theorem bytesFloat : Try.prog.bytesOf 24 = 8 := by kernel_rfl
theorem open_floats2 {H : Type} {enc : TypeId × Value → H} {w : World} {base : Nat} {v : Value} {d : DataW H} {ps : List MemPlace} (hv : Value.okWide Try.prog w .any base 22 v) (h : DataW.Trod enc Try.prog w 0 (fun _ => true) true 22 v d ps) :
    ∃ (n : Nat) (x : Nat → Nat), FlRow w v n x ∧ (n = 0 ∨ ∃ els sp, d = .slice els sp ∧ els.length = n) := by
  obtain ⟨n, x, hr⟩ := open_floats hv h
  refine ⟨n, x, hr, ?_⟩
  obtain ⟨a0, len0, cap0, rfl⟩ := okWide_slice Try.underlying22 hv
  have hn : n = len0 := by
    rcases hr with ⟨rfl, a, c, e⟩ | ⟨_, _, b, off, cap, e, _⟩
    · cases e; rfl
    · cases e; rfl
  subst hn
  obtain ⟨fuel, hf⟩ := h
  rcases DataW.trod_slice Try.underlying22 hf with ⟨hcs, _⟩ | ⟨a, len, cap, elems, rest, m, _, hcs, hx, hb, hl, hm, hlen, hel, _, _⟩
  · simp [Value.cells] at hcs; exact .inl hcs.2.1
  · simp [Value.cells] at hcs
    obtain ⟨_, hln, _⟩ := hcs
    cases hx
    exact .inr ⟨_, _, rfl, by simp [hlen, hln]⟩

theorem walk (v0 : Value) (n0 : Nat) (x0 : Nat → Nat) (w : World) (w0 : FlRow w v0 n0 x0) (b0 : n0 ≤ 17592186044000) :
    Calls Try.prog 3 #[v0] w fun e w' => e = .returned (.bool true) ∧ Up w w' := by
  rcases w0 with ⟨rfl, a, c, rfl⟩ | ⟨hn, _, b, off, cap, rfl, hc⟩
  · exact sortLaw_none a c w
  · exact sortLaw_some b off n0 cap x0 w hn b0 hc

set_option maxRecDepth 100000 in
theorem lifted (os : Os) (started : os.Started) (H : Type) (enc : TypeId × Value → H) :
    ReturnsInHanded {} Try.checked os 3 .any (Rows.floSortSpec.pre6 enc Try.prog Try.f3 Rows.floSortRow.domain false) (Rows.floSortSpec.post enc Try.prog Try.f3 false true false false) := by
  refine returnsInHanded_of_change_sized (C := Try.checked) own started (by kernel_rfl) Try.func3
    (ChangeSpec.witness6 (enc := enc) (C := Try.checked) false ⟨#[], #[.slice none 0 0], []⟩ 8 (by kernel_rfl) (by kernel_rfl) (by kernel_rfl) (by kernel_rfl)) ?_
  intro W base args ds gs before hval0 hW hcnd hsz0 _
  have hval : ∀ (j : Nat) t v, Try.f3.params[j]? = some t → args[j]? = some v → Value.okWide Try.prog W .any base t v := hval0
  have hW' := hW
  obtain ⟨p, q, hA0, hV, rfl, hfz, hnd⟩ := hW
  have hA : DataW.TrodAll enc Try.prog W 0 (fun _ => true) true Try.f3.params.toList args.toList ds p := hA0
  have hsz : (DataW.weightsEach Try.prog (Try.f3.params.toList ++ Rows.floSortSpec.plain.varTypes Try.prog) (ds ++ gs)).all (· ≤ reachBytes) = true := hsz0
  rw [Try.params3] at hA hval hsz
  obtain ⟨v0, vs0, d0, ds0, p0, q0, hargs, rfl, rfl, h0, r0⟩ := trodAll_cons hA
  obtain ⟨rfl, rfl, rfl⟩ := trodAll_nil r0
  obtain rfl : args = #[v0] := by cases args; simp_all
  obtain ⟨rfl, rfl⟩ := trodVars_none hV
  have k0 := h0
  have lt0 : ∀ x ∈ p0, x.block < W.heap.size := by obtain ⟨m, hm⟩ := k0; exact DataW.trod_lt m _ _ _ hm
  obtain ⟨n0, x0, w0, hd0⟩ := open_floats2 (hval 0 22 v0 rfl rfl) h0
  have b0 : n0 ≤ 17592186044000 := by
    rcases hd0 with rfl | ⟨els, sp, rfl, rfl⟩
    · omega
    · have hz := sized_slice hsz (j := 0) (t := 22) (e := 24) rfl rfl Try.underlying22
      rw [bytesFloat] at hz
      simp only [reachBytes] at hz
      omega
  clear hA0 hval0
  refine (walk v0 n0 x0 W w0 b0).mono fun e W' ⟨he, bel⟩ => ?_
  subst he
  exact ⟨_, rfl, _, _, _, [], _, [], hW', trodAll_mk1 (shut_bool Try.underlying4 _), (trodAll_cons_mk (Below.trod laidOut (by kernel_rfl) (of_decide_eq_true (by kernel_rfl)) k0 bel lt0) trodAll_mk0), rfl, Below.frame bel _, fun h => by cases h⟩

theorem proved : Rows.FloSortSaid :=
  OpenClaim.holds_of_wide 3 Try.f3 rfl rfl rfl rfl rfl rfl rfl ⟨rfl, rfl, rfl, rfl, rfl⟩ rfl rfl rfl rfl rfl (by kernel_rfl) Try.func3 (by kernel_rfl)
    (of_decide_eq_true (by kernel_rfl)) (by unfold Func.isWrapper; first | (rw [if_pos (by decide +kernel)]; kernel_rfl) | (rw [if_neg (by decide +kernel)]; exact ⟨rfl, rfl⟩))
    (fun os started H enc _ => lifted os started H enc)
end Go.Proofs.Ytmpjmhlokiffoaa.floSortDone
namespace Go.Proofs.Ytmpjmhlokiffoaa
theorem floSort_holds : Rows.FloSortSaid := floSortDone.proved
#print axioms floSort_holds
end Go.Proofs.Ytmpjmhlokiffoaa
