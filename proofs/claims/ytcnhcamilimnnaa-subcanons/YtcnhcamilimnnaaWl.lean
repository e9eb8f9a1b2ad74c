/- A row of numbers appended whole to none; a row of the call's own that is written; no condition. -/
import Derived.Test.YtcnhcamilimnnaaWb
namespace Go.Proofs.Ytcnhcamilimnnaa
open Go.RowKit
set_option linter.unusedVariables false
theorem run_append0F {P : Program} {w : World} (t ty e : TypeId) (i : TypeInfo) (ht : P.underlying t = some (.slice e)) (hi : P.info? e = some i) (g : Addr) (q : Option Addr) (c : Nat) :
    (Builtin.append_ #[t, t] ty #[.slice (some g) 0 0, .slice q 0 c]).run P w = .ok (.slice (some g) 0 0) w := by
  cases q <;> simp [Builtin.append_, run_underlying ht, sizeOf, typeInfo, hi, Builtin.lenOf, Builtin.firstCells, storeCells, loadCells, loadCellsFrom, Result.andThen]
theorem wp_appF0 {ops : Array Oper} {rest : List Oper} {o : Oper} {a : Act} {Q : Exit → Act → World → Prop} {w : World} (hgd : o.guard = none) (s x : Operand)
    (ho : o.op = .call { callee := .builtin .append, args := #[s, x], argTypes := #[22, 22] }) (g : Addr) (q : Option Addr) (c : Nat)
    (hs : a.eval s = .slice (some g) 0 0) (hx : a.eval x = .slice q 0 c) (h : wpList Try.prog ops Q rest (a.put o.dst (.slice (some g) 0 0)) w) : wpList Try.prog ops Q (o :: rest) a w := by
  obtain ⟨i0, hi, hz0, hz1, hz2⟩ := info_parts infoFloat
  refine wpList_plain hgd fun K hK => ?_
  have hrun := run_append0F (P := Try.prog) (w := w) 22 o.type 33 i0 Try.underlying22 hi g q c
  unfold Oper.wp
  simp [execOp, ho, resolve, invoke, builtin, hs, hx, hrun, Result.andThen]
  exact hK _ _ h
/-- 'append([]float64{}, xs...)'. -/
theorem wp_appFW {ops : Array Oper} {rest : List Oper} {o : Oper} {a : Act} {Q : Exit → Act → World → Prop} {w : World} (hgd : o.guard = none) (s x : Operand)
    (ho : o.op = .call { callee := .builtin .append, args := #[s, x], argTypes := #[22, 22] }) (base g : Nat) (v : Value) (n : Nat) (y : Nat → Nat)
    (hs : a.eval s = .slice (some ⟨g, 0, none⟩) 0 0) (hx : a.eval x = v) (hown : OwnF base w (.slice (some ⟨g, 0, none⟩) 0 0) []) (hrow : FRow w v n y) (hb : n ≤ 17592186044000) (hbase : base ≤ w.heap.size)
    (h : ∀ v' w', FRow w' v' n y → Below base w w' → wpList Try.prog ops Q rest (a.put o.dst v') w') : wpList Try.prog ops Q (o :: rest) a w := by
  rcases hrow.cases with ⟨rfl, p, c, rfl⟩ | ⟨h0, b, off, c, rfl, hc⟩
  · exact wp_appF0 hgd s x ho _ p c hs hx (h _ _ ⟨Nat.zero_le _, _, _, rfl, fun i hi => absurd hi (by omega)⟩ (Below.refl _ _))
  · refine wp_appFs hgd s x ho base _ b off n c y hs hx hown (fun i hi => (hc i hi).2) hb hbase fun v' w' ho' hb' => h v' w' ?_ hb'
    obtain ⟨p, q, e, k⟩ := ho'.fown
    have hl : ((List.range n).map y).length = n := by simp
    rw [hl] at e
    refine ⟨by omega, p, q, e, fun i hi => ?_⟩
    obtain ⟨g', e', _, k'⟩ := k (by rw [hl]; exact h0)
    refine ⟨g', 0, e', (hc i hi).1, ?_⟩
    have := (k' i (by simpa using hi)).1
    rw [Nat.zero_add]
    simpa using this
/-- A row of the call's own whose numbers are there and may be written. -/
def FX (base : Nat) (w : World) (g n : Nat) : Prop := base ≤ g ∧ ∀ i, i < n → (∃ z, w.cell? ⟨g, i, none⟩ = some z) ∧ w.frozen? ⟨g, i, none⟩ = false
theorem FX.set {base : Nat} {w : World} {g n : Nat} (h : FX base w g n) (k : Nat) (v : Value) : FX base (w.setCell ⟨g, k, none⟩ v) g n := by
  refine ⟨h.1, fun i hi => ⟨?_, by simpa using (h.2 i hi).2⟩⟩
  obtain ⟨z, hz⟩ := (h.2 i hi).1
  by_cases e : i = k
  · subst e; exact ⟨v, World.cell?_setCell_same _ _ _ hz⟩
  · exact ⟨z, by rw [World.cell?_setCell_other _ _ _ _ (fun q => e (by cases q; rfl))]; exact hz⟩
theorem FX.old {base : Nat} {w w' : World} {g n : Nat} (h : FX base w g n) (u : Old w w') : FX base w' g n := ⟨h.1, fun i hi => by
  obtain ⟨⟨z, hz⟩, hf⟩ := h.2 i hi
  exact ⟨⟨z, u.keep hz⟩, u.keepF hz hf⟩⟩
end Go.Proofs.Ytcnhcamilimnnaa
