/- What the laws of spans' rows want: a row appended whole, the example's spans; no condition. -/
import Derived.Test.YtcafknecomgmaaaNm
import Derived.Test.YtcafknecomgmaaaNe
namespace Go.Proofs.Ytcafknecomgmaaa
open Go.RowKit
set_option linter.unusedVariables false
attribute [local go_sem] run_bits run_frombits run_store_float eqF
theorem run_append0 {P : Program} {w : World} (t ty e : TypeId) (i : TypeInfo) (ht : P.underlying t = some (.slice e)) (hi : P.info? e = some i) (g : Addr) (q : Option Addr) (c : Nat) :
    (Builtin.append_ #[t, t] ty #[.slice (some g) 0 0, .slice q 0 c]).run P w = .ok (.slice (some g) 0 0) w := by
  cases q <;> simp [Builtin.append_, run_underlying ht, sizeOf, typeInfo, hi, Builtin.lenOf, Builtin.firstCells, storeCells, loadCells, loadCellsFrom, Result.andThen]
theorem wp_appS0 {ops : Array Oper} {rest : List Oper} {o : Oper} {a : Act} {Q : Exit → Act → World → Prop} {w : World} (hgd : o.guard = none) (s x : Operand)
    (ho : o.op = .call { callee := .builtin .append, args := #[s, x], argTypes := #[22, 22] }) (g : Addr) (q : Option Addr) (c : Nat)
    (hs : a.eval s = .slice (some g) 0 0) (hx : a.eval x = .slice q 0 c) (h : wpList Try.prog ops Q rest (a.put o.dst (.slice (some g) 0 0)) w) : wpList Try.prog ops Q (o :: rest) a w := by
  obtain ⟨i0, hi, hz0, hz1, hz2⟩ := info_parts infoSpanZ
  refine wpList_plain hgd fun K hK => ?_
  have hrun := run_append0 (P := Try.prog) (w := w) 22 o.type 26 i0 Try.underlying22 hi g q c
  unfold Oper.wp
  simp [execOp, ho, resolve, invoke, builtin, hs, hx, hrun, Result.andThen]
  exact hK _ _ h
/-- A whole row appended to none. -/
theorem wp_appW {ops : Array Oper} {rest : List Oper} {o : Oper} {a : Act} {Q : Exit → Act → World → Prop} {w : World} (hgd : o.guard = none) (s x : Operand)
    (ho : o.op = .call { callee := .builtin .append, args := #[s, x], argTypes := #[22, 22] }) (base g : Nat) (v : Value) (M : List Sp)
    (hs : a.eval s = .slice (some ⟨g, 0, none⟩) 0 0) (hx : a.eval x = v) (hown : OwnS base w (.slice (some ⟨g, 0, none⟩) 0 0) []) (hrow : SRow w v M.length (atS M)) (hb : M.length ≤ 5864062014805) (hbase : base ≤ w.heap.size)
    (h : ∀ v' w', OwnS base w' v' M → Below base w w' → wpList Try.prog ops Q rest (a.put o.dst v') w') : wpList Try.prog ops Q (o :: rest) a w := by
  obtain ⟨_, p, c, rfl, hc⟩ := hrow
  by_cases h0 : M.length = 0
  · obtain rfl : M = [] := List.eq_nil_of_length_eq_zero h0
    exact wp_appS0 hgd s x ho _ p c hs hx (h _ _ hown (Below.refl _ _))
  · obtain ⟨b, off, rfl, _⟩ := hc 0 (by omega)
    refine wp_appS hgd s x ho base _ [] M b off c hs hx hown (fun i hi => ?_) (by simpa using hb) hbase h
    obtain ⟨b', off', e, _, _, q⟩ := hc i hi
    cases e
    rw [atS_get M i hi] at q; exact q
theorem atS_ext (M : List Sp) (n : Nat) (f : Nat → Sp) (hM : M = (List.range n).map f) : M.length = n ∧ ∀ i, i < n → atS M i = f i := by
  subst hM
  refine ⟨by simp, fun i hi => ?_⟩
  rw [atS_get _ i (by simpa using hi)]; simp
theorem SRow.list {w : World} {v : Value} {n : Nat} {f : Nat → Sp} (h : SRow w v n f) : ∃ M : List Sp, M.length = n ∧ SRow w v M.length (atS M) := by
  obtain ⟨e1, e2⟩ := atS_ext _ n f rfl
  refine ⟨_, e1, ?_⟩
  rw [e1]
  obtain ⟨hm, a, c, hv, hc⟩ := h
  exact ⟨hm, a, c, hv, fun i hi => by rw [e2 i hi]; exact hc i hi⟩
/-- The example's spans. -/
def ex3 : List Sp := [⟨4611686018427387904, 4613937818241073152, false, false⟩, ⟨0, 4607182418800017408, false, false⟩, ⟨4607182418800017408, 4611686018427387904, false, false⟩]
theorem ex3_norm : Fl.dfold (Fl.cdl (atS ex3) 3) = [(9223372036854775808, 13837309855095848960)] := by decide +kernel
theorem ex3_spo : [(9223372036854775808, 13837309855095848960)].map Fl.spo = [⟨0, 4613937818241073152, false, false⟩] := by
  show [(⟨Fl.of 9223372036854775808, Fl.of 13837309855095848960, false, false⟩ : Sp)] = _
  rw [show Fl.of 9223372036854775808 = 0 by decide +kernel, show Fl.of 13837309855095848960 = 4613937818241073152 by decide +kernel]
theorem ex3_row (w : World) (g : Nat) (hg : w.heap.size = g) : SRow (w.alloc (.cells #[.float .f64 4611686018427387904, .float .f64 4613937818241073152, .bool false, .bool false, .float .f64 0, .float .f64 4607182418800017408, .bool false, .bool false, .float .f64 4607182418800017408, .float .f64 4611686018427387904, .bool false, .bool false] 26)) (.slice (some ⟨g, 0, none⟩) 3 3) 3 (atS ex3) := by
  subst hg
  refine ⟨by omega, _, _, rfl, fun i hi => ⟨w.heap.size, 0, rfl, ?_⟩⟩
  match i, hi with
  | 0, _ => exact ⟨by show (_ : Nat) < _; decide, by show (_ : Nat) < _; decide, by simp [SpIn, atS, ex3]⟩
  | 1, _ => exact ⟨by show (_ : Nat) < _; decide, by show (_ : Nat) < _; decide, by simp [SpIn, atS, ex3]⟩
  | 2, _ => exact ⟨by show (_ : Nat) < _; decide, by show (_ : Nat) < _; decide, by simp [SpIn, atS, ex3]⟩
theorem norm_ex (w : World) (g : Nat) (hg : w.heap.size = g) :
    Calls Try.prog 5 #[.slice (some ⟨g, 0, none⟩) 3 3] (w.alloc (.cells #[.float .f64 4611686018427387904, .float .f64 4613937818241073152, .bool false, .bool false, .float .f64 0, .float .f64 4607182418800017408, .bool false, .bool false, .float .f64 4607182418800017408, .float .f64 4611686018427387904, .bool false, .bool false] 26)) fun e w' => ∃ g1 c1 : Nat, e = .returned (.slice (some ⟨g1, 0, none⟩) 1 c1) ∧ SpAt g1 0 4613937818241073152 false false w' ∧ Old w w' := by
  refine (norm_any _ 3 (atS ex3) (by omega) _ (ex3_row w g hg)).mono ?_
  rintro e w' ⟨v', rfl, ho, hu⟩
  rw [ex3_norm, ex3_spo] at ho
  obtain ⟨g1, c1, rfl, _, _, _, _, hc, _⟩ := ho.shape (by simp)
  exact ⟨g1, c1, rfl, by have := hc 0 (by simp); simpa [SpIn] using this, ((Old.refl w).alloc _).trans hu⟩
theorem spo_rows {L : List (Nat × Nat)} (h : ∀ r ∈ L, Fl.RV r) : ∀ s ∈ L.map Fl.spo, Fl.W s.a ∧ Fl.W s.b := by
  intro s hs
  obtain ⟨r, hr, rfl⟩ := List.mem_map.1 hs
  exact Fl.spo_W (h r hr)
/-- A row of the call's own, whatever it holds. -/
def OwnX (base : Nat) (w : World) (v : Value) (n : Nat) : Prop := ∃ xs, w.ownsRow base 26 4 v n xs
theorem OwnX.four {base : Nat} {w : World} {g cap n : Nat} (h : OwnX base w (.slice (some ⟨g, 0, none⟩) n cap) n) (k : Nat) (hk : k < n) : base ≤ g ∧ (∀ o, w.frozen? ⟨g, o, none⟩ = false) ∧ ∃ a b c d : Value, w.cell? ⟨g, k * 4, none⟩ = some a ∧ w.cell? ⟨g, k * 4 + 1, none⟩ = some b ∧ w.cell? ⟨g, k * 4 + 2, none⟩ = some c ∧ w.cell? ⟨g, k * 4 + 3, none⟩ = some d := by
  obtain ⟨xs, h⟩ := h
  have hl := h.1
  have H : ∀ j, j < 4 → ∃ a, w.cell? ⟨g, k * 4 + j, none⟩ = some a := fun j hj => by
    rw [h.cellAt (k * 4 + j) (by omega)]
    exact ⟨_, List.getElem?_eq_getElem (by omega)⟩
  obtain ⟨a, ha⟩ := H 0 (by omega)
  obtain ⟨b, hb⟩ := H 1 (by omega)
  obtain ⟨c, hc⟩ := H 2 (by omega)
  obtain ⟨d, hd⟩ := H 3 (by omega)
  exact ⟨(World.ownsRow.lt h g rfl).1, h.frozenAt, a, b, c, d, ha, hb, hc, hd⟩
theorem OwnX.set {base : Nat} {w : World} {g cap n : Nat} (h : OwnX base w (.slice (some ⟨g, 0, none⟩) n cap) n) (j : Nat) (u : Value) : OwnX base (w.setCell ⟨g, j, none⟩ u) (.slice (some ⟨g, 0, none⟩) n cap) n := by
  obtain ⟨xs, h⟩ := h
  exact ⟨_, (World.ownsRow.stored h j u).1⟩
theorem OwnX.old {base : Nat} {w w' : World} {v : Value} {n : Nat} (h : OwnX base w v n) (u : Old w w') : OwnX base w' v n := by
  obtain ⟨xs, h⟩ := h
  exact ⟨xs, own_old h u⟩
end Go.Proofs.Ytcafknecomgmaaa
