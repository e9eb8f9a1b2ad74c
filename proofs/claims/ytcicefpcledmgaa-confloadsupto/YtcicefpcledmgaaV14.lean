/- slices.Grow of none, slices.Concat of two rows of int; conditions: the rows lie in memory, and are not long. -/
import Derived.Test.YtcicefpcledmgaaV3
import Derived.Shelf.Spec.SlicesGrow
import Derived.Ground.Names8Prog
import Derived.Laws.AppendOwnNone
namespace Go.Proofs
open Go.RowKit Go.Maps Go.Sort Go.Shelf
shelf_lay_g Lays8.n4 Nm8 4 at Try 72 as Ytcicefpcledmgaa.growI
end Go.Proofs
namespace Go.Proofs.Ytcicefpcledmgaa
open Go.RowKit Go.Lib Go.Sort Go.Shelf
set_option linter.unusedVariables false
set_option linter.unusedSimpArgs false
set_option maxRecDepth 20000
theorem newsI {w : World} {ad : Addr} {n : Nat} {f : Nat → Int} (hc : ∀ i, i < n → ∃ g' off', some ad = some ⟨g', off', none⟩ ∧ w.cell? ⟨g', off' + i, none⟩ = some (.int .i64 (f i))) : ∀ j u, (ils (lsI f n))[j]? = some u → w.cell? (ad.add j) = some u := fun j u hj => by
  have hlt : j < n := by
    obtain ⟨q, _⟩ := List.getElem?_eq_some_iff.1 hj
    simp [ils, lsI_len] at q; exact q
  obtain ⟨g', off', e, q⟩ := hc j hlt
  cases e
  rw [Go.WideShapes.add_plain, q, ← hj]
  have q2 := lsI_get f n j hlt
  simp [ils]
  rw [List.getElem?_eq_getElem (by rw [lsI_len]; exact hlt)]
  rw [List.getD_eq_getElem?_getD, List.getElem?_eq_getElem (by rw [lsI_len]; exact hlt)] at q2
  simp at q2 ⊢; exact q2.symm
/-- append of a whole row. -/
theorem wp_appIs {ops : Array Oper} {rest : List Oper} {o : Oper} {a : Act} {Q : Exit → Act → World → Prop} {w : World} (hgd : o.guard = none) (s x : Operand)
    (ho : o.op = .call { callee := .builtin .append, args := #[s, x], argTypes := #[22, 22] }) (base : Nat) (v u : Value) (L : List Int) (n : Nat) (f : Nat → Int)
    (hs : a.eval s = v) (hx : a.eval x = u) (hown : OwnI base w v L) (hrow : NRowL w u n f) (hsh : Sh u) (hb : L.length + n ≤ 17592186044416) (hbase : base ≤ w.heap.size)
    (h : ∀ v' w', OwnI base w' v' (L ++ lsI f n) → Below base w w' → wpList Try.prog ops Q rest (a.put o.dst v') w') : wpList Try.prog ops Q (o :: rest) a w := by
  obtain ⟨i0, hi, hz0, hz1, hz2⟩ := info_parts infoI
  obtain ⟨_, p, c, rfl, _, _, hc⟩ := hrow
  rcases hsh with e | ⟨ad, n', c', e⟩
  · cases e
    refine wpList_append_own_none hgd s x 22 ho base 3 i0 1 Try.underlying22 hi v L.length (ils L) hs hown hx (h v w ?_ (Below.refl _ _))
    show OwnI base w v (L ++ [])
    rw [List.append_nil]
    exact hown
  · cases e
    refine wpList_append_own w hgd s x 22 ho base 3 i0 _ 1 8 Try.underlying22 hi hz0 hz1 hz2 rfl (by decide) v L.length (ils L) hs hown ad n c (ils (lsI f n)) hx (by simp [ils, lsI_len]) (fun j u hj => newsI hc j u hj) (fun u hu => by simp [ils] at hu; obtain ⟨i, _, rfl⟩ := hu; rfl) (by unfold maxLen; omega) (by omega) hbase ?_
    intro v' w' h1 h2 h3
    refine h v' w' ?_ (Below.grown (Below.refl _ _) h2 hbase (fun k hk => (World.ownsRow.lt hown k hk).1))
    unfold OwnI
    rw [ils_app] at h1
    rw [List.length_append, lsI_len]
    exact h1
theorem grow_any (n : Nat) (hn : n ≤ 1000000) (w : World) : Calls Try.prog 72 #[.slice none 0 0, .int .i64 (n : Nat)] w fun e w' => ∃ v, e = .returned v ∧ OwnI w.heap.size w' v [] ∧ Old w w' := by
  by_cases hz : n = 0
  · subst hz
    refine (Any8.slices_Grow_room growI none 0 0 0 w (by omega) (by omega) (by omega) (by omega)).mono ?_
    rintro e w' ⟨rfl, rfl⟩
    exact ⟨_, rfl, ⟨rfl, .inl ⟨rfl, rfl⟩⟩, Old.refl _⟩
  · obtain ⟨i0, hi, hz0, hz1, hz2⟩ := info_parts infoI
    refine (Any8.slices_Grow_grow growI i0 (.int .i64 0) hi hz0 (by omega) none 0 0 n [] w (by omega) (by omega) (by rw [hz2]; omega) (by omega) (by simp) (fun _ => rfl) (fun a e => by cases e)).mono ?_
    rintro e w' ⟨rfl, rfl⟩
    have hge := grownCap_ge w (0 + n) 0 3
    have hle := grownCap_le_maxLen w (0 + n) 0 3 (by unfold maxLen; omega)
    refine ⟨_, rfl, ⟨rfl, .inr ⟨w.heap.size, _, _, rfl, Nat.le_refl _, heap_alloc_new w.drew _, Nat.zero_le _, hle, ?_, by simp [ils]⟩⟩, (Old.refl w).drew.alloc _⟩
    simp only [Array.size_append, List.size_toArray, List.length_nil]
    rw [show (Builtin.zeroCells (Value.int .i64 0).cells (0 + n - 0)).size = n from ?_, show (Builtin.zeroCells (Value.int .i64 0).cells (grownCap w (0 + n) 0 (Ytcicefpcledmgaa.growI_ren.t 25) - (0 + n))).size = grownCap w (0 + n) 0 (Ytcicefpcledmgaa.growI_ren.t 25) - (0 + n) from ?_]
    · have : grownCap w (0 + n) 0 (Ytcicefpcledmgaa.growI_ren.t 25) = grownCap w (0 + n) 0 3 := rfl
      omega
    · simp [Builtin.zeroCells, Value.cells]
    · simp [Builtin.zeroCells, Value.cells]
end Go.Proofs.Ytcicefpcledmgaa
