/- Rows of int: the call's own, and as arguments; steps of a region that draws; no condition. -/
import Derived.Test.YtejeihbcakojeaaZa
import Derived.Maps.AppendAt
import Derived.Deep.MidRow
import Derived.Deep.DeepCutAuto
import Derived.SizedLaws
import Derived.Lib.SmallJoins
import Derived.Defers
import Derived.Recover
import Derived.Lib.Builder
namespace Go.Proofs.Ytejeihbcakojeaa
open Go.ChangeShapes Go.WideShapes Go.ChangeAt Go.RowKit Go.Joins Go.Lib
set_option linter.unusedVariables false
set_option linter.unusedSimpArgs false
set_option maxRecDepth 20000
def ils (L : List Int) : List Value := L.map fun b => .int .i64 b
theorem ils_app (L M : List Int) : ils L ++ ils M = ils (L ++ M) := by simp [ils]
theorem info_parts {e : TypeId} {z : Value} {size bytes : Nat} (h : (Try.prog.info? e).map (fun i => (i.zero, i.size, i.bytes)) = some (some z, size, bytes)) : ∃ i, Try.prog.info? e = some i ∧ i.zero = some z ∧ i.size = size ∧ i.bytes = bytes := by
  cases hi : Try.prog.info? e with
  | none => rw [hi] at h; cases h
  | some i => rw [hi] at h; simp at h; exact ⟨i, rfl, h.1, h.2.1, h.2.2⟩
def NRowL (w : World) (v : Value) (n : Nat) (f : Nat → Int) : Prop := n ≤ 17592186044000 ∧ ∃ (p : Option Addr) (c : Nat), v = .slice p n c ∧ n ≤ c ∧ c ≤ 9223372036854775807 ∧ ∀ i, i < n → ∃ g off, p = some ⟨g, off, none⟩ ∧ w.cell? ⟨g, off + i, none⟩ = some (.int .i64 (f i))
theorem NRowL.old {w w' : World} {v : Value} {n : Nat} {f : Nat → Int} (h : NRowL w v n f) (u : Old w w') : NRowL w' v n f := by
  obtain ⟨hm, p, c, e, h1, h2, hc⟩ := h
  exact ⟨hm, p, c, e, h1, h2, fun i hi => by obtain ⟨g, off, e2, h3⟩ := hc i hi; exact ⟨g, off, e2, u.keep h3⟩⟩
def lsI (f : Nat → Int) : Nat → List Int | 0 => [] | k + 1 => lsI f k ++ [f k]
theorem lsI_len (f : Nat → Int) : ∀ k, (lsI f k).length = k
  | 0 => rfl
  | k + 1 => by show (lsI f k ++ [f k]).length = k + 1; rw [List.length_append, lsI_len f k]; rfl
theorem lsI_get (f : Nat → Int) : ∀ k i, i < k → (lsI f k).getD i 0 = f i
  | 0, i, h => by omega
  | k + 1, i, h => by
    show (lsI f k ++ [f k]).getD i 0 = f i
    by_cases e : i = k
    · subst e
      rw [List.getD_eq_getElem?_getD, List.getElem?_append_right (by rw [lsI_len]; exact Nat.le_refl _), lsI_len, Nat.sub_self]
      rfl
    · rw [List.getD_eq_getElem?_getD, List.getElem?_append_left (by rw [lsI_len]; omega), ← List.getD_eq_getElem?_getD]
      exact lsI_get f k i (by omega)
theorem cellsEach {w : World} {base : Nat} {a : Addr} {n : Nat} {cs : List Value} (h : w.cells? base a n = some cs) (i : Nat) (hi : i < n) : w.cell? (a.add i) = cs[i]? := by
  unfold World.cells? at h
  split at h
  · exact mapM_some_get h i i (by simp [hi])
  · cases h
theorem len_row {H : Type} {enc : TypeId × Value → H} {P : Program} {w : World} {base : Nat} {spare : Nat → Bool} {held : Bool} {fuel : Nat} {t e : TypeId} {a : Option Addr} {n c : Nat} {y : DataW H × List MemPlace} (ht : P.underlying t = some (.slice e)) (h : DataW.trod enc P w base spare held fuel t [.slice a n c] = some y) : n = 0 ∨ ∃ els sp, y.1 = .slice els sp ∧ els.length = n := by
  rcases DataW.trod_slice ht h with ⟨hcs, _⟩ | ⟨a', len, cap, elems, rest, m, _, hcs, hx, hb, hl, hm, hlen, hel, _, _⟩
  · simp at hcs; exact .inl hcs.2.1
  · simp at hcs
    obtain ⟨_, hln, _⟩ := hcs
    subst hx
    exact .inr ⟨_, _, rfl, by simp [hlen, hln]⟩
theorem row_fits {H : Type} {P : Program} {t e : TypeId} {d : DataW H} {n k : Nat} (ht : P.underlying t = some (.slice e)) (hk : P.bytesOf e = k) (h : n = 0 ∨ ∃ els sp, d = .slice els sp ∧ els.length = n) (hz : ∀ x ∈ d.weights P t, x ≤ reachBytes) : n * k ≤ reachBytes := by
  rcases h with rfl | ⟨els, sp, rfl, rfl⟩
  · simp
  · have := hz ((els.length + sp.length) * P.bytesOf e) (by simp [DataW.weights, ht])
    rw [hk, Nat.add_mul] at this
    omega
theorem cellsInt : Try.prog.cellsOf 3 = 1 := by kernel_rfl
theorem bytesInt : Try.prog.bytesOf 3 = 8 := by kernel_rfl
theorem step_lift1 {ops : Array Oper} {o : Oper} {a : Act} {w : World} {K : Act → World → Prop} {Q : Exit → Act → World → Prop} {E : Prop} (hgd : o.guard = none)
    (h2 : wpList Try.prog ops (fun e a' w' => e = .normal ∧ K a' w') [o] a w) : if Region.wanted o (yielded ops a.tmps) = true then Oper.wp Try.prog o a w K Q else E := by
  have hw : Region.wanted o (yielded ops a.tmps) = true := by simp [Region.wanted, hgd]
  rw [if_pos hw]
  unfold wpList at h2
  rw [if_pos hw] at h2
  rcases h2 with h2 | ⟨_, a', w', h3, _⟩
  · unfold Oper.wp at *
    generalize (execOp a.eval o).run Try.prog w = r at *
    cases r with
    | ok nx w' =>
      cases nx <;> simp only [Oper.upon] at h2 ⊢ <;>
        first
          | exact h2.2
          | exact h2
          | exact Calls.mono h2 (fun e w'' he => by
              cases e with
              | returned r => exact he.2
              | panicked c => exact absurd he.1 (by simp)
              | outgrown => obtain ⟨a', w', h3, _⟩ := he; exact absurd h3 (by simp))
          | exact Rows.mono h2 (fun _ _ he => he.2)
    | halt x w' => cases x <;> simp only [Oper.upon] at h2 ⊢ <;> first | exact h2 | exact absurd h2.1 (by simp)
  · exact absurd h3 (by simp)
/-- A function that was handed in is called with one argument. -/
theorem stepCallV {P : Program} {ops : Array Oper} {o : Oper} {a : Act} {w : World} {K : Act → World → Prop} {Q : Exit → Act → World → Prop} {E : Prop} (hg : o.guard = none) (f x : Operand) (ts : Array TypeId)
    (hop : o.op = Op.call { callee := Callee.value f, args := #[x], argTypes := ts }) (F : FuncId) (caps : Array Value) (v : Value) (hf : a.eval f = .func (.func F) #[] caps) (hx : a.eval x = v)
    (henter : ∀ args w, (callFunc F args).run P w = .ok (.enter F args) w)
    (hc : Calls P F (#[v] ++ caps) w fun e w' => ∃ r, e = .returned r ∧ K (a.put o.dst r) w') :
    if Region.wanted o (yielded ops a.tmps) = true then Oper.wp P o a w K Q else E := by
  have hw : Region.wanted o (yielded ops a.tmps) = true := by simp [Region.wanted, hg]
  rw [if_pos hw]
  unfold Oper.wp
  simp [execOp, hop, resolve, invoke, hx, hf, Deferred.ofValue]
  rw [henter]
  refine hc.mono ?_
  rintro e w' ⟨r, rfl, hk⟩
  exact hk
theorem one_cell {w : World} {b : Nat} {u : Value} {t : TypeId} (h : w.heap[b]? = some (.cells #[u] t (0, 0))) : w.cell? ⟨b, 0, none⟩ = some u := by simp [World.cell?, h]
theorem one_free {w : World} {b : Nat} {u : Value} {t : TypeId} (h : w.heap[b]? = some (.cells #[u] t (0, 0))) : w.frozen? ⟨b, 0, none⟩ = false := by simp [World.frozen?, h]
theorem one_new (w : World) (u : Value) (t : TypeId) : (w.alloc (.cells #[u] t)).heap[w.heap.size]? = some (.cells #[u] t (0, 0)) := heap_alloc_new w _
def OwnI (base : Nat) (w : World) (v : Value) (L : List Int) : Prop := w.ownsRow base 3 1 v L.length (ils L)
theorem OwnI.up {base : Nat} {w w' : World} {v : Value} {L : List Int} (h : OwnI base w v L) (u : Old w w') : OwnI base w' v L := by
  refine ⟨h.1, ?_⟩
  rcases h.2 with e | ⟨g, cap, cur, e, hb', hg, r⟩
  · exact .inl e
  · exact .inr ⟨g, cap, cur, e, hb', u.block hg, r⟩
theorem OwnI.len {base : Nat} {w : World} {v : Value} {L : List Int} (h : OwnI base w v L) : ∃ a c, v = .slice a L.length c := by
  rcases h.2 with ⟨rfl, e⟩ | ⟨g, cap, cur, rfl, _⟩
  · exact ⟨none, 0, by rw [e]⟩
  · exact ⟨_, _, rfl⟩
theorem OwnI.mono {base b' : Nat} {w : World} {v : Value} {L : List Int} (h : OwnI base w v L) (hb : b' ≤ base) : OwnI b' w v L := by
  refine ⟨h.1, ?_⟩
  rcases h.2 with e | ⟨g, cap, cur, e, hb', r⟩
  · exact .inl e
  · exact .inr ⟨g, cap, cur, e, by omega, r⟩
theorem infoI : (Try.prog.info? 3).map (fun i => (i.zero, i.size, i.bytes)) = some (some (.int .i64 0), 1, 8) := by kernel_rfl
theorem cell_oneI (w : World) (y : Int) (g : Nat) (hg : w.heap.size = g) : (w.alloc (.cells #[.int .i64 y] 3)).cell? ⟨g, 0, none⟩ = some (.int .i64 y) := by subst hg; simp
theorem OwnI.chg {base : Nat} {S : List Nat} {w w' : World} {v : Value} {L : List Int} (h : OwnI base w v L) (u : Chg S w w') (hn : ∀ g, v.ownBlock = some g → g ∉ S) : OwnI base w' v L := by
  refine ⟨h.1, ?_⟩
  rcases h.2 with e | ⟨g, cap, cur, rfl, hb', hg, r⟩
  · exact .inl e
  · exact .inr ⟨g, cap, cur, rfl, hb', u.heapAt hg (hn g rfl), r⟩
theorem OwnI.rowL {base : Nat} {w : World} {v : Value} {L : List Int} {n : Nat} {f : Nat → Int} (h : OwnI base w v L) (hl : L.length ≤ 17592186044000) (hn : L.length = n) (hf : ∀ i, i < n → L.getD i 0 = f i) : NRowL w v n f := by
  subst hn
  have h2 := h
  unfold OwnI at h2
  rcases h2.2 with ⟨e1, e⟩ | ⟨g, cap, cur, rfl, hb, hg, hnc, hcm, hcs, htk⟩
  · exact ⟨hl, none, 0, by rw [e1, e], by omega, by omega, fun i hi => by omega⟩
  · refine ⟨hl, _, cap, rfl, hnc, by unfold maxLen at hcm; omega, fun i hi => ⟨g, 0, rfl, ?_⟩⟩
    rw [Nat.zero_add, h2.cellAt i (by omega), ← hf i hi]
    simp [ils, List.getD_eq_getElem?_getD, hi]
end Go.Proofs.Ytejeihbcakojeaa
