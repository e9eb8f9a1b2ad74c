/- The document's Save of layer 7; conditions: the rows lie in memory. -/
import Derived.Test.YtfphopleniidfaaGreatDoorH7c
namespace Go.Proofs.YtfphopleniidfaaGreatDoor
open Go.RowKit Go.Lib
set_option linter.unusedVariables false
set_option linter.unusedSimpArgs false
set_option maxRecDepth 20000
theorem infoK : (Tryz.prog.info? 32).map (·.size) = some 3 := by kernel_rfl
theorem there3 {w : World} {b : Nat} {x y z : Value} {T : TypeId} (h : w.heap[b]? = some (.cells #[x, y, z] T (0, 0))) : w.there b 0 3 := fun j hj => by
  refine ⟨?_, Go.Joins.unfrozen_of_block h _⟩
  rw [Nat.zero_add, Go.Joins.cell_of_block h]
  match j, hj with
  | 0, _ => rfl
  | 1, _ => rfl
  | 2, _ => rfl
theorem stepAllocK {ops : Array Oper} {o : Oper} {a : Act} {w : World} {K : Act → World → Prop} {Q : Exit → Act → World → Prop} {E : Prop} (hg : o.guard = none) (hop : o.op = Op.alloc 32)
    (hK : ∀ m w', m = w.heap.size → w' = w.alloc (.cells #[.slice none 0 0, .bool false, .int .i64 0] 32) → K (a.put o.dst (.pointer (some ⟨m, 0, none⟩))) w') :
    if Region.wanted o (yielded ops a.tmps) = true then Oper.wp Tryz.prog o a w K Q else E := by
  have hw : Region.wanted o (yielded ops a.tmps) = true := by simp [Region.wanted, hg]
  rw [if_pos hw]
  obtain ⟨d, p, t, ps, af, gd⟩ := o
  subst hop
  unfold Oper.wp execOp
  go_simp
  exact hK _ _ rfl rfl
theorem stepStoreK {ops : Array Oper} {o : Oper} {a : Act} {w : World} {K : Act → World → Prop} {Q : Exit → Act → World → Prop} {E : Prop} (hg : o.guard = none) (x y : Operand) (hop : o.op = Op.store 32 x y) (m : Nat) (p q r : Value)
    (hx : a.eval x = .pointer (some ⟨m, 0, none⟩)) (hy : a.eval y = .agg #[p, q, r]) (ht : w.there m 0 3) (h1 : p.oneCell' = true ∧ q.oneCell' = true ∧ r.oneCell' = true)
    (hK : K (a.put o.dst undef) (((w.setCell ⟨m, 0, none⟩ p).setCell ⟨m, 1, none⟩ q).setCell ⟨m, 2, none⟩ r)) :
    if Region.wanted o (yielded ops a.tmps) = true then Oper.wp Tryz.prog o a w K Q else E := by
  have hw : Region.wanted o (yielded ops a.tmps) = true := by simp [Region.wanted, hg]
  rw [if_pos hw]
  exact wp_store_mid _ x y hop m 0 #[p, q, r] hx hy ht infoK (by simp [h1]) hK
/-- Save's steps, on the document's disk. -/
def sop (vb : Value) (B : List Nat) (k : Nat) : Opd := if k = 0 then ⟨1, sT, ByteArray.empty, 0, .slice none 0 0, [], .slice none 0 0, []⟩ else if k = 1 then ⟨4, sT, ByteArray.empty, 0, vb, B, .slice none 0 0, []⟩ else if k = 2 then ⟨6, sT, ByteArray.empty, 0, .slice none 0 0, [], .slice none 0 0, []⟩ else ⟨3, sT, sH, 0, .slice none 0 0, [], .slice none 0 0, []⟩
structure DS where
  F : PFs
  d : Bool
  f : Int
def dS (vb : Value) (B : List Nat) (s : DS) : Nat → DS
  | 0 => s
  | k + 1 => ⟨doF (dS vb B s k).F (stD (dS vb B s k).d (dS vb B s k).f) (sop vb B k), stD (dS vb B s k).d (dS vb B s k).f, stF (dS vb B s k).d (dS vb B s k).f⟩
def dC (vb : Value) (B : List Nat) (s : DS) (k : Nat) : Int := doC (dS vb B s k).F (stD (dS vb B s k).d (dS vb B s k).f) (sop vb B k)
def Good (vb : Value) (B : List Nat) (s : DS) : Prop := ∀ k, k ≤ 3 → (∀ j, j < k → dC vb B s j = 0) → (dS vb B s k).F.length ≤ 256 ∧ ((dS vb B s k).F.map (·.1)).Nodup ∧ 0 ≤ (dS vb B s k).f ∧ (dS vb B s k).f ≤ 9223372036854775807
theorem sop_at {w : World} {g : Nat} {vb : Value} (B : List Nat) (h : w.heap[g]? = some (.cells #[.int .i64 1, .string sT, .string ByteArray.empty, .int .i64 0, .slice none 0 0, .int .i64 4, .string sT, .string ByteArray.empty, .int .i64 0, vb, .int .i64 6, .string sT, .string ByteArray.empty, .int .i64 0, .slice none 0 0, .int .i64 3, .string sT, .string sH, .int .i64 0, .slice none 0 0] 70 (0, 0))) (k : Nat) (hk : k < 4) : w.cell? ⟨g, k * 5, none⟩ = some (.int .i64 (sop vb B k).k) ∧ w.cell? ⟨g, k * 5 + 1, none⟩ = some (.string (sop vb B k).a) ∧ w.cell? ⟨g, k * 5 + 2, none⟩ = some (.string (sop vb B k).z) ∧ w.cell? ⟨g, k * 5 + 3, none⟩ = some (.int .i64 (sop vb B k).n) ∧ w.cell? ⟨g, k * 5 + 4, none⟩ = some (sop vb B k).vb := by
  match k, hk with
  | 0, _ => exact ⟨by rw [Go.Joins.cell_of_block h]; rfl, by rw [Go.Joins.cell_of_block h]; rfl, by rw [Go.Joins.cell_of_block h]; rfl, by rw [Go.Joins.cell_of_block h]; rfl, by rw [Go.Joins.cell_of_block h]; rfl⟩
  | 1, _ => exact ⟨by rw [Go.Joins.cell_of_block h]; rfl, by rw [Go.Joins.cell_of_block h]; rfl, by rw [Go.Joins.cell_of_block h]; rfl, by rw [Go.Joins.cell_of_block h]; rfl, by rw [Go.Joins.cell_of_block h]; rfl⟩
  | 2, _ => exact ⟨by rw [Go.Joins.cell_of_block h]; rfl, by rw [Go.Joins.cell_of_block h]; rfl, by rw [Go.Joins.cell_of_block h]; rfl, by rw [Go.Joins.cell_of_block h]; rfl, by rw [Go.Joins.cell_of_block h]; rfl⟩
  | 3, _ => exact ⟨by rw [Go.Joins.cell_of_block h]; rfl, by rw [Go.Joins.cell_of_block h]; rfl, by rw [Go.Joins.cell_of_block h]; rfl, by rw [Go.Joins.cell_of_block h]; rfl, by rw [Go.Joins.cell_of_block h]; rfl⟩
theorem sop_k (vb : Value) (B : List Nat) (k : Nat) : 1 ≤ (sop vb B k).k ∧ (sop vb B k).k ≤ 6 := by
  unfold sop
  split
  · exact ⟨by decide, by decide⟩
  · split
    · exact ⟨show (1 : Int) ≤ 4 by decide, show (4 : Int) ≤ 6 by decide⟩
    · split
      · exact ⟨by decide, by decide⟩
      · exact ⟨by decide, by decide⟩
theorem sop_row {w : World} {vb : Value} {B : List Nat} (h : Rw w vb B) (k : Nat) : Rw w (sop vb B k).vb (sop vb B k).B := by
  have nil : Rw w (.slice none 0 0) [] := .inl ⟨rfl, none, 0, rfl, fun _ => rfl⟩
  unfold sop
  split
  · exact nil
  · split
    · exact h
    · split
      · exact nil
      · exact nil
theorem al2 (w : World) (o1 o2 : Obj) : ((w.alloc o1).alloc o2).heap[w.heap.size]? = some o1 ∧ ((w.alloc o1).alloc o2).heap[w.heap.size + 1]? = some o2 := by
  refine ⟨?_, ?_⟩
  · show ((w.heap.push o1).push o2)[w.heap.size]? = _
    rw [Array.getElem?_push, if_neg (by simp), Array.getElem?_push, if_pos rfl]
  · show ((w.heap.push o1).push o2)[w.heap.size + 1]? = _
    rw [Array.getElem?_push, if_pos (by simp)]
/-- What the document's Save answers. -/
def RvPost (W : World) (BB : List Nat) (F : PFs) (dn : Bool) (fu t0 v0 t v : Int) (e : Ending) (w' : World) : Prop :=
  (rgt t v = false ∧ OP W BB F dn fu t0 v0 1 e w') ∨ (rgt t v = true ∧ t = t0 ∧ v = v0 ∧ OP W BB F dn fu t0 v0 0 e w') ∨
  (rgt t v = true ∧ ¬ (t = t0 ∧ v = v0) ∧ ∃ vb, ((∃ k, k ≤ 3 ∧ (∀ j, j < k → dC vb (frB (payL t v)) ⟨F, dn, fu⟩ j = 0) ∧ dC vb (frB (payL t v)) ⟨F, dn, fu⟩ k ≠ 0 ∧ OP W BB (dS vb (frB (payL t v)) ⟨F, dn, fu⟩ (k + 1)).F (dS vb (frB (payL t v)) ⟨F, dn, fu⟩ (k + 1)).d (dS vb (frB (payL t v)) ⟨F, dn, fu⟩ (k + 1)).f t0 v0 (dC vb (frB (payL t v)) ⟨F, dn, fu⟩ k) e w') ∨
    ((∀ j, j < 4 → dC vb (frB (payL t v)) ⟨F, dn, fu⟩ j = 0) ∧ OP W BB (dS vb (frB (payL t v)) ⟨F, dn, fu⟩ 4).F (dS vb (frB (payL t v)) ⟨F, dn, fu⟩ 4).d (dS vb (frB (payL t v)) ⟨F, dn, fu⟩ 4).f t v 0 e w')))
end Go.Proofs.YtfphopleniidfaaGreatDoor
