/- Bytes as pack appends them; conditions: the row lies below the owned row's base, the lengths fit. -/
import Derived.Test.YtpofccnifecpfaaEk
import Derived.Test.YtpofccnifecpfaaGa
import Derived.Test.YtpofccnifecpfaaNu
namespace Go.Proofs.Ytpofccnifecpfaa
open Go.RowKit
set_option linter.unusedVariables false
attribute [local go_sem] run_bits run_frombits run_store_float
/-- 'append' of bytes, as one step of a region that draws. -/
theorem step_app {ops : Array Oper} {o : Oper} {a : Act} {w : World} {K : Act → World → Prop} {Q : Exit → Act → World → Prop} {E : Prop} (hgd : o.guard = none) (s x : Operand)
    (ho : o.op = .call { callee := .builtin .append, args := #[s, x], argTypes := #[22, 22] }) (base : Nat) (v u : Value) (n m : Nat) (X Y : Nat → Nat)
    (hs : a.eval s = v) (hx : a.eval x = u) (hown : OwnB base w v n X) (hrow : ByRow w u m Y) (hb : n + m ≤ 140737488355328) (hbase : base ≤ w.heap.size)
    (h : ∀ v' w', OwnB base w' v' (n + m) (cat n X Y) → Grew w v w' v' → Below base w w' → K (a.put o.dst v') w') :
    if Region.wanted o (yielded ops a.tmps) = true then Oper.wp Try.prog o a w K Q else E := by
  have hw : Region.wanted o (yielded ops a.tmps) = true := by simp [Region.wanted, hgd]
  rw [if_pos hw]
  have h2 := wp_app (ops := ops) (rest := []) (Q := fun e a' w' => e = .normal ∧ K a' w') (o := o) (a := a) (w := w) hgd s x ho base v u n m X Y hs hx hown hrow hb hbase (fun v' w' q1 q2 q3 => ⟨rfl, h v' w' q1 q2 q3⟩)
  unfold wpList at h2
  rw [if_pos hw] at h2
  rcases h2 with h2 | ⟨_, a', w', h3, _⟩
  · unfold Oper.wp at *
    generalize (execOp a.eval o).run Try.prog w = r at *
    cases r with
    | ok nx w' =>
      cases nx <;> simp only [Oper.upon] at h2 ⊢ <;>
        first
          | exact h2.2
          | exact h2
          | exact Calls.mono h2 (fun e w'' he => by
              cases e with
              | returned r => exact he.2
              | panicked c => exact absurd he.1 (by simp)
              | outgrown => obtain ⟨a', w', h3, _⟩ := he; exact absurd h3 (by simp))
          | exact Rows.mono h2 (fun _ _ he => he.2)
    | halt x w' => cases x <;> simp only [Oper.upon] at h2 ⊢ <;> first | exact h2 | exact absurd h2.1 (by simp)
  · exact absurd h3 (by simp)
def byL (n : Nat) (x : Nat → Nat) : List Nat := (List.range n).map x
theorem byL_len (n : Nat) (x : Nat → Nat) : (byL n x).length = n := by simp [byL]
theorem gd_byL (n : Nat) (x : Nat → Nat) (i : Nat) (h : i < n) : gd (byL n x) i = x i := by simp [gd, byL, h]
theorem ByRow.byL {w : World} {v : Value} {n : Nat} {x : Nat → Nat} (h : ByRow w v n x) : ByRow w v (byL n x).length (gd (byL n x)) := by
  rw [byL_len]
  rcases h with h | ⟨hn, hm, b, off, cap, hv, hc, hcp⟩
  · exact .inl h
  · exact .inr ⟨hn, hm, b, off, cap, hv, fun i hi => by rw [gd_byL n x i hi]; exact hc i hi, hcp⟩
theorem cell_blk {w : World} {b : Nat} {C : Array Value} {t : TypeId} {fr : Nat × Nat} (h : w.heap[b]? = some (.cells C t fr)) (j : Nat) (u : Value) (hj : C[j]? = some u) : w.cell? ⟨b, j, none⟩ = some u := by
  simp [World.cell?, h, hj]
theorem Grew.drew {w w1 : World} {v v1 : Value} (h : Grew w v w1 v1) : Grew w v w1.drew v1 := ⟨⟨h.by_.os, h.by_.tape, h.by_.output, h.by_.size, h.by_.block⟩, h.row⟩
theorem enter_appendNum (args : Array Value) (w : World) : (callFunc 44 args).run Try.prog w = .ok (.enter 44 args) w := by kernel_rfl
set_option maxHeartbeats 1000000 in
theorem appendVal_bytes (w0 : World) (v : Value) (L : List Nat) (p : PV) (hk : p.k = 3) (hbn : p.bn ≤ 4096) (hn : L.length ≤ 70368744177664) (w : World) (hp : PV.In w0 p) (hu : Up w0 w) (hown : OwnL w0.heap.size w v L) :
    Calls Try.prog 30 #[v, p.agg] w fun e w' => ∃ v', e = .returned v' ∧ OwnL w0.heap.size w' v' (L ++ (numL p.bn ++ byL p.bn p.bx)) ∧ Grew w v w' v' := by
  obtain ⟨a, c, hb⟩ := PV.slice hp
  have HN := hid (fun (W : World) (hW : OwnL w0.heap.size W v L) (hb : w0.heap.size ≤ W.heap.size) => appendNum_any w0.heap.size v L (p.bn : Int) (by omega) (by omega) hn W hW hb)
  have HR := hid (hp.row.byL)
  have HL := hid (num_len (p.bn : Int) (by omega) (by omega)).2
  have HY := hid (byL_len p.bn p.bx)
  have HU := hid hu
  obtain ⟨k, n, x, b, bn, bx, on⟩ := p
  simp only at hb hk HN HR HL HY hbn
  subst hb hk
  have HO := hid hown
  have hnn := hid hn
  have hbb := hid hbn
  clear hp hown hn hu hbn
  unfold PV.agg
  simp only at HN ⊢
  generalize numL (bn : Int) = N at *
  generalize byL bn bx = Y at *
  go_enter Try.func30, Try.ntmps30
  go_wp2
  go_region_law (first | (refine step_call rfl 44 (.tmp 21) (.tmp 24) _ rfl v (.int .i64 (bn : Int)) (by rfl) (by rfl) (by rfl) (enter_appendNum _ _) ?_; refine (HN.out _ (OwnB.drew (OwnB.alloc HO.out _)) (by have := HU.out.size; simp at *; omega)).mono ?_; rintro e w1 ⟨v1, rfl, o1, g1⟩; refine ⟨_, rfl, ?_⟩; have hb1 := (g1.by_.block w.heap.size (by simp) (by intro hk; have := (HO.out.own.lt _ hk.symm).2; omega)).trans (heap_alloc_new w _); have y3 := cell_blk hb1 3 _ rfl; have H1 := hid o1; have HG1 := hid g1; clear o1 g1 hb1) | (refine step_app rfl (.tmp 25) (.tmp 27) rfl w0.heap.size v1 (.slice a bn c) (L ++ N).length Y.length (gd (L ++ N)) (gd Y) (by rfl) (by rfl) H1.out (HR.out.up (Below.trans (Up.drew (Up.alloc HU.out _)) (HG1.out.below (OwnB.drew (OwnB.alloc HO.out _)) (by have := HU.out.size; simp at *; omega)))) (by have := hnn.out; have := hbb.out; have := HY.out; have := HL.out; simp; omega) (by have := HU.out.size; have := HG1.out.by_.size; simp at *; omega) ?_; intro v' w3 hown3 hgr3 hbel3))
  all_goals go_wp2
  all_goals go_ret
  all_goals exact ⟨_, rfl, by rw [← List.append_assoc]; exact OwnL.app hown3, (((Grew.refl _ _).alloc _).drew.trans HG1.out).trans hgr3⟩
end Go.Proofs.Ytpofccnifecpfaa
