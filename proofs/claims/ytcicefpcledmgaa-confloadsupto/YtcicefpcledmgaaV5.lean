/- conf.with at a row that rises; conditions: the row is the call's own. -/
import Derived.Test.YtcicefpcledmgaaV4
import Derived.Shelf.Slices.SearchI
import Derived.Shelf.Slices.Empties
namespace Go.Proofs
open Go.RowKit Go.Maps Go.Sort Go.Shelf Go.Lib
shelf_lay Lays2.n25 Nm2 25 at Try as Ytcicefpcledmgaa.bsLay
end Go.Proofs
namespace Go.Proofs.Ytcicefpcledmgaa
open Go.RowKit Go.Lib Go.Sort Go.Shelf
set_option linter.unusedVariables false
set_option linter.unusedSimpArgs false
set_option maxRecDepth 20000
theorem search_any (base : Nat) (v : Value) (L : List Int) (x : Int) (w : World) (hl : L.length ≤ 17592186044416) (h : OwnI base w v L) (hs : L.Pairwise (· ≤ ·)) :
    Calls Try.prog 38 #[v, .int .i64 x] w fun e w' => e = .returned (.tuple #[.int .i64 ((L.countP (fun y => decide (y < x)) : Nat) : Int), .bool (L.contains x)]) ∧ Old w w' := by
  rcases h.2 with ⟨rfl, e⟩ | ⟨g, cap, cur, rfl, hb, hg, hnc, hcm, hcs, htk⟩
  · obtain rfl : L = [] := List.length_eq_zero_iff.1 e
    refine Calls.mono (Any.slices_BinarySearch_int_empty bsLay none 0 x w) ?_
    rintro e w' ⟨rfl, rfl⟩
    exact ⟨rfl, Old.refl _⟩
  · have q := Any.slices_BinarySearch_int bsLay g 0 L.length cap L x w (Nat.le_refl _) (by omega) (fun j hj => by rw [Nat.zero_add]; exact h.blk.2.2.2.2.2 j hj) (by rw [List.take_length]; exact hs)
    rw [List.take_length] at q
    refine Calls.mono q ?_
    rintro e w' ⟨rfl, k, rfl⟩
    exact ⟨rfl, (Old.refl _).drewN k⟩
/-- One put in its place among numbers that rise. -/
def putS (x : Int) (L : List Int) : List Int := insA (L.countP (fun y => decide (y < x))) x L
set_option maxHeartbeats 2000000 in
set_option maxRecDepth 20000 in
theorem with_any (base : Nat) (v : Value) (L : List Int) (x : Int) (w : World) (hl : L.length ≤ 1000) (h : OwnI base w v L) (hbase : base ≤ w.heap.size) (hs : L.Pairwise (· ≤ ·)) :
    Calls Try.prog 35 #[v, .int .i64 x] w fun e w' => ∃ v', e = .returned v' ∧ OwnI base w' v' (putS x L) ∧ Chg v.ownBlock.toList w w' ∧ ∀ k, v'.ownBlock = some k → v.ownBlock = some k ∨ w.heap.size ≤ k := by
  have HS := hid (search_any base v L x w (by omega) h hs)
  have hcnt : L.countP (fun y => decide (y < x)) ≤ L.length := List.countP_le_length
  have HI := hid (fun (W : World) (vb : Nat) (u : Old w W) (hv : W.heap[vb]? = some (.cells #[.int .i64 x] 3 (0, 0))) (hvb : w.heap.size ≤ vb) => insertI_any base v L x (L.countP (fun y => decide (y < x))) vb W (by omega) (h.up u) (Nat.le_trans hbase u.size) hcnt hv (fun e => by have := (World.ownsRow.lt h vb e).2; omega))
  obtain ⟨p, c, rfl⟩ := h.len
  clear h
  generalize hk : L.countP (fun y => decide (y < x)) = k at *
  generalize L.contains x = B at *
  have hpS : putS x L = insA k x L := by unfold putS; rw [hk]
  rw [hpS]
  go_enter Try.func35, Try.ntmps35
  go_wp2_with (first | (go_at_call 38; refine HS.out.mono ?_; rintro e w1 ⟨rfl, o1⟩; have O1 := hid o1; clear o1) | (go_at_call 59; refine (HI.out _ w1.heap.size (O1.out.alloc _) (heap_alloc_new w1 _) O1.out.size).mono ?_; rintro e w2 ⟨v2, rfl, o2, c2, n2⟩; have O2 := hid o2; have C2 := hid ((Chg.ofOld (O1.out.alloc _)).trans c2); have N2 := hid n2; clear o2 c2 n2))
  go_ret
  exact ⟨_, rfl, O2.out, C2.out, fun k e => (N2.out k e).imp id (fun q => by have := O1.out.size; simp at q; omega)⟩
end Go.Proofs.Ytcicefpcledmgaa
