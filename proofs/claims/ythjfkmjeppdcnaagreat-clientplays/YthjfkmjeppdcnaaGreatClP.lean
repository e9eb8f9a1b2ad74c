/- Rows of int: the call's own, and as arguments; Index and Contains; no condition. -/
import Derived.Test.YthjfkmjeppdcnaaGreatClE
import Derived.Test.YthjfkmjeppdcnaaGreatClB
import Derived.Maps.AppendAt
import Derived.Deep.MidRow
import Derived.Deep.DeepCutAuto
import Derived.SizedLaws
import Derived.Lib.SmallJoins
import Derived.Defers
import Derived.Recover
import Derived.Lib.Builder
import Derived.Shelf.Abstract
namespace Go.Proofs.YthjfkmjeppdcnaaGreat.Ci
open Go.ChangeShapes Go.WideShapes Go.ChangeAt Go.RowKit Go.Joins Go.Lib
set_option linter.unusedVariables false
set_option linter.unusedSimpArgs false
set_option maxRecDepth 20000
def ils (L : List Int) : List Value := L.map fun b => .int .i64 b
theorem ils_app (L M : List Int) : ils L ++ ils M = ils (L ++ M) := by simp [ils]
theorem info_parts {e : TypeId} {z : Value} {size bytes : Nat} (h : (Tryz.prog.info? e).map (fun i => (i.zero, i.size, i.bytes)) = some (some z, size, bytes)) : ∃ i, Tryz.prog.info? e = some i ∧ i.zero = some z ∧ i.size = size ∧ i.bytes = bytes := by
 cases hi : Tryz.prog.info? e with
 | none => rw [hi] at h; cases h
 | some i => rw [hi] at h; simp at h; exact ⟨i, rfl, h.1, h.2.1, h.2.2⟩
def NRowL (w : World) (v : Value) (n : Nat) (f : Nat → Int) : Prop := n ≤ 17592186044000 ∧ ∃ (p : Option Addr) (c : Nat), v = .slice p n c ∧ n ≤ c ∧ c ≤ 9223372036854775807 ∧ ∀ i, i < n → ∃ g off, p = some ⟨g, off, none⟩ ∧ w.cell? ⟨g, off + i, none⟩ = some (.int .i64 (f i))
theorem NRowL.old {w w' : World} {v : Value} {n : Nat} {f : Nat → Int} (h : NRowL w v n f) (u : Old w w') : NRowL w' v n f := by
 obtain ⟨hm, p, c, e, h1, h2, hc⟩ := h
 exact ⟨hm, p, c, e, h1, h2, fun i hi => by obtain ⟨g, off, e2, h3⟩ := hc i hi; exact ⟨g, off, e2, u.keep h3⟩⟩
def lsI (f : Nat → Int) : Nat → List Int | 0 => [] | k + 1 => lsI f k ++ [f k]
theorem lsI_len (f : Nat → Int) : ∀ k, (lsI f k).length = k
 | 0 => rfl
 | k + 1 => by show (lsI f k ++ [f k]).length = k + 1; rw [List.length_append, lsI_len f k]; rfl
theorem lsI_get (f : Nat → Int) : ∀ k i, i < k → (lsI f k).getD i 0 = f i
 | 0, i, h => by omega
 | k + 1, i, h => by
  show (lsI f k ++ [f k]).getD i 0 = f i
  by_cases e : i = k
  ·subst e
   rw [List.getD_eq_getElem?_getD, List.getElem?_append_right (by rw [lsI_len]; exact Nat.le_refl _), lsI_len, Nat.sub_self]
   rfl
  ·rw [List.getD_eq_getElem?_getD, List.getElem?_append_left (by rw [lsI_len]; omega), ← List.getD_eq_getElem?_getD]
   exact lsI_get f k i (by omega)
theorem cellsEach {w : World} {base : Nat} {a : Addr} {n : Nat} {cs : List Value} (h : w.cells? base a n = some cs) (i : Nat) (hi : i < n) : w.cell? (a.add i) = cs[i]? := by
 unfold World.cells? at h
 split at h
 ·exact mapM_some_get h i i (by simp [hi])
 ·cases h
theorem len_row {H : Type} {enc : TypeId × Value → H} {P : Program} {w : World} {base : Nat} {spare : Nat → Bool} {held : Bool} {fuel : Nat} {t e : TypeId} {a : Option Addr} {n c : Nat} {y : DataW H × List MemPlace} (ht : P.underlying t = some (.slice e)) (h : DataW.trod enc P w base spare held fuel t [.slice a n c] = some y) : n = 0 ∨ ∃ els sp, y.1 = .slice els sp ∧ els.length = n := by
 rcases DataW.trod_slice ht h with ⟨hcs, _⟩ | ⟨a', len, cap, elems, rest, m, _, hcs, hx, hb, hl, hm, hlen, hel, _, _⟩
 ·simp at hcs; exact .inl hcs.2.1
 ·simp at hcs
  obtain ⟨_, hln, _⟩ := hcs
  subst hx
  exact .inr ⟨_, _, rfl, by simp [hlen, hln]⟩
theorem row_fits {H : Type} {P : Program} {t e : TypeId} {d : DataW H} {n k : Nat} (ht : P.underlying t = some (.slice e)) (hk : P.bytesOf e = k) (h : n = 0 ∨ ∃ els sp, d = .slice els sp ∧ els.length = n) (hz : ∀ x ∈ d.weights P t, x ≤ reachBytes) : n * k ≤ reachBytes := by
 rcases h with rfl | ⟨els, sp, rfl, rfl⟩
 ·simp
 ·have := hz ((els.length + sp.length) * P.bytesOf e) (by simp [DataW.weights, ht])
  rw [hk, Nat.add_mul] at this
  omega
theorem cellsInt : Tryz.prog.cellsOf 3 = 1 := by kernel_rfl
theorem bytesInt : Tryz.prog.bytesOf 3 = 8 := by kernel_rfl
theorem open_ints {H : Type} {enc : TypeId × Value → H} {w : World} {base : Nat} {v : Value} {d : DataW H} {ps : List MemPlace} (hv : Value.okWide Tryz.prog w .any base 22 v) (h : DataW.Trod enc Tryz.prog w 0 (fun _ => true) true 22 v d ps) (hz : ∀ k ∈ d.weights Tryz.prog 22, k ≤ reachBytes) : ∃ (n : Nat) (f : Nat → Int), NRowL w v n f := by
 obtain ⟨a0, len0, cap0, rfl⟩ := okWide_slice Tryz.underlying22 hv
 obtain ⟨fuel, hf⟩ := h
 have hlr := len_row Tryz.underlying22 hf
 have hfit := row_fits Tryz.underlying22 bytesInt hlr hz
 simp only [reachBytes] at hfit
 rcases DataW.trod_slice Tryz.underlying22 hf with ⟨hcs, _⟩ | ⟨a, len, cap, elems, rest, m, _, hcs, hx, hb, hl, hm, hlen, hel, _, _⟩
 ·simp [Value.cells] at hcs
  obtain ⟨rfl, rfl, rfl⟩ := hcs
  exact ⟨0, fun _ => 0, by omega, none, 0, rfl, by omega, by omega, fun i hi => by omega⟩
 ·simp [Value.cells] at hcs
  obtain ⟨rfl, rfl, rfl⟩ := hcs
  have hcm : cap0 ≤ 9223372036854775807 := by unfold maxLen at hm; omega
  by_cases hzz : len0 = 0
  ·subst hzz
   exact ⟨0, fun _ => 0, by omega, _, cap0, rfl, by omega, hcm, fun i hi => by omega⟩
  ·have each : ∀ i, i < len0 → ∃ x : Int, w.cell? ((a.add (i * 1)).add 0) = some (.int .i64 x) := by
     intro i hi
     have h1 := hel i hi
     have h2 : elems[i]? = some (elems[i]'(by omega)) := List.getElem?_eq_getElem (by omega)
     rw [h2, cellsInt, Option.bind_eq_some_iff] at h1
     obtain ⟨cs', hcs, hy'⟩ := h1
     obtain ⟨x, e0, _, _⟩ := DataW.trod_int Tryz.underlying3 hy'
     have q := cellsEach hcs 0 (by omega)
     rw [e0] at q
     exact ⟨x, q⟩
   obtain ⟨b, off, spot⟩ := a
   obtain ⟨x0, h0⟩ := each 0 (by omega)
   have hspot : spot = none := by simpa [Addr.add] using World.cell?_spot h0
   subst hspot
   have each2 : ∀ i, ∃ x : Int, i < len0 → w.cell? ⟨b, off + i, none⟩ = some (.int .i64 x) := by
    intro i
    by_cases hi : i < len0
    ·obtain ⟨x, q⟩ := each i hi
     simp only [Go.WideShapes.add_plain, Nat.mul_one, Nat.add_zero] at q
     exact ⟨x, fun _ => q⟩
    ·exact ⟨0, fun h => absurd h hi⟩
   exact ⟨len0, fun i => Classical.choose (each2 i), by omega, _, cap0, rfl, hl, hcm, fun i hi => ⟨b, off, rfl, Classical.choose_spec (each2 i) hi⟩⟩
theorem step_lift1 {ops : Array Oper} {o : Oper} {a : Act} {w : World} {K : Act → World → Prop} {Q : Exit → Act → World → Prop} {E : Prop} (hgd : o.guard = none)
    (h2 : wpList Tryz.prog ops (fun e a' w' => e = .normal ∧ K a' w') [o] a w) : if Region.wanted o (yielded ops a.tmps) = true then Oper.wp Tryz.prog o a w K Q else E := by
 have hw : Region.wanted o (yielded ops a.tmps) = true := by simp [Region.wanted, hgd]
 rw [if_pos hw]
 unfold wpList at h2
 rw [if_pos hw] at h2
 rcases h2 with h2 | ⟨_, a', w', h3, _⟩
 ·unfold Oper.wp at *
  generalize (execOp a.eval o).run Tryz.prog w = r at *
  cases r with
  | ok nx w' =>
   cases nx <;> simp only [Oper.upon] at h2 ⊢ <;>
    first
     | exact h2.2
     | exact h2
     | exact Calls.mono h2 (fun e w'' he => by
         cases e with
         | returned r => exact he.2
         | panicked c => exact absurd he.1 (by simp)
         | outgrown => obtain ⟨a', w', h3, _⟩ := he; exact absurd h3 (by simp))
     | exact Rows.mono h2 (fun _ _ he => he.2)
  | halt x w' => cases x <;> simp only [Oper.upon] at h2 ⊢ <;> first | exact h2 | exact absurd h2.1 (by simp)
 ·exact absurd h3 (by simp)
theorem stepCallV {P : Program} {ops : Array Oper} {o : Oper} {a : Act} {w : World} {K : Act → World → Prop} {Q : Exit → Act → World → Prop} {E : Prop} (hg : o.guard = none) (f x : Operand) (ts : Array TypeId)
    (hop : o.op = Op.call { callee := Callee.value f, args := #[x], argTypes := ts }) (F : FuncId) (caps : Array Value) (v : Value) (hf : a.eval f = .func (.func F) #[] caps) (hx : a.eval x = v)
    (henter : ∀ args w, (callFunc F args).run P w = .ok (.enter F args) w)
    (hc : Calls P F (#[v] ++ caps) w fun e w' => ∃ r, e = .returned r ∧ K (a.put o.dst r) w') :
    if Region.wanted o (yielded ops a.tmps) = true then Oper.wp P o a w K Q else E := by
 have hw : Region.wanted o (yielded ops a.tmps) = true := by simp [Region.wanted, hg]
 rw [if_pos hw]
 unfold Oper.wp
 simp [execOp, hop, resolve, invoke, hx, hf, Deferred.ofValue]
 rw [henter]
 refine hc.mono ?_
 rintro e w' ⟨r, rfl, hk⟩
 exact hk
theorem one_cell {w : World} {b : Nat} {u : Value} {t : TypeId} (h : w.heap[b]? = some (.cells #[u] t (0, 0))) : w.cell? ⟨b, 0, none⟩ = some u := by simp [World.cell?, h]
theorem one_free {w : World} {b : Nat} {u : Value} {t : TypeId} (h : w.heap[b]? = some (.cells #[u] t (0, 0))) : w.frozen? ⟨b, 0, none⟩ = false := by simp [World.frozen?, h]
theorem one_new (w : World) (u : Value) (t : TypeId) : (w.alloc (.cells #[u] t)).heap[w.heap.size]? = some (.cells #[u] t (0, 0)) := heap_alloc_new w _
def OwnI (base : Nat) (w : World) (v : Value) (L : List Int) : Prop := w.ownsRow base 3 1 v L.length (ils L)
theorem OwnI.up {base : Nat} {w w' : World} {v : Value} {L : List Int} (h : OwnI base w v L) (u : Old w w') : OwnI base w' v L := by
 refine ⟨h.1, ?_⟩
 rcases h.2 with e | ⟨g, cap, cur, e, hb', hg, r⟩
 ·exact .inl e
 ·exact .inr ⟨g, cap, cur, e, hb', u.block hg, r⟩
theorem OwnI.len {base : Nat} {w : World} {v : Value} {L : List Int} (h : OwnI base w v L) : ∃ a c, v = .slice a L.length c := by
 rcases h.2 with ⟨rfl, e⟩ | ⟨g, cap, cur, rfl, _⟩
 ·exact ⟨none, 0, by rw [e]⟩
 ·exact ⟨_, _, rfl⟩
theorem OwnI.mono {base b' : Nat} {w : World} {v : Value} {L : List Int} (h : OwnI base w v L) (hb : b' ≤ base) : OwnI b' w v L := by
 refine ⟨h.1, ?_⟩
 rcases h.2 with e | ⟨g, cap, cur, e, hb', r⟩
 ·exact .inl e
 ·exact .inr ⟨g, cap, cur, e, by omega, r⟩
theorem infoI : (Tryz.prog.info? 3).map (fun i => (i.zero, i.size, i.bytes)) = some (some (.int .i64 0), 1, 8) := by kernel_rfl
theorem wp_appI {ops : Array Oper} {rest : List Oper} {o : Oper} {a : Act} {Q : Exit → Act → World → Prop} {w : World} (hgd : o.guard = none) (s x : Operand)
    (ho : o.op = .call { callee := .builtin .append, args := #[s, x], argTypes := #[22, 22] }) (base : Nat) (v : Value) (L : List Int) (g c1 : Nat) (y : Int)
    (hs : a.eval s = v) (hx : a.eval x = .slice (some ⟨g, 0, none⟩) 1 c1) (hown : OwnI base w v L) (hc : w.cell? ⟨g, 0, none⟩ = some (.int .i64 y)) (hb : L.length + 1 ≤ 17592186044416) (hbase : base ≤ w.heap.size)
    (h : ∀ v' w', OwnI base w' v' (L ++ [y]) → w.grownBy w' v.ownBlock → (v'.ownBlock = v.ownBlock ∨ v'.ownBlock = some w.heap.size) → wpList Tryz.prog ops Q rest (a.put o.dst v') w') : wpList Tryz.prog ops Q (o :: rest) a w := by
 obtain ⟨i0, hi, hz0, hz1, hz2⟩ := info_parts infoI
 refine wpList_append_own_at w hgd s x 22 ho base 3 i0 _ 1 8 Tryz.underlying22 hi hz0 hz1 hz2 rfl (by decide) v L.length (ils L) hs hown ⟨g, 0, none⟩ 1 c1 (ils [y]) hx rfl ?_ ?_ (by unfold maxLen; omega) (by omega) hbase ?_
 ·intro j u hj
  match j with
  | 0 => simp [ils] at hj; subst hj; rw [Go.WideShapes.add_plain]; exact hc
  | j + 1 => simp [ils] at hj
 ·intro u hu; simp [ils] at hu; subst hu; rfl
 ·intro v' w' h1 h2 h3 h4
  exact h v' w' (by unfold OwnI; rw [ils_app] at h1; simpa using h1) h2 h4
theorem cell_oneI (w : World) (y : Int) (g : Nat) (hg : w.heap.size = g) : (w.alloc (.cells #[.int .i64 y] 3)).cell? ⟨g, 0, none⟩ = some (.int .i64 y) := by subst hg; simp
theorem OwnI.chg {base : Nat} {S : List Nat} {w w' : World} {v : Value} {L : List Int} (h : OwnI base w v L) (u : Chg S w w') (hn : ∀ g, v.ownBlock = some g → g ∉ S) : OwnI base w' v L := by
 refine ⟨h.1, ?_⟩
 rcases h.2 with e | ⟨g, cap, cur, rfl, hb', hg, r⟩
 ·exact .inl e
 ·exact .inr ⟨g, cap, cur, rfl, hb', u.heapAt hg (hn g rfl), r⟩
theorem step_appI {ops : Array Oper} {o : Oper} {a : Act} {w : World} {K : Act → World → Prop} {Q : Exit → Act → World → Prop} {E : Prop} (hgd : o.guard = none) (s x : Operand)
    (ho : o.op = .call { callee := .builtin .append, args := #[s, x], argTypes := #[22, 22] }) (base : Nat) (v : Value) (L : List Int) (g : Nat) (y : Int)
    (hs : a.eval s = v) (hx : a.eval x = .slice (some ⟨g, 0, none⟩) 1 1) (hown : OwnI base w v L) (hc : w.cell? ⟨g, 0, none⟩ = some (.int .i64 y)) (hb : L.length + 1 ≤ 17592186044416) (hbase : base ≤ w.heap.size)
    (h : ∀ v' w', OwnI base w' v' (L ++ [y]) → w.grownBy w' v.ownBlock → K (a.put o.dst v') w') :
    if Region.wanted o (yielded ops a.tmps) = true then Oper.wp Tryz.prog o a w K Q else E := by
 refine step_lift1 hgd ?_
 refine wp_appI hgd s x ho base v L g 1 y hs hx hown hc hb hbase ?_
 intro v' w' h1 h2 h3
 unfold wpList
 exact ⟨rfl, h v' w' h1 h2⟩
theorem OwnI.rowL {base : Nat} {w : World} {v : Value} {L : List Int} {n : Nat} {f : Nat → Int} (h : OwnI base w v L) (hl : L.length ≤ 17592186044000) (hn : L.length = n) (hf : ∀ i, i < n → L.getD i 0 = f i) : NRowL w v n f := by
 subst hn
 have h2 := h
 unfold OwnI at h2
 rcases h2.2 with ⟨e1, e⟩ | ⟨g, cap, cur, rfl, hb, hg, hnc, hcm, hcs, htk⟩
 ·exact ⟨hl, none, 0, by rw [e1, e], by omega, by omega, fun i hi => by omega⟩
 ·refine ⟨hl, _, cap, rfl, hnc, by unfold maxLen at hcm; omega, fun i hi => ⟨g, 0, rfl, ?_⟩⟩
  rw [Nat.zero_add, h2.cellAt i (by omega), ← hf i hi]
  simp [ils, List.getD_eq_getElem?_getD, hi]
def anyK (p : Nat → Bool) : Nat → Bool | 0 => false | k + 1 => anyK p k || p k
theorem anyK_iff (p : Nat → Bool) : ∀ n, anyK p n = true ↔ ∃ i, i < n ∧ p i = true
 | 0 => ⟨(fun h => by cases h), (fun ⟨i, h, _⟩ => by omega)⟩
 | n + 1 => by
  unfold anyK
  rw [Bool.or_eq_true, anyK_iff p n]
  constructor
  ·rintro (⟨i, h, q⟩ | q)
   ·exact ⟨i, by omega, q⟩
   ·exact ⟨n, by omega, q⟩
  ·rintro ⟨i, h, q⟩
   by_cases e : i = n
   ·right; rw [← e]; exact q
   ·left; exact ⟨i, by omega, q⟩
def hasK (f : Nat → Int) (x : Int) (n : Nat) : Bool := anyK (fun i => x == f i) n
theorem anyK_at (p : Nat → Bool) (n k : Nat) (hk : k < n) (h : p k = true) : anyK p n = true := (anyK_iff p n).2 ⟨k, hk, h⟩
set_option maxHeartbeats 2000000 in
theorem index_any (v : Value) (n : Nat) (f : Nat → Int) (x : Int) (w : World) (h : NRowL w v n f) :
    Calls Tryz.prog 24 #[v, .int .i64 x] w fun e w' => ∃ r : Int, e = .returned (.int .i64 r) ∧ decide (0 ≤ r) = hasK f x n ∧ Old w w' := by
 obtain ⟨hn, p, c, rfl, h1, h2, hc⟩ := h
 have HX := hid hc
 have hmm : (n : Int) ≤ 17592186044000 := by omega
 clear hc
 go_enter Tryz.func24, Tryz.ntmps24
 go_wp2
 go_loopw [8] (fun i wx => ∃ k : Nat, k ≤ n ∧ i = .int .i64 k ∧ hasK f x k = false ∧ Old w wx) (fun i _ => n - (intOf i).toNat)
 case atStart => exact ⟨0, Nat.zero_le _, rfl, rfl, Old.refl _⟩
 case round =>
  obtain ⟨k, hk, rfl, hz, hup⟩ := hrel
  by_cases hlt : k < n
  ·obtain ⟨b1, o1, e1, cx0⟩ := HX.out k hlt
   subst e1
   have cx := hup.keep cx0
   have l1 : (0 : Int) ≤ (k : Int) := by omega
   have l2 : (k : Int) < (n : Int) := by omega
   have HS : Hid (hasK f x (k + 1) = (hasK f x k || (x == f k))) := hid rfl
   have HA : Hid ((x == f k) = true → hasK f x n = true) := hid (fun q => anyK_at _ n k hlt q)
   generalize f k = y at *
   clear cx0
   by_cases hxy : x = y
   ·have t : (x == y) = true := by simp [hxy]
    have HT := hid (HA.out t)
    clear HA HS hxy hz
    go_wp2
    go_ret
    exact ⟨_, rfl, by rw [HT.out]; simp, hup⟩
   ·have t : (x == y) = false := by simp [hxy]
    rw [t, hz] at HS
    clear HA
    go_wp2
    exact ⟨⟨k + 1, hlt, by go_num, HS.out, hup⟩, by simp [intOf]; omega⟩
  ·obtain rfl : n = k := by omega
   have HZ := hid hz
   clear hz
   go_wp2
   go_ret
   exact ⟨_, rfl, by rw [HZ.out]; decide, hup⟩
set_option maxHeartbeats 1000000 in
theorem contains_any (v : Value) (n : Nat) (f : Nat → Int) (x : Int) (w : World) (h : NRowL w v n f) :
    Calls Tryz.prog 31 #[v, .int .i64 x] w fun e w' => e = .returned (.bool (hasK f x n)) ∧ Old w w' := by
 have HI := hid (index_any v n f x w h)
 obtain ⟨_, p, c, rfl, _⟩ := h
 go_enter Tryz.func31, Tryz.ntmps31
 go_wp2_with (go_at_call 24; refine HI.out.mono ?_; rintro e w1 ⟨r, rfl, hr, o1⟩; have O1 := hid o1; have HR := hid hr; clear o1 hr)
 go_ret
 exact ⟨by rw [← HR.out]; rfl, O1.out⟩
end Go.Proofs.YthjfkmjeppdcnaaGreat.Ci
