/- A row of bytes in memory, read as an argument; a world that has grown: nothing old has turned; no condition. -/
import Derived.Test.YtejeihbcakojeaaRows
import Derived.WalkKit
import Derived.WalkSpells
import Derived.WalkLawsBesides
import Derived.ProofKit
import Derived.OpenShut
import Derived.Laws.BitsAllLaws
import Derived.Deep.RegionWith
import Derived.Laws.AppendOwnNone
import Derived.OneCell
import Derived.ArgAppend
import Derived.Deep.QuietTactic
import Derived.BigQuiet
import Derived.Deep.Draws
namespace Go.Proofs.Ytejeihbcakojeaa.Pk
set_option maxRecDepth 20000
open Go.ChangeShapes Go.WideShapes Go.RowKit
theorem ret_i {k : IntKind} {a b : Int} (h : a = b) : Ending.returned (.int k a) = .returned (.int k b) := by rw [h]
theorem ret_b {a b : Bool} (h : a = b) : Ending.returned (.bool a) = .returned (.bool b) := by rw [h]
theorem hid {p : Prop} (h : p) : Hid p := h
def intOf : Value → Int | .int _ q => q | _ => 0
/-- Nothing that was there has turned. -/
def Up (w w' : World) : Prop := Below w.heap.size w w'
theorem Up.refl (w : World) : Up w w := Below.refl _ _
theorem Up.trans {a b c : World} (h : Up a b) (k : Up b c) : Up a c := Below.trans h (Below.mono k h.size)
theorem Up.drew {a w : World} (h : Up a w) : Up a w.drew := Below.drew h
theorem Up.drewN {a w : World} (h : Up a w) (n : Nat) : Up a (w.drewN n) := below_drewN h n
theorem Up.alloc {a w : World} (h : Up a w) (o : Obj) : Up a (w.alloc o) := Below.alloc h h.size o
theorem Up.setCell {a w : World} (h : Up a w) {p : Addr} (hp : a.heap.size ≤ p.block) (u : Value) : Up a (w.setCell p u) := Below.setCell h hp u
theorem Up.keep {W w' : World} (h : Up W w') {p : Addr} {v : Value} (hc : W.cell? p = some v) : w'.cell? p = some v := by
  rw [Below.cell (p := p) h (World.block_lt_of_cell? W p hc)]; exact hc
theorem heap_new (w : World) (o : Obj) : (w.alloc o).heap[w.heap.size]? = some o := by
  show (w.heap.push o)[w.heap.size]? = _
  simp
theorem cell_new (w : World) (C : Array Value) (e : TypeId) (fr : Nat × Nat) (i : Nat) (v : Value) (h : C[i]? = some v) : (w.alloc (.cells C e fr)).cell? ⟨w.heap.size, i, none⟩ = some v := by
  simp only [World.cell?, heap_new]
  exact h
/-- A slice value of n bytes: an empty one, or one whose elements lie in memory. -/
def ByRow (w : World) (v : Value) (n : Nat) (x : Nat → Nat) : Prop :=
  (n = 0 ∧ ∃ a c, v = .slice a 0 c ∧ (a = none → c = 0)) ∨ (0 < n ∧ n ≤ maxLen ∧ ∃ b off cap, v = .slice (some ⟨b, off, none⟩) n cap ∧ (∀ i, i < n → x i < 256 ∧ w.cell? ⟨b, off + i, none⟩ = some (.int .u8 (x i : Int))) ∧ n ≤ cap ∧ cap ≤ maxLen)
theorem ByRow.up {w w' : World} {v : Value} {n : Nat} {x : Nat → Nat} (h : ByRow w v n x) (u : Up w w') : ByRow w' v n x := by
  rcases h with h | ⟨hn, hm, b, off, cap, hv, hc, hcp⟩
  · exact .inl h
  · exact .inr ⟨hn, hm, b, off, cap, hv, fun i hi => ⟨(hc i hi).1, u.keep (hc i hi).2⟩, hcp⟩
theorem cellsByte : Try.prog.cellsOf 5 = 1 := by kernel_rfl
theorem open_bytes {H : Type} {enc : TypeId × Value → H} {w : World} {base : Nat} {v : Value} {d : DataW H} {ps : List MemPlace} (hv : Value.okWide Try.prog w .any base 26 v) (h : DataW.Trod enc Try.prog w 0 (fun _ => true) true 26 v d ps) :
    ∃ (n : Nat) (x : Nat → Nat), ByRow w v n x := by
  obtain ⟨a0, len0, cap0, rfl⟩ := okWide_slice Try.underlying26 hv
  obtain ⟨fuel, hf⟩ := h
  rcases DataW.trod_slice Try.underlying26 hf with ⟨hcs, _⟩ | ⟨a, len, cap, elems, rest, m, _, hcs, _, hb, hl, hm, hlen, hel, _, _⟩
  · simp [Value.cells] at hcs
    obtain ⟨rfl, rfl, rfl⟩ := hcs
    exact ⟨0, fun _ => 0, .inl ⟨rfl, none, 0, rfl, fun _ => rfl⟩⟩
  · simp [Value.cells] at hcs
    obtain ⟨ha, hln, hcp⟩ := hcs
    rw [ha, hln, hcp]
    clear ha hln hcp hf hv a0 len0 cap0
    by_cases hz : len = 0
    · subst hz; exact ⟨0, fun _ => 0, .inl ⟨rfl, _, _, rfl, fun h => by cases h⟩⟩
    · have each : ∀ i, i < len → ∃ n : Int, w.cell? (a.add i) = some (.int .u8 n) ∧ 0 ≤ n ∧ n < 256 := by
        intro i hi
        have h1 := hel i hi
        have h2 : elems[i]? = some (elems[i]'(by omega)) := List.getElem?_eq_getElem (by omega)
        rw [h2, cellsByte, Nat.mul_one, Option.bind_eq_some_iff] at h1
        obtain ⟨cs', hcs, hy'⟩ := h1
        obtain ⟨n, rfl, _, hw⟩ := DataW.trod_int Try.underlying5 hy'
        exact ⟨n, cell_of_cells?_one hcs, by simp [Lit.wf, IntKind.min, IntKind.max, IntKind.bits, IntKind.signed] at hw; omega⟩
      obtain ⟨b, off, spot⟩ := a
      obtain ⟨n0, h0, _⟩ := each 0 (by omega)
      have hspot : spot = none := by simpa [Addr.add] using World.cell?_spot h0
      subst hspot
      refine ⟨len, fun i => match w.cell? ⟨b, off + i, none⟩ with | some (.int _ n) => n.toNat | _ => 0, .inr ⟨by omega, by omega, b, off, cap, rfl, fun i hi => ?_, hl, hm⟩⟩
      obtain ⟨n, hn, hw⟩ := each i hi
      rw [Go.WideShapes.add_plain] at hn
      simp only [hn]
      exact ⟨by omega, by rw [Int.toNat_of_nonneg hw.1]⟩
end Go.Proofs.Ytejeihbcakojeaa.Pk
namespace Go.Proofs.Ytejeihbcakojeaa.Pk
set_option maxRecDepth 20000
open Go.RowKit
def bl (n : Nat) (x : Nat → Nat) : List Value := (List.range n).map fun i => Value.int .u8 (x i : Int)
def cat (n : Nat) (x y : Nat → Nat) : Nat → Nat := fun i => if i < n then x i else y (i - n)
def set (x : Nat → Nat) (j c : Nat) : Nat → Nat := fun i => if i = j then c else x i
theorem set_back (x : Nat → Nat) (j c : Nat) : set (set x j c) j (x j) = x := by
  funext i; unfold set; by_cases h : i = j <;> simp [h]
theorem bl_len (n : Nat) (x : Nat → Nat) : (bl n x).length = n := by simp [bl]
theorem bl_get (n : Nat) (x : Nat → Nat) (i : Nat) (h : i < n) : (bl n x)[i]? = some (.int .u8 (x i : Int)) := by simp [bl, h]
theorem bl_get_ge (n : Nat) (x : Nat → Nat) (i : Nat) (h : n ≤ i) : (bl n x)[i]? = none := List.getElem?_eq_none (by rw [bl_len]; exact h)
theorem bl_cat (n m : Nat) (x y : Nat → Nat) : bl n x ++ bl m y = bl (n + m) (cat n x y) := by
  apply List.ext_getElem?
  intro i
  by_cases h : i < n
  · rw [List.getElem?_append_left (by rw [bl_len]; exact h), bl_get _ _ _ h, bl_get _ _ _ (by omega)]; simp [cat, h]
  · rw [List.getElem?_append_right (by rw [bl_len]; omega), bl_len]
    by_cases k : i < n + m
    · rw [bl_get _ _ _ (by omega), bl_get _ _ _ k]; simp [cat, h]
    · rw [bl_get_ge _ _ _ (by omega), bl_get_ge _ _ _ (by omega)]
theorem bl_set (n : Nat) (x : Nat → Nat) (j c : Nat) : (bl n x).set j (.int .u8 (c : Int)) = bl n (set x j c) := by
  apply List.ext_getElem?
  intro i
  by_cases h : i < n
  · rw [bl_get _ _ _ h, List.getElem?_set]
    by_cases e : j = i
    · subst e; simp [set, bl_len, h]
    · rw [if_neg e, bl_get _ _ _ h]; simp [set, Ne.symm e]
  · rw [bl_get_ge _ _ _ (by omega)]
    exact List.getElem?_eq_none (by rw [List.length_set, bl_len]; omega)
theorem bl_one (n : Nat) (x : Nat → Nat) : ∀ u ∈ bl n x, u.oneCell' = true := by
  intro u hu
  simp only [bl, List.mem_map, List.mem_range] at hu
  obtain ⟨i, _, rfl⟩ := hu
  rfl
theorem bl_congr (n : Nat) (x y : Nat → Nat) (h : ∀ i, i < n → x i = y i) : bl n x = bl n y := by
  unfold bl
  apply List.map_congr_left
  intro i hi
  rw [h i (by simpa using hi)]
theorem infoByte : (Try.prog.info? 5).map (fun i => (i.zero, i.size, i.bytes)) = some (some (.int .u8 0), 1, 1) := by kernel_rfl
/-- The slice value v owns n bytes among the call's own blocks. -/
structure OwnB (base : Nat) (w : World) (v : Value) (n : Nat) (x : Nat → Nat) : Prop where
  own : w.ownsRow base 5 1 v n (bl n x)
  lt : ∀ i, i < n → x i < 256
theorem OwnB.nil (base : Nat) (w : World) (x : Nat → Nat) : OwnB base w (.slice none 0 0) 0 x := ⟨World.ownsRow_nil _ _ _ _, fun _ h => by omega⟩
theorem OwnB.empty {base g : Nat} {w : World} {x : Nat → Nat} (hb : base ≤ w.heap.size) (hg : w.heap.size = g) : OwnB base (w.alloc (.cells #[] 5)) (.slice (some ⟨g, 0, none⟩) 0 0) 0 x := by
  subst hg
  exact ⟨World.ownsRow_made w #[] 0 hb (by unfold maxLen; omega) rfl, fun _ h => by omega⟩
theorem OwnB.shape {base : Nat} {w : World} {v : Value} {n : Nat} {x : Nat → Nat} (h : OwnB base w v n x) (hn : 0 < n) :
    ∃ g cap, v = .slice (some ⟨g, 0, none⟩) n cap ∧ base ≤ g ∧ g < w.heap.size ∧ n ≤ cap ∧ cap ≤ maxLen ∧ (∀ i, i < n → w.cell? ⟨g, i, none⟩ = some (.int .u8 (x i : Int))) ∧ (∀ i, w.frozen? ⟨g, i, none⟩ = false) := by
  have h2 := h.own
  rcases h2.2 with ⟨_, e⟩ | ⟨g, cap, cur, rfl, hb, hg, hnc, hcm, hcs, htk⟩
  · omega
  · refine ⟨g, cap, rfl, hb, lt_of_block hg, hnc, hcm, fun i hi => ?_, h2.frozenAt⟩
    rw [h2.cellAt i (by omega), bl_get _ _ _ hi]
theorem OwnB.len {base : Nat} {w : World} {v : Value} {n : Nat} {x : Nat → Nat} (h : OwnB base w v n x) : ∃ a c, v = .slice a n c ∧ (a = none → n = 0 ∧ c = 0) ∧ (∀ ad, a = some ad → ad.off = 0 ∧ ad.spot = none ∧ base ≤ ad.block ∧ ad.block < w.heap.size) := by
  rcases h.own.2 with ⟨rfl, rfl⟩ | ⟨g, cap, cur, rfl, hb, hg, _⟩
  · exact ⟨none, 0, rfl, fun _ => ⟨rfl, rfl⟩, fun _ e => by cases e⟩
  · exact ⟨_, cap, rfl, fun e => by (cases e), fun ad e => by cases e; exact ⟨rfl, rfl, hb, lt_of_block hg⟩⟩
theorem OwnB.row {base : Nat} {w : World} {v : Value} {n : Nat} {x : Nat → Nat} (h : OwnB base w v n x) : ByRow w v n x := by
  by_cases hn : 0 < n
  · obtain ⟨g, cap, rfl, _, _, h1, h2, hc, _⟩ := h.shape hn
    exact .inr ⟨hn, by omega, g, 0, cap, rfl, fun i hi => ⟨h.lt i hi, by rw [Nat.zero_add]; exact hc i hi⟩, h1, h2⟩
  · obtain rfl : n = 0 := by omega
    obtain ⟨a, c, rfl, h0, _⟩ := h.len
    exact .inl ⟨rfl, a, c, rfl, fun e => (h0 e).2⟩
theorem OwnB.grown {base : Nat} {w w' : World} {v : Value} {n : Nat} {x : Nat → Nat} {row : Option Nat} (h : OwnB base w v n x) (hg : w.grownBy w' row) (hne : v.ownBlock = none ∨ v.ownBlock ≠ row) : OwnB base w' v n x := ⟨h.own.kept hg hne, h.lt⟩
theorem OwnB.alloc {base : Nat} {w : World} {v : Value} {n : Nat} {x : Nat → Nat} (h : OwnB base w v n x) (o : Obj) : OwnB base (w.alloc o) v n x := ⟨h.own.alloc o, h.lt⟩
theorem OwnB.drew {base : Nat} {w : World} {v : Value} {n : Nat} {x : Nat → Nat} (h : OwnB base w v n x) : OwnB base w.drew v n x := ⟨h.own.drew, h.lt⟩
theorem OwnB.mono {base b' : Nat} {w : World} {v : Value} {n : Nat} {x : Nat → Nat} (h : OwnB base w v n x) (hb : b' ≤ base) : OwnB b' w v n x := by
  refine ⟨⟨h.own.1, ?_⟩, h.lt⟩
  rcases h.own.2 with e | ⟨g, cap, cur, e, hb', r⟩
  · exact .inl e
  · exact .inr ⟨g, cap, cur, e, by omega, r⟩
theorem OwnB.up {base : Nat} {w w' : World} {v : Value} {n : Nat} {x : Nat → Nat} (h : OwnB base w v n x) (u : Up w w') : OwnB base w' v n x := by
  refine ⟨⟨h.own.1, ?_⟩, h.lt⟩
  rcases h.own.2 with e | ⟨g, cap, cur, e, hb', hg, r⟩
  · exact .inl e
  · exact .inr ⟨g, cap, cur, e, hb', by rw [u.block g (lt_of_block hg)]; exact hg, r⟩
theorem OwnB.congr {base : Nat} {w : World} {v : Value} {n : Nat} {x y : Nat → Nat} (h : OwnB base w v n x) (e : ∀ i, i < n → x i = y i) : OwnB base w v n y :=
  ⟨by rw [← bl_congr n x y e]; exact h.own, fun i hi => by rw [← e i hi]; exact h.lt i hi⟩
theorem OwnB.stored {base g n cap : Nat} {w : World} {x : Nat → Nat} (h : OwnB base w (.slice (some ⟨g, 0, none⟩) n cap) n x) (j c : Nat) (hc : c < 256) :
    OwnB base (w.setCell ⟨g, j, none⟩ (.int .u8 (c : Int))) (.slice (some ⟨g, 0, none⟩) n cap) n (set x j c) :=
  ⟨by rw [← bl_set]; exact (h.own.stored j _).1, fun i hi => by unfold set; split; exact hc; exact h.lt i hi⟩
theorem ByRow.cells {w : World} {v : Value} {n : Nat} {x : Nat → Nat} (h : ByRow w v n x) (hn : 0 < n) : ∃ b off cap, v = .slice (some ⟨b, off, none⟩) n cap ∧ (∀ i, i < n → x i < 256 ∧ w.cell? ⟨b, off + i, none⟩ = some (.int .u8 (x i : Int))) ∧ n ≤ cap ∧ cap ≤ maxLen := by
  rcases h with ⟨h0, _⟩ | ⟨_, _, b, off, cap, hv, hc, h1, h2⟩
  · omega
  · exact ⟨b, off, cap, hv, hc, h1, h2⟩
theorem ByRow.lt {w : World} {v : Value} {n : Nat} {x : Nat → Nat} (h : ByRow w v n x) : ∀ i, i < n → x i < 256 := by
  rcases h with ⟨h0, _⟩ | ⟨_, _, b, off, cap, hv, hc, _⟩
  · intro i hi; omega
  · exact fun i hi => (hc i hi).1
theorem ByRow.max {w : World} {v : Value} {n : Nat} {x : Nat → Nat} (h : ByRow w v n x) : n ≤ maxLen := by
  rcases h with ⟨h0, _⟩ | ⟨_, hm, _⟩
  · rw [h0]; exact Nat.zero_le _
  · exact hm
/-- Old memory is as it was, but for the row of v; the new value's row is v's, or new. -/
structure Grew (w : World) (v : Value) (w' : World) (v' : Value) : Prop where
  by_ : w.grownBy w' v.ownBlock
  row : v'.ownBlock = v.ownBlock ∨ ∀ k, v'.ownBlock = some k → w.heap.size ≤ k
theorem Grew.refl (w : World) (v : Value) : Grew w v w v := ⟨World.grownBy.refl _ _, .inl rfl⟩
theorem Grew.trans {w w1 w2 : World} {v v1 v2 : Value} (h : Grew w v w1 v1) (k : Grew w1 v1 w2 v2) : Grew w v w2 v2 := by
  have hs := h.by_.size
  refine ⟨⟨k.by_.os.trans h.by_.os, k.by_.tape.trans h.by_.tape, k.by_.output.trans h.by_.output, Nat.le_trans hs k.by_.size, fun i hi hne => ?_⟩, ?_⟩
  · refine (k.by_.block i (by omega) ?_).trans (h.by_.block i hi hne)
    rcases h.row with e | e
    · rw [e]; exact hne
    · intro e2; have := e i e2.symm; omega
  · rcases k.row with e | e
    · rw [e]
      exact h.row
    · exact .inr (fun i hi => by have := e i hi; omega)
theorem Grew.alloc {w w1 : World} {v v1 : Value} (h : Grew w v w1 v1) (o : Obj) : Grew w v (w1.alloc o) v1 :=
  h.trans ⟨World.grownBy_alloc w1 o _, .inl rfl⟩
theorem Grew.below {base : Nat} {w w' : World} {v v' : Value} {n : Nat} {x : Nat → Nat} (h : Grew w v w' v') (ho : OwnB base w v n x) (hb : base ≤ w.heap.size) : Below base w w' :=
  Below.grown (Below.refl _ _) h.by_ hb (fun k hk => (ho.own.lt k hk).1)
theorem ByRow.grown {w w' : World} {v : Value} {n : Nat} {x : Nat → Nat} {row : Option Nat} (h : ByRow w v n x) (g : w.grownBy w' row) (hne : n = 0 ∨ v.ownBlock ≠ row) : ByRow w' v n x := by
  rcases h with h | ⟨hn, hm, b, off, cap, rfl, hc, hcp⟩
  · exact .inl h
  · refine .inr ⟨hn, hm, b, off, cap, rfl, fun i hi => ⟨(hc i hi).1, g.cell (hc i hi).2 ?_⟩, hcp⟩
    rcases hne with e | e
    · omega
    · exact e
/-- 'append(s, x...)' of bytes, s the call's own (or nil), x any row of bytes. -/
theorem wp_app {ops : Array Oper} {rest : List Oper} {o : Oper} {a : Act} {Q : Exit → Act → World → Prop} {w : World} (hgd : o.guard = none) (s x : Operand)
    (ho : o.op = .call { callee := .builtin .append, args := #[s, x], argTypes := #[26, 26] }) (base : Nat) (v u : Value) (n m : Nat) (X Y : Nat → Nat)
    (hs : a.eval s = v) (hx : a.eval x = u) (hown : OwnB base w v n X) (hrow : ByRow w u m Y) (hb : n + m ≤ 140737488355328) (hbase : base ≤ w.heap.size)
    (h : ∀ v' w', OwnB base w' v' (n + m) (cat n X Y) → Grew w v w' v' → Below base w w' → wpList Try.prog ops Q rest (a.put o.dst v') w') : wpList Try.prog ops Q (o :: rest) a w := by
  obtain ⟨i0, hi, hz0, hz1, hz2⟩ := info_parts infoByte
  have bel : ∀ w', w.grownBy w' v.ownBlock → Below base w w' := fun w' hg => Below.grown (Below.refl _ _) hg hbase (fun k hk => (hown.own.lt k hk).1)
  have lt : ∀ i, i < n + m → cat n X Y i < 256 := by
    intro i hi; unfold cat; split
    · exact hown.lt i ‹_›
    · exact hrow.lt _ (by omega)
  have one : ∀ (ad : Addr) (c : Nat), u = .slice (some ad) m c → (∀ j, j < m → w.cell? (ad.add j) = some (.int .u8 (Y j : Int))) → wpList Try.prog ops Q (o :: rest) a w := by
    intro ad c hu hc
    have news : ∀ j t, (bl m Y)[j]? = some t → w.cell? (ad.add j) = some t := by
      intro j t hj
      by_cases hjm : j < m
      · rw [bl_get _ _ _ hjm] at hj; cases hj; exact hc j hjm
      · rw [bl_get_ge _ _ _ (by omega)] at hj; cases hj
    obtain ⟨ao, cap, hv, hnone, hsome⟩ := hown.len
    by_cases hfit : n + m ≤ cap
    · cases ao with
      | none =>
        obtain ⟨rfl, rfl⟩ := hnone rfl
        obtain rfl : m = 0 := by omega
        refine wpList_append_own w hgd s x 26 ho base 5 i0 (.int .u8 0) 1 1 Try.underlying26 hi hz0 hz1 hz2 rfl (by decide) v 0 (bl 0 X) hs hown.own ad 0 c (bl 0 Y) (hx.trans hu) rfl news (bl_one _ _) (by unfold maxLen; omega) (by omega) hbase ?_
        intro v' w' h1 h2 h3
        have e : v' = .slice none 0 0 := h3.2 ⟨hv, rfl⟩
        rw [bl_cat] at h1
        exact h v' w' ⟨h1, lt⟩ ⟨h2, .inl (by rw [e, hv])⟩ (bel w' h2)
      | some ad0 =>
        obtain ⟨e1, e2, e3, e4⟩ := hsome ad0 rfl
        obtain ⟨g, o0, sp⟩ := ad0
        obtain rfl : o0 = 0 := e1
        obtain rfl : sp = none := e2
        have hown2 := hown.own
        rw [hv] at hown2
        refine wpList_append_fits w hgd s x 26 ho base 5 i0 1 Try.underlying26 hi hz1 g n cap (bl n X) (hs.trans hv) hown2 ad m c (bl m Y) (hx.trans hu) (by rw [bl_len]; omega) news (bl_one _ _) hfit ?_
        intro w' h1 h2
        rw [bl_cat] at h1
        have h2' : w.grownBy w' v.ownBlock := by rw [hv]; exact h2
        exact h _ w' ⟨h1, lt⟩ ⟨h2', .inl (by rw [hv]; rfl)⟩ (bel w' h2')
    · refine wpList_append_grows w hgd s x 26 ho 5 i0 (.int .u8 0) 1 1 Try.underlying26 hi hz0 hz1 hz2 rfl (by decide) ao n cap (bl n X) (hs.trans hv) hnone (by rw [bl_len]; omega) ?_ ad m c (bl m Y) (hx.trans hu) (by rw [bl_len]; omega) news (bl_one _ _) (by omega) (by unfold maxLen; omega) (by omega) ?_
      · intro b hb' j t hj
        obtain ⟨e1, e2, e3, e4⟩ := hsome b hb'
        obtain ⟨g, o0, sp⟩ := b
        obtain rfl : o0 = 0 := e1
        obtain rfl : sp = none := e2
        exact hown.own.cells (g := g) (by rw [hv, hb']; rfl) j t hj
      · intro v' w' h1 h2
        rw [bl_cat] at h1
        have h2' : w.grownBy w' v.ownBlock := ⟨h2.os, h2.tape, h2.output, h2.size, fun k hk _ => h2.block k hk (by simp)⟩
        have ob : OwnB w.heap.size w' v' (n + m) (cat n X Y) := ⟨h1, lt⟩
        exact h v' w' (ob.mono hbase) ⟨h2', .inr (fun k hk => (h1.lt k hk).1)⟩ (bel w' h2')
  rcases hrow with ⟨rfl, ad, c, rfl, hz⟩ | ⟨hm, hmx, b, off, cap, rfl, hc, _⟩
  · cases ad with
    | none =>
      obtain rfl := hz rfl
      refine wpList_append_own_none hgd s x 26 ho base 5 i0 1 Try.underlying26 hi v n (bl n X) hs hown.own hx ?_
      exact h v w ⟨by rw [← bl_cat]; simpa [bl] using hown.own, lt⟩ (Grew.refl _ _) (Below.refl _ _)
    | some ad => exact one ad c rfl (fun j hj => by omega)
  · exact one ⟨b, off, none⟩ cap rfl (fun j hj => by rw [Go.WideShapes.add_plain]; exact (hc j hj).2)
/-- What 'append([]byte{}, x...)' has made. -/
theorem app_copy {base : Nat} {w : World} {v : Value} {n : Nat} {z x : Nat → Nat} (h : OwnB base w v (0 + n) (cat 0 z x)) (hn : 0 < n) :
    ∃ g cap, v = .slice (some ⟨g, 0, none⟩) n cap ∧ base ≤ g ∧ g < w.heap.size ∧ OwnB base w (.slice (some ⟨g, 0, none⟩) n cap) n x ∧ (∀ i, i < n → w.cell? ⟨g, i, none⟩ = some (.int .u8 (x i : Int))) ∧ (∀ i, w.frozen? ⟨g, i, none⟩ = false) := by
  rw [Nat.zero_add] at h
  have h2 : OwnB base w v n x := h.congr (fun i _ => by simp [cat])
  obtain ⟨g, cap, rfl, hb, hl, _, _, hc, hf⟩ := h2.shape hn
  exact ⟨g, cap, rfl, hb, hl, h2, hc, hf⟩
end Go.Proofs.Ytejeihbcakojeaa.Pk
namespace Go.Proofs.Ytejeihbcakojeaa.Pk
set_option maxRecDepth 20000
open Go.RowKit
/-- The four bytes of a word, the least first. -/
def wd (u : Nat) : Nat → Nat := fun i => u / 256 ^ i % 256
/-- The word of four bytes. -/
def w32 (y : Nat → Nat) : Nat := y 0 + y 1 * 256 + y 2 * 65536 + y 3 * 16777216
theorem w32_wd (u : Nat) (h : u < 4294967296) : w32 (wd u) = u := by unfold w32 wd; simp; omega
theorem w32_lt (y : Nat → Nat) (h : ∀ i, i < 4 → y i < 256) : w32 y < 4294967296 := by
  have := h 0 (by omega); have := h 1 (by omega); have := h 2 (by omega); have := h 3 (by omega)
  unfold w32; omega
theorem or_word (a b c d : Nat) (ha : a < 256) (hb : b < 256) (hc : c < 256) (_hd : d < 256) : a ||| b * 256 ||| c * 65536 ||| d * 16777216 = a + b * 256 + c * 65536 + d * 16777216 := by
  rw [Nat.or_comm a, nat_join 8 (b * 256) a (by omega) (by omega)]
  rw [Nat.or_comm (b * 256 + a), nat_join 16 (c * 65536) _ (by omega) (by omega)]
  rw [Nat.or_comm (c * 65536 + _), nat_join 24 (d * 16777216) _ (by omega) (by omega)]
  omega
set_option maxHeartbeats 400000 in
set_option maxRecDepth 20000 in
theorem sameBytes_some (b1 o1 c1 b2 o2 c2 n : Nat) (x : Nat → Nat) (hm : n ≤ maxLen) (w : World) (hx : ∀ i, i < n → w.cell? ⟨b1, o1 + i, none⟩ = some (.int .u8 (x i : Int))) (hy : ∀ i, i < n → w.cell? ⟨b2, o2 + i, none⟩ = some (.int .u8 (x i : Int))) :
    Calls Try.prog 10 #[.slice (some ⟨b1, o1, none⟩) n c1, .slice (some ⟨b2, o2, none⟩) n c2] w fun e w' => e = .returned (.bool true) ∧ ∃ m, w' = w.drewN m := by
  unfold maxLen at hm
  have HX := hid hx
  have HY := hid hy
  clear hx hy
  go_enter Try.func10, Try.ntmps10
  go_wp2
  go_loopw [5] (fun i wx => ∃ k m : Nat, k ≤ n ∧ i = .int .i64 k ∧ wx = w.drewN m) (fun i _ => n - (intOf i).toNat)
  case atStart => exact ⟨0, 0, Nat.zero_le _, rfl, rfl⟩
  case round =>
    obtain ⟨k, m, hk, rfl, rfl⟩ := hrel
    by_cases hlt : k < n
    · have cx := HX.out k hlt
      have cy := HY.out k hlt
      have l1 : (0 : Int) ≤ (k : Int) := by omega
      have l2 : (k : Int) < (n : Int) := by omega
      have t : ((x k : Int) != (x k : Int)) = false := by simp
      go_wp2
      go_quiet (fail)
      go_wp2
      exact ⟨⟨k + 1, _, hlt, by go_num, rfl⟩, by simp [intOf]; omega⟩
    · go_wp2
      go_ret
      exact ⟨rfl, m, rfl⟩
set_option maxHeartbeats 400000 in
set_option maxRecDepth 20000 in
theorem sameBytes_none (a b : Option Addr) (c d : Nat) (w : World) :
    Calls Try.prog 10 #[.slice a 0 c, .slice b 0 d] w fun e w' => e = .returned (.bool true) ∧ ∃ m, w' = w.drewN m := by
  go_enter Try.func10, Try.ntmps10
  go_wp2
  refine wp_loop_rounds 1 ?_
  rw [rounds_succ]
  go_wp2
  go_ret
  exact ⟨rfl, 0, rfl⟩
set_option maxHeartbeats 400000 in
set_option maxRecDepth 20000 in
theorem sameBytes_eq (u v : Value) (n : Nat) (x y : Nat → Nat) (w : World) (hu : ByRow w u n x) (hv : ByRow w v n y) (he : ∀ i, i < n → x i = y i) :
    Calls Try.prog 10 #[u, v] w fun e w' => e = .returned (.bool true) ∧ ∃ m, w' = w.drewN m := by
  rcases hu with ⟨rfl, a, c, rfl, _⟩ | ⟨hn, hm, b, off, cap, rfl, hc, _⟩
  · rcases hv with ⟨_, b, d, rfl, _⟩ | ⟨hn, _⟩
    · exact sameBytes_none a b c d w
    · omega
  · rcases hv with ⟨h0, _⟩ | ⟨_, _, b2, off2, cap2, rfl, hc2, _⟩
    · omega
    · exact sameBytes_some _ _ _ _ _ _ _ x hm w (fun i hi => (hc i hi).2) (fun i hi => by rw [he i hi]; exact (hc2 i hi).2)

end Go.Proofs.Ytejeihbcakojeaa.Pk
