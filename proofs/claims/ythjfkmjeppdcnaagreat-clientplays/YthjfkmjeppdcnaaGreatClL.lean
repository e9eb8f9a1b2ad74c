/- A row of bytes in memory, read as an argument; a world that has grown: nothing old has turned; no condition. -/
import Derived.Test.YthjfkmjeppdcnaaGreatRows
import Derived.WalkKit
import Derived.WalkSpells
import Derived.WalkLawsBesides
import Derived.ProofKit
import Derived.OpenShut
import Derived.Laws.BitsAllLaws
import Derived.Deep.RegionWith
import Derived.Laws.AppendOwnNone
import Derived.OneCell
import Derived.ArgAppend
import Derived.Deep.QuietTactic
import Derived.BigQuiet
import Derived.Deep.Draws
import Derived.PlainAid
namespace Go.Proofs.YthjfkmjeppdcnaaGreat.Pk
set_option linter.unusedSimpArgs false
set_option maxRecDepth 20000
open Go.ChangeShapes Go.WideShapes Go.RowKit
theorem ret_i {k : IntKind} {a b : Int} (h : a = b) : Ending.returned (.int k a) = .returned (.int k b) := by rw [h]
theorem ret_b {a b : Bool} (h : a = b) : Ending.returned (.bool a) = .returned (.bool b) := by rw [h]
theorem hid {p : Prop} (h : p) : Hid p := h
def intOf : Value → Int | .int _ q => q | _ => 0
def Up (w w' : World) : Prop := Below w.heap.size w w'
theorem Up.refl (w : World) : Up w w := Below.refl _ _
theorem Up.trans {a b c : World} (h : Up a b) (k : Up b c) : Up a c := Below.trans h (Below.mono k h.size)
theorem Up.drew {a w : World} (h : Up a w) : Up a w.drew := Below.drew h
theorem Up.drewN {a w : World} (h : Up a w) (n : Nat) : Up a (w.drewN n) := below_drewN h n
theorem Up.alloc {a w : World} (h : Up a w) (o : Obj) : Up a (w.alloc o) := Below.alloc h h.size o
theorem Up.setCell {a w : World} (h : Up a w) {p : Addr} (hp : a.heap.size ≤ p.block) (u : Value) : Up a (w.setCell p u) := Below.setCell h hp u
theorem Up.keep {W w' : World} (h : Up W w') {p : Addr} {v : Value} (hc : W.cell? p = some v) : w'.cell? p = some v := by
 rw [Below.cell (p := p) h (World.block_lt_of_cell? W p hc)]; exact hc
theorem heap_new (w : World) (o : Obj) : (w.alloc o).heap[w.heap.size]? = some o := by
 show (w.heap.push o)[w.heap.size]? = _
 simp
theorem cell_new (w : World) (C : Array Value) (e : TypeId) (fr : Nat × Nat) (i : Nat) (v : Value) (h : C[i]? = some v) : (w.alloc (.cells C e fr)).cell? ⟨w.heap.size, i, none⟩ = some v := by
 simp only [World.cell?, heap_new]
 exact h
def ByRow (w : World) (v : Value) (n : Nat) (x : Nat → Nat) : Prop :=
 (n = 0 ∧ ∃ a c, v = .slice a 0 c ∧ (a = none → c = 0)) ∨ (0 < n ∧ n ≤ maxLen ∧ ∃ b off cap, v = .slice (some ⟨b, off, none⟩) n cap ∧ (∀ i, i < n → x i < 256 ∧ w.cell? ⟨b, off + i, none⟩ = some (.int .u8 (x i : Int))) ∧ n ≤ cap ∧ cap ≤ maxLen)
theorem ByRow.up {w w' : World} {v : Value} {n : Nat} {x : Nat → Nat} (h : ByRow w v n x) (u : Up w w') : ByRow w' v n x := by
 rcases h with h | ⟨hn, hm, b, off, cap, hv, hc, hcp⟩
 ·exact .inl h
 ·exact .inr ⟨hn, hm, b, off, cap, hv, fun i hi => ⟨(hc i hi).1, u.keep (hc i hi).2⟩, hcp⟩
theorem cellsByte : Tryz.prog.cellsOf 5 = 1 := by kernel_rfl
theorem open_bytes {H : Type} {enc : TypeId × Value → H} {w : World} {base : Nat} {v : Value} {d : DataW H} {ps : List MemPlace} (hv : Value.okWide Tryz.prog w .any base 34 v) (h : DataW.Trod enc Tryz.prog w 0 (fun _ => true) true 34 v d ps) :
    ∃ (n : Nat) (x : Nat → Nat), ByRow w v n x := by
 obtain ⟨a0, len0, cap0, rfl⟩ := okWide_slice Tryz.underlying34 hv
 obtain ⟨fuel, hf⟩ := h
 rcases DataW.trod_slice Tryz.underlying34 hf with ⟨hcs, _⟩ | ⟨a, len, cap, elems, rest, m, _, hcs, _, hb, hl, hm, hlen, hel, _, _⟩
 ·simp [Value.cells] at hcs
  obtain ⟨rfl, rfl, rfl⟩ := hcs
  exact ⟨0, fun _ => 0, .inl ⟨rfl, none, 0, rfl, fun _ => rfl⟩⟩
 ·simp [Value.cells] at hcs
  obtain ⟨ha, hln, hcp⟩ := hcs
  rw [ha, hln, hcp]
  clear ha hln hcp hf hv a0 len0 cap0
  by_cases hz : len = 0
  ·subst hz; exact ⟨0, fun _ => 0, .inl ⟨rfl, _, _, rfl, fun h => by cases h⟩⟩
  ·have each : ∀ i, i < len → ∃ n : Int, w.cell? (a.add i) = some (.int .u8 n) ∧ 0 ≤ n ∧ n < 256 := by
     intro i hi
     have h1 := hel i hi
     have h2 : elems[i]? = some (elems[i]'(by omega)) := List.getElem?_eq_getElem (by omega)
     rw [h2, cellsByte, Nat.mul_one, Option.bind_eq_some_iff] at h1
     obtain ⟨cs', hcs, hy'⟩ := h1
     obtain ⟨n, rfl, _, hw⟩ := DataW.trod_int Tryz.underlying5 hy'
     exact ⟨n, cell_of_cells?_one hcs, by simp [Lit.wf, IntKind.min, IntKind.max, IntKind.bits, IntKind.signed] at hw; omega⟩
   obtain ⟨b, off, spot⟩ := a
   obtain ⟨n0, h0, _⟩ := each 0 (by omega)
   have hspot : spot = none := by simpa [Addr.add] using World.cell?_spot h0
   subst hspot
   refine ⟨len, fun i => match w.cell? ⟨b, off + i, none⟩ with | some (.int _ n) => n.toNat | _ => 0, .inr ⟨by omega, by omega, b, off, cap, rfl, fun i hi => ?_, hl, hm⟩⟩
   obtain ⟨n, hn, hw⟩ := each i hi
   rw [Go.WideShapes.add_plain] at hn
   simp only [hn]
   exact ⟨by omega, by rw [Int.toNat_of_nonneg hw.1]⟩
end Go.Proofs.YthjfkmjeppdcnaaGreat.Pk
namespace Go.Proofs.YthjfkmjeppdcnaaGreat.Pk
set_option maxRecDepth 20000
open Go.RowKit
def bl (n : Nat) (x : Nat → Nat) : List Value := (List.range n).map fun i => Value.int .u8 (x i : Int)
def cat (n : Nat) (x y : Nat → Nat) : Nat → Nat := fun i => if i < n then x i else y (i - n)
def set (x : Nat → Nat) (j c : Nat) : Nat → Nat := fun i => if i = j then c else x i
theorem set_back (x : Nat → Nat) (j c : Nat) : set (set x j c) j (x j) = x := by
 funext i; unfold set; by_cases h : i = j <;> simp [h]
theorem bl_len (n : Nat) (x : Nat → Nat) : (bl n x).length = n := by simp [bl]
theorem bl_get (n : Nat) (x : Nat → Nat) (i : Nat) (h : i < n) : (bl n x)[i]? = some (.int .u8 (x i : Int)) := by simp [bl, h]
theorem bl_get_ge (n : Nat) (x : Nat → Nat) (i : Nat) (h : n ≤ i) : (bl n x)[i]? = none := List.getElem?_eq_none (by rw [bl_len]; exact h)
theorem bl_cat (n m : Nat) (x y : Nat → Nat) : bl n x ++ bl m y = bl (n + m) (cat n x y) := by
 apply List.ext_getElem?
 intro i
 by_cases h : i < n
 ·rw [List.getElem?_append_left (by rw [bl_len]; exact h), bl_get _ _ _ h, bl_get _ _ _ (by omega)]; simp [cat, h]
 ·rw [List.getElem?_append_right (by rw [bl_len]; omega), bl_len]
  by_cases k : i < n + m
  ·rw [bl_get _ _ _ (by omega), bl_get _ _ _ k]; simp [cat, h]
  ·rw [bl_get_ge _ _ _ (by omega), bl_get_ge _ _ _ (by omega)]
theorem bl_set (n : Nat) (x : Nat → Nat) (j c : Nat) : (bl n x).set j (.int .u8 (c : Int)) = bl n (set x j c) := by
 apply List.ext_getElem?
 intro i
 by_cases h : i < n
 ·rw [bl_get _ _ _ h, List.getElem?_set]
  by_cases e : j = i
  ·subst e; simp [set, bl_len, h]
  ·rw [if_neg e, bl_get _ _ _ h]; simp [set, Ne.symm e]
 ·rw [bl_get_ge _ _ _ (by omega)]
  exact List.getElem?_eq_none (by rw [List.length_set, bl_len]; omega)
theorem bl_one (n : Nat) (x : Nat → Nat) : ∀ u ∈ bl n x, u.oneCell' = true := by
 intro u hu
 simp only [bl, List.mem_map, List.mem_range] at hu
 obtain ⟨i, _, rfl⟩ := hu
 rfl
theorem bl_congr (n : Nat) (x y : Nat → Nat) (h : ∀ i, i < n → x i = y i) : bl n x = bl n y := by
 unfold bl
 apply List.map_congr_left
 intro i hi
 rw [h i (by simpa using hi)]
theorem infoByte : (Tryz.prog.info? 5).map (fun i => (i.zero, i.size, i.bytes)) = some (some (.int .u8 0), 1, 1) := by kernel_rfl
structure OwnB (base : Nat) (w : World) (v : Value) (n : Nat) (x : Nat → Nat) : Prop where
 own : w.ownsRow base 5 1 v n (bl n x)
 lt : ∀ i, i < n → x i < 256
theorem OwnB.nil (base : Nat) (w : World) (x : Nat → Nat) : OwnB base w (.slice none 0 0) 0 x := ⟨World.ownsRow_nil _ _ _ _, fun _ h => by omega⟩
theorem OwnB.empty {base g : Nat} {w : World} {x : Nat → Nat} (hb : base ≤ w.heap.size) (hg : w.heap.size = g) : OwnB base (w.alloc (.cells #[] 5)) (.slice (some ⟨g, 0, none⟩) 0 0) 0 x := by
 subst hg
 exact ⟨World.ownsRow_made w #[] 0 hb (by unfold maxLen; omega) rfl, fun _ h => by omega⟩
theorem OwnB.shape {base : Nat} {w : World} {v : Value} {n : Nat} {x : Nat → Nat} (h : OwnB base w v n x) (hn : 0 < n) :
    ∃ g cap, v = .slice (some ⟨g, 0, none⟩) n cap ∧ base ≤ g ∧ g < w.heap.size ∧ n ≤ cap ∧ cap ≤ maxLen ∧ (∀ i, i < n → w.cell? ⟨g, i, none⟩ = some (.int .u8 (x i : Int))) ∧ (∀ i, w.frozen? ⟨g, i, none⟩ = false) := by
 have h2 := h.own
 rcases h2.2 with ⟨_, e⟩ | ⟨g, cap, cur, rfl, hb, hg, hnc, hcm, hcs, htk⟩
 ·omega
 ·refine ⟨g, cap, rfl, hb, lt_of_block hg, hnc, hcm, fun i hi => ?_, h2.frozenAt⟩
  rw [h2.cellAt i (by omega), bl_get _ _ _ hi]
theorem OwnB.len {base : Nat} {w : World} {v : Value} {n : Nat} {x : Nat → Nat} (h : OwnB base w v n x) : ∃ a c, v = .slice a n c ∧ (a = none → n = 0 ∧ c = 0) ∧ (∀ ad, a = some ad → ad.off = 0 ∧ ad.spot = none ∧ base ≤ ad.block ∧ ad.block < w.heap.size) := by
 rcases h.own.2 with ⟨rfl, rfl⟩ | ⟨g, cap, cur, rfl, hb, hg, _⟩
 ·exact ⟨none, 0, rfl, fun _ => ⟨rfl, rfl⟩, fun _ e => by cases e⟩
 ·exact ⟨_, cap, rfl, fun e => by (cases e), fun ad e => by cases e; exact ⟨rfl, rfl, hb, lt_of_block hg⟩⟩
theorem OwnB.row {base : Nat} {w : World} {v : Value} {n : Nat} {x : Nat → Nat} (h : OwnB base w v n x) : ByRow w v n x := by
 by_cases hn : 0 < n
 ·obtain ⟨g, cap, rfl, _, _, h1, h2, hc, _⟩ := h.shape hn
  exact .inr ⟨hn, by omega, g, 0, cap, rfl, fun i hi => ⟨h.lt i hi, by rw [Nat.zero_add]; exact hc i hi⟩, h1, h2⟩
 ·obtain rfl : n = 0 := by omega
  obtain ⟨a, c, rfl, h0, _⟩ := h.len
  exact .inl ⟨rfl, a, c, rfl, fun e => (h0 e).2⟩
theorem OwnB.grown {base : Nat} {w w' : World} {v : Value} {n : Nat} {x : Nat → Nat} {row : Option Nat} (h : OwnB base w v n x) (hg : w.grownBy w' row) (hne : v.ownBlock = none ∨ v.ownBlock ≠ row) : OwnB base w' v n x := ⟨h.own.kept hg hne, h.lt⟩
theorem OwnB.alloc {base : Nat} {w : World} {v : Value} {n : Nat} {x : Nat → Nat} (h : OwnB base w v n x) (o : Obj) : OwnB base (w.alloc o) v n x := ⟨h.own.alloc o, h.lt⟩
theorem OwnB.drew {base : Nat} {w : World} {v : Value} {n : Nat} {x : Nat → Nat} (h : OwnB base w v n x) : OwnB base w.drew v n x := ⟨h.own.drew, h.lt⟩
theorem OwnB.mono {base b' : Nat} {w : World} {v : Value} {n : Nat} {x : Nat → Nat} (h : OwnB base w v n x) (hb : b' ≤ base) : OwnB b' w v n x := by
 refine ⟨⟨h.own.1, ?_⟩, h.lt⟩
 rcases h.own.2 with e | ⟨g, cap, cur, e, hb', r⟩
 ·exact .inl e
 ·exact .inr ⟨g, cap, cur, e, by omega, r⟩
theorem OwnB.up {base : Nat} {w w' : World} {v : Value} {n : Nat} {x : Nat → Nat} (h : OwnB base w v n x) (u : Up w w') : OwnB base w' v n x := by
 refine ⟨⟨h.own.1, ?_⟩, h.lt⟩
 rcases h.own.2 with e | ⟨g, cap, cur, e, hb', hg, r⟩
 ·exact .inl e
 ·exact .inr ⟨g, cap, cur, e, hb', by rw [u.block g (lt_of_block hg)]; exact hg, r⟩
theorem OwnB.congr {base : Nat} {w : World} {v : Value} {n : Nat} {x y : Nat → Nat} (h : OwnB base w v n x) (e : ∀ i, i < n → x i = y i) : OwnB base w v n y :=
 ⟨by rw [← bl_congr n x y e]; exact h.own, fun i hi => by rw [← e i hi]; exact h.lt i hi⟩
theorem OwnB.stored {base g n cap : Nat} {w : World} {x : Nat → Nat} (h : OwnB base w (.slice (some ⟨g, 0, none⟩) n cap) n x) (j c : Nat) (hc : c < 256) :
    OwnB base (w.setCell ⟨g, j, none⟩ (.int .u8 (c : Int))) (.slice (some ⟨g, 0, none⟩) n cap) n (set x j c) :=
 ⟨by rw [← bl_set]; exact (h.own.stored j _).1, fun i hi => by unfold set; split; exact hc; exact h.lt i hi⟩
theorem ByRow.cells {w : World} {v : Value} {n : Nat} {x : Nat → Nat} (h : ByRow w v n x) (hn : 0 < n) : ∃ b off cap, v = .slice (some ⟨b, off, none⟩) n cap ∧ (∀ i, i < n → x i < 256 ∧ w.cell? ⟨b, off + i, none⟩ = some (.int .u8 (x i : Int))) ∧ n ≤ cap ∧ cap ≤ maxLen := by
 rcases h with ⟨h0, _⟩ | ⟨_, _, b, off, cap, hv, hc, h1, h2⟩
 ·omega
 ·exact ⟨b, off, cap, hv, hc, h1, h2⟩
theorem ByRow.lt {w : World} {v : Value} {n : Nat} {x : Nat → Nat} (h : ByRow w v n x) : ∀ i, i < n → x i < 256 := by
 rcases h with ⟨h0, _⟩ | ⟨_, _, b, off, cap, hv, hc, _⟩
 ·intro i hi; omega
 ·exact fun i hi => (hc i hi).1
theorem ByRow.max {w : World} {v : Value} {n : Nat} {x : Nat → Nat} (h : ByRow w v n x) : n ≤ maxLen := by
 rcases h with ⟨h0, _⟩ | ⟨_, hm, _⟩
 ·rw [h0]; exact Nat.zero_le _
 ·exact hm
structure Grew (w : World) (v : Value) (w' : World) (v' : Value) : Prop where
 by_ : w.grownBy w' v.ownBlock
 row : v'.ownBlock = v.ownBlock ∨ ∀ k, v'.ownBlock = some k → w.heap.size ≤ k
theorem Grew.refl (w : World) (v : Value) : Grew w v w v := ⟨World.grownBy.refl _ _, .inl rfl⟩
theorem Grew.trans {w w1 w2 : World} {v v1 v2 : Value} (h : Grew w v w1 v1) (k : Grew w1 v1 w2 v2) : Grew w v w2 v2 := by
 have hs := h.by_.size
 refine ⟨⟨k.by_.os.trans h.by_.os, k.by_.tape.trans h.by_.tape, k.by_.output.trans h.by_.output, Nat.le_trans hs k.by_.size, fun i hi hne => ?_⟩, ?_⟩
 ·refine (k.by_.block i (by omega) ?_).trans (h.by_.block i hi hne)
  rcases h.row with e | e
  ·rw [e]; exact hne
  ·intro e2; have := e i e2.symm; omega
 ·rcases k.row with e | e
  ·rw [e]
   exact h.row
  ·exact .inr (fun i hi => by have := e i hi; omega)
theorem Grew.alloc {w w1 : World} {v v1 : Value} (h : Grew w v w1 v1) (o : Obj) : Grew w v (w1.alloc o) v1 :=
 h.trans ⟨World.grownBy_alloc w1 o _, .inl rfl⟩
theorem Grew.below {base : Nat} {w w' : World} {v v' : Value} {n : Nat} {x : Nat → Nat} (h : Grew w v w' v') (ho : OwnB base w v n x) (hb : base ≤ w.heap.size) : Below base w w' :=
 Below.grown (Below.refl _ _) h.by_ hb (fun k hk => (ho.own.lt k hk).1)
theorem ByRow.grown {w w' : World} {v : Value} {n : Nat} {x : Nat → Nat} {row : Option Nat} (h : ByRow w v n x) (g : w.grownBy w' row) (hne : n = 0 ∨ v.ownBlock ≠ row) : ByRow w' v n x := by
 rcases h with h | ⟨hn, hm, b, off, cap, rfl, hc, hcp⟩
 ·exact .inl h
 ·refine .inr ⟨hn, hm, b, off, cap, rfl, fun i hi => ⟨(hc i hi).1, g.cell (hc i hi).2 ?_⟩, hcp⟩
  rcases hne with e | e
  ·omega
  ·exact e
theorem wp_app {ops : Array Oper} {rest : List Oper} {o : Oper} {a : Act} {Q : Exit → Act → World → Prop} {w : World} (hgd : o.guard = none) (s x : Operand)
    (ho : o.op = .call { callee := .builtin .append, args := #[s, x], argTypes := #[34, 34] }) (base : Nat) (v u : Value) (n m : Nat) (X Y : Nat → Nat)
    (hs : a.eval s = v) (hx : a.eval x = u) (hown : OwnB base w v n X) (hrow : ByRow w u m Y) (hb : n + m ≤ 140737488355328) (hbase : base ≤ w.heap.size)
    (h : ∀ v' w', OwnB base w' v' (n + m) (cat n X Y) → Grew w v w' v' → Below base w w' → wpList Tryz.prog ops Q rest (a.put o.dst v') w') : wpList Tryz.prog ops Q (o :: rest) a w := by
 obtain ⟨i0, hi, hz0, hz1, hz2⟩ := info_parts infoByte
 have bel : ∀ w', w.grownBy w' v.ownBlock → Below base w w' := fun w' hg => Below.grown (Below.refl _ _) hg hbase (fun k hk => (hown.own.lt k hk).1)
 have lt : ∀ i, i < n + m → cat n X Y i < 256 := by
  intro i hi; unfold cat; split
  ·exact hown.lt i ‹_›
  ·exact hrow.lt _ (by omega)
 have one : ∀ (ad : Addr) (c : Nat), u = .slice (some ad) m c → (∀ j, j < m → w.cell? (ad.add j) = some (.int .u8 (Y j : Int))) → wpList Tryz.prog ops Q (o :: rest) a w := by
  intro ad c hu hc
  have news : ∀ j t, (bl m Y)[j]? = some t → w.cell? (ad.add j) = some t := by
   intro j t hj
   by_cases hjm : j < m
   ·rw [bl_get _ _ _ hjm] at hj; cases hj; exact hc j hjm
   ·rw [bl_get_ge _ _ _ (by omega)] at hj; cases hj
  obtain ⟨ao, cap, hv, hnone, hsome⟩ := hown.len
  by_cases hfit : n + m ≤ cap
  ·cases ao with
   | none =>
    obtain ⟨rfl, rfl⟩ := hnone rfl
    obtain rfl : m = 0 := by omega
    refine wpList_append_own w hgd s x 34 ho base 5 i0 (.int .u8 0) 1 1 Tryz.underlying34 hi hz0 hz1 hz2 rfl (by decide) v 0 (bl 0 X) hs hown.own ad 0 c (bl 0 Y) (hx.trans hu) rfl news (bl_one _ _) (by unfold maxLen; omega) (by omega) hbase ?_
    intro v' w' h1 h2 h3
    have e : v' = .slice none 0 0 := h3.2 ⟨hv, rfl⟩
    rw [bl_cat] at h1
    exact h v' w' ⟨h1, lt⟩ ⟨h2, .inl (by rw [e, hv])⟩ (bel w' h2)
   | some ad0 =>
    obtain ⟨e1, e2, e3, e4⟩ := hsome ad0 rfl
    obtain ⟨g, o0, sp⟩ := ad0
    obtain rfl : o0 = 0 := e1
    obtain rfl : sp = none := e2
    have hown2 := hown.own
    rw [hv] at hown2
    refine wpList_append_fits w hgd s x 34 ho base 5 i0 1 Tryz.underlying34 hi hz1 g n cap (bl n X) (hs.trans hv) hown2 ad m c (bl m Y) (hx.trans hu) (by rw [bl_len]; omega) news (bl_one _ _) hfit ?_
    intro w' h1 h2
    rw [bl_cat] at h1
    have h2' : w.grownBy w' v.ownBlock := by rw [hv]; exact h2
    exact h _ w' ⟨h1, lt⟩ ⟨h2', .inl (by rw [hv]; rfl)⟩ (bel w' h2')
  ·refine wpList_append_grows w hgd s x 34 ho 5 i0 (.int .u8 0) 1 1 Tryz.underlying34 hi hz0 hz1 hz2 rfl (by decide) ao n cap (bl n X) (hs.trans hv) hnone (by rw [bl_len]; omega) ?_ ad m c (bl m Y) (hx.trans hu) (by rw [bl_len]; omega) news (bl_one _ _) (by omega) (by unfold maxLen; omega) (by omega) ?_
   ·intro b hb' j t hj
    obtain ⟨e1, e2, e3, e4⟩ := hsome b hb'
    obtain ⟨g, o0, sp⟩ := b
    obtain rfl : o0 = 0 := e1
    obtain rfl : sp = none := e2
    exact hown.own.cells (g := g) (by rw [hv, hb']; rfl) j t hj
   ·intro v' w' h1 h2
    rw [bl_cat] at h1
    have h2' : w.grownBy w' v.ownBlock := ⟨h2.os, h2.tape, h2.output, h2.size, fun k hk _ => h2.block k hk (by simp)⟩
    have ob : OwnB w.heap.size w' v' (n + m) (cat n X Y) := ⟨h1, lt⟩
    exact h v' w' (ob.mono hbase) ⟨h2', .inr (fun k hk => (h1.lt k hk).1)⟩ (bel w' h2')
 rcases hrow with ⟨rfl, ad, c, rfl, hz⟩ | ⟨hm, hmx, b, off, cap, rfl, hc, _⟩
 ·cases ad with
  | none =>
   obtain rfl := hz rfl
   refine wpList_append_own_none hgd s x 34 ho base 5 i0 1 Tryz.underlying34 hi v n (bl n X) hs hown.own hx ?_
   exact h v w ⟨by rw [← bl_cat]; simpa [bl] using hown.own, lt⟩ (Grew.refl _ _) (Below.refl _ _)
  | some ad => exact one ad c rfl (fun j hj => by omega)
 ·exact one ⟨b, off, none⟩ cap rfl (fun j hj => by rw [Go.WideShapes.add_plain]; exact (hc j hj).2)
theorem app_copy {base : Nat} {w : World} {v : Value} {n : Nat} {z x : Nat → Nat} (h : OwnB base w v (0 + n) (cat 0 z x)) (hn : 0 < n) :
    ∃ g cap, v = .slice (some ⟨g, 0, none⟩) n cap ∧ base ≤ g ∧ g < w.heap.size ∧ OwnB base w (.slice (some ⟨g, 0, none⟩) n cap) n x ∧ (∀ i, i < n → w.cell? ⟨g, i, none⟩ = some (.int .u8 (x i : Int))) ∧ (∀ i, w.frozen? ⟨g, i, none⟩ = false) := by
 rw [Nat.zero_add] at h
 have h2 : OwnB base w v n x := h.congr (fun i _ => by simp [cat])
 obtain ⟨g, cap, rfl, hb, hl, _, _, hc, hf⟩ := h2.shape hn
 exact ⟨g, cap, rfl, hb, hl, h2, hc, hf⟩
end Go.Proofs.YthjfkmjeppdcnaaGreat.Pk
namespace Go.Proofs.YthjfkmjeppdcnaaGreat.Pk
set_option maxRecDepth 20000
open Go.RowKit
def wd (u : Nat) : Nat → Nat := fun i => u / 256 ^ i % 256
def w32 (y : Nat → Nat) : Nat := y 0 + y 1 * 256 + y 2 * 65536 + y 3 * 16777216
theorem w32_wd (u : Nat) (h : u < 4294967296) : w32 (wd u) = u := by unfold w32 wd; simp; omega
theorem w32_lt (y : Nat → Nat) (h : ∀ i, i < 4 → y i < 256) : w32 y < 4294967296 := by
 have := h 0 (by omega); have := h 1 (by omega); have := h 2 (by omega); have := h 3 (by omega)
 unfold w32; omega
theorem or_word (a b c d : Nat) (ha : a < 256) (hb : b < 256) (hc : c < 256) (_hd : d < 256) : a ||| b * 256 ||| c * 65536 ||| d * 16777216 = a + b * 256 + c * 65536 + d * 16777216 := by
 rw [Nat.or_comm a, nat_join 8 (b * 256) a (by omega) (by omega)]
 rw [Nat.or_comm (b * 256 + a), nat_join 16 (c * 65536) _ (by omega) (by omega)]
 rw [Nat.or_comm (c * 65536 + _), nat_join 24 (d * 16777216) _ (by omega) (by omega)]
 omega
set_option maxHeartbeats 400000 in
theorem sameBytes_some (b1 o1 c1 b2 o2 c2 n : Nat) (x : Nat → Nat) (hm : n ≤ maxLen) (w : World) (hx : ∀ i, i < n → w.cell? ⟨b1, o1 + i, none⟩ = some (.int .u8 (x i : Int))) (hy : ∀ i, i < n → w.cell? ⟨b2, o2 + i, none⟩ = some (.int .u8 (x i : Int))) :
    Calls Tryz.prog 18 #[.slice (some ⟨b1, o1, none⟩) n c1, .slice (some ⟨b2, o2, none⟩) n c2] w fun e w' => e = .returned (.bool true) ∧ ∃ m, w' = w.drewN m := by
 unfold maxLen at hm
 have HX := hid hx
 have HY := hid hy
 clear hx hy
 go_enter Tryz.func18, Tryz.ntmps18
 go_wp2
 go_loopw [5] (fun i wx => ∃ k m : Nat, k ≤ n ∧ i = .int .i64 k ∧ wx = w.drewN m) (fun i _ => n - (intOf i).toNat)
 case atStart => exact ⟨0, 0, Nat.zero_le _, rfl, rfl⟩
 case round =>
  obtain ⟨k, m, hk, rfl, rfl⟩ := hrel
  by_cases hlt : k < n
  ·have cx := HX.out k hlt
   have cy := HY.out k hlt
   have l1 : (0 : Int) ≤ (k : Int) := by omega
   have l2 : (k : Int) < (n : Int) := by omega
   have t : ((x k : Int) != (x k : Int)) = false := by simp
   go_wp2
   go_quiet (fail)
   go_wp2
   exact ⟨⟨k + 1, _, hlt, by go_num, rfl⟩, by simp [intOf]; omega⟩
  ·go_wp2
   go_ret
   exact ⟨rfl, m, rfl⟩
set_option maxHeartbeats 400000 in
theorem sameBytes_none (a b : Option Addr) (c d : Nat) (w : World) :
    Calls Tryz.prog 18 #[.slice a 0 c, .slice b 0 d] w fun e w' => e = .returned (.bool true) ∧ ∃ m, w' = w.drewN m := by
 go_enter Tryz.func18, Tryz.ntmps18
 go_wp2
 refine wp_loop_rounds 1 ?_
 rw [rounds_succ]
 go_wp2
 go_ret
 exact ⟨rfl, 0, rfl⟩
set_option maxHeartbeats 400000 in
theorem sameBytes_eq (u v : Value) (n : Nat) (x y : Nat → Nat) (w : World) (hu : ByRow w u n x) (hv : ByRow w v n y) (he : ∀ i, i < n → x i = y i) :
    Calls Tryz.prog 18 #[u, v] w fun e w' => e = .returned (.bool true) ∧ ∃ m, w' = w.drewN m := by
 rcases hu with ⟨rfl, a, c, rfl, _⟩ | ⟨hn, hm, b, off, cap, rfl, hc, _⟩
 ·rcases hv with ⟨_, b, d, rfl, _⟩ | ⟨hn, _⟩
  ·exact sameBytes_none a b c d w
  ·omega
 ·rcases hv with ⟨h0, _⟩ | ⟨_, _, b2, off2, cap2, rfl, hc2, _⟩
  ·omega
  ·exact sameBytes_some _ _ _ _ _ _ _ x hm w (fun i hi => (hc i hi).2) (fun i hi => by rw [he i hi]; exact (hc2 i hi).2)
end Go.Proofs.YthjfkmjeppdcnaaGreat.Pk
namespace Go.Proofs.YthjfkmjeppdcnaaGreat.Pk
set_option maxRecDepth 20000
open Go.RowKit
set_option linter.unusedVariables false
def acc (x : Nat → Nat) : Nat → Nat | 0 => 0 | k + 1 => acc x k + x k % 128 * 128 ^ k
theorem acc_lt (x : Nat → Nat) : ∀ k, acc x k < 128 ^ k
 | 0 => by show 0 < 1; decide
 | k + 1 => by
  have h := acc_lt x k
  have hm : x k % 128 < 128 := Nat.mod_lt _ (by omega)
  have h3 : x k % 128 * 128 ^ k ≤ 127 * 128 ^ k := Nat.mul_le_mul_right _ (by omega)
  show acc x k + x k % 128 * 128 ^ k < 128 ^ (k + 1)
  rw [Nat.pow_succ]; omega
def unf (u : Nat) : Int := if u % 2 = 0 then ((u / 2 : Nat) : Int) else -((u / 2 : Nat) : Int) - 1
def ln (x : Nat → Nat) (n : Nat) : Nat → Nat → Int × Nat
 | 0, _ => (0, 0)
 | f + 1, i => if i < n ∧ i < 10 then (if 128 ≤ x i then ln x n f (i + 1) else if (0 < i ∧ x i = 0) ∨ (i = 9 ∧ 1 < x i) then (0, 0) else (unf (acc x (i + 1)), i + 1)) else (0, 0)
theorem ln_le (x : Nat → Nat) (n : Nat) : ∀ f i, (ln x n f i).2 ≤ n
 | 0, _ => Nat.zero_le _
 | f + 1, i => by
  unfold ln; split
  ·split
   ·exact ln_le x n f (i + 1)
   ·split
    ·exact Nat.zero_le _
    ·show i + 1 ≤ n; omega
  ·exact Nat.zero_le _
theorem unf_in (u : Nat) (h : u < 18446744073709551616) : -9223372036854775808 ≤ unf u ∧ unf u ≤ 9223372036854775807 := by
 unfold unf; split <;> omega
def lnV (x : Nat → Nat) (n : Nat) : Int := (ln x n 11 0).1
def lnK (x : Nat → Nat) (n : Nat) : Nat := (ln x n 11 0).2
theorem bits_step (a c i : Nat) (hi : i ≤ 9) (ha : a < 128 ^ i) (hc : c < 128) : ∃ U : Nat, bits .or .u64 (a : Int) ((c : Int) * 2 ^ (7 * i) % 18446744073709551616) = (U : Int) ∧ U < 18446744073709551616 ∧ (i ≤ 8 ∨ c ≤ 1 → U = a + c * 128 ^ i) := by
 have hp : (2 : Nat) ^ (7 * i) = 128 ^ i := by rw [Nat.pow_mul]
 have hb : (128 : Nat) ^ i ≤ 128 ^ 9 := Nat.pow_le_pow_right (by omega) hi
 have h9 : (128 : Nat) ^ 9 = 9223372036854775808 := by decide
 have e : ((c : Int) * 2 ^ (7 * i) % 18446744073709551616) = ((c * 128 ^ i % 18446744073709551616 : Nat) : Int) := by
  have : ((c : Int) * 2 ^ (7 * i)) = ((c * 2 ^ (7 * i) : Nat) : Int) := by simp
  rw [this, hp]; omega
 have hl : c * 128 ^ i % 18446744073709551616 < 18446744073709551616 := Nat.mod_lt _ (by omega)
 refine ⟨a ||| c * 128 ^ i % 18446744073709551616, by rw [e, u64_or_nat a _ (by omega) hl], Nat.or_lt_two_pow (n := 64) (by omega) hl, fun h => ?_⟩
 have hs : c * 128 ^ i < 18446744073709551616 := by
  rcases h with h | h
  ·have hb8 : (128 : Nat) ^ i ≤ 128 ^ 8 := Nat.pow_le_pow_right (by omega) h
   have h8 : (128 : Nat) ^ 8 = 72057594037927936 := by decide
   have : c * 128 ^ i ≤ 127 * 128 ^ i := Nat.mul_le_mul_right _ (by omega)
   omega
  ·have : c * 128 ^ i ≤ 1 * 128 ^ i := Nat.mul_le_mul_right _ h
   omega
 rw [Nat.mod_eq_of_lt hs, Nat.or_comm, nat_join (7 * i) _ a (by rw [← hp]; exact Nat.mul_mod_left _ _) (by rw [hp]; exact ha), Nat.add_comm]
theorem and128 (c : Nat) (hc : c < 256) : bits .and .u8 (c : Int) 128 = if 128 ≤ c then 128 else 0 := by
 have := u8_and_nat c 128 hc (by omega)
 rw [show ((128 : Nat) : Int) = 128 from rfl] at this
 rw [this, show (128 : Nat) = 2 ^ 7 from rfl, nat_bit]
 split
 ·rw [show c / 2 ^ 7 = 1 by omega]; rfl
 ·rw [show c / 2 ^ 7 = 0 by omega]; rfl
theorem ln_stop (x : Nat → Nat) (n f k : Nat) (h : ¬ (k < n ∧ k < 10)) : ln x n f k = (0, 0) := by
 cases f with
 | zero => rfl
 | succ f => unfold ln; rw [if_neg h]
theorem ln_go (x : Nat → Nat) (n k : Nat) (h1 : k < n) (h2 : k < 10) (h : 128 ≤ x k) : ln x n (11 - k) k = ln x n (11 - (k + 1)) (k + 1) := by
 rw [show 11 - k = (11 - (k + 1)) + 1 by omega]
 conv => lhs; unfold ln
 rw [if_pos ⟨h1, h2⟩, if_pos h]
theorem ln_bad (x : Nat → Nat) (n k : Nat) (h1 : k < n) (h2 : k < 10) (h : ¬ 128 ≤ x k) (hb : (0 < k ∧ x k = 0) ∨ (k = 9 ∧ 1 < x k)) : ln x n (11 - k) k = (0, 0) := by
 rw [show 11 - k = (11 - (k + 1)) + 1 by omega]
 unfold ln
 rw [if_pos ⟨h1, h2⟩, if_neg h, if_pos hb]
theorem ln_end (x : Nat → Nat) (n k : Nat) (h1 : k < n) (h2 : k < 10) (h : ¬ 128 ≤ x k) (hb : ¬ ((0 < k ∧ x k = 0) ∨ (k = 9 ∧ 1 < x k))) : ln x n (11 - k) k = (unf (acc x (k + 1)), k + 1) := by
 rw [show 11 - k = (11 - (k + 1)) + 1 by omega]
 unfold ln
 rw [if_pos ⟨h1, h2⟩, if_neg h, if_neg hb]
theorem xor_i64_zero (a : Nat) (h : a < 9223372036854775808) : bits .xor .i64 (a : Int) 0 = (a : Int) := by
 show IntKind.i64.wrap ((BitVec.ofInt 64 (a : Int) ^^^ BitVec.ofInt 64 0).toNat : Int) = _
 rw [show BitVec.ofInt 64 0 = 0#64 by decide, BitVec.xor_zero, BitVec.ofInt_natCast, BitVec.toNat_ofNat, Nat.mod_eq_of_lt (by omega)]
 simp [IntKind.wrap, IntKind.bits, IntKind.signed]; omega
theorem xor_i64_ones (a : Nat) (h : a < 9223372036854775808) : bits .xor .i64 (a : Int) (-1) = -(a : Int) - 1 := by
 show IntKind.i64.wrap ((BitVec.ofInt 64 (a : Int) ^^^ BitVec.ofInt 64 (-1)).toNat : Int) = _
 rw [show BitVec.ofInt 64 (-1) = BitVec.allOnes 64 by decide, BitVec.xor_allOnes, BitVec.toNat_not, BitVec.ofInt_natCast, BitVec.toNat_ofNat, Nat.mod_eq_of_lt (by omega)]
 simp [IntKind.wrap, IntKind.bits, IntKind.signed]; omega
theorem unf_bits (u : Nat) (hu : u < 18446744073709551616) : bits .xor .i64 ((u : Int) / 2) (wrap64 (-wrap64 (bits .and .u64 (u : Int) 1))) = unf u := by
 have ha := u64_and_nat u 1 hu (by omega)
 rw [nat_mask1] at ha
 rw [show ((1 : Nat) : Int) = 1 from rfl] at ha
 rw [ha, show ((u : Int) / 2) = ((u / 2 : Nat) : Int) by omega]
 unfold unf
 rcases Nat.mod_two_eq_zero_or_one u with h | h
 ·rw [h, if_pos rfl, show wrap64 (-wrap64 ((0 : Nat) : Int)) = 0 by decide +kernel, xor_i64_zero _ (by omega)]
 ·rw [h, if_neg (by omega), show wrap64 (-wrap64 ((1 : Nat) : Int)) = -1 by decide +kernel, xor_i64_ones _ (by omega)]
end Go.Proofs.YthjfkmjeppdcnaaGreat.Pk
namespace Go.Proofs.YthjfkmjeppdcnaaGreat.Pk
set_option maxRecDepth 20000
open Go.RowKit
set_option linter.unusedVariables false
def gd (L : List Nat) : Nat → Nat := fun i => L.getD i 0
theorem gd_cat (L M : List Nat) (i : Nat) (h : i < (L ++ M).length) : cat L.length (gd L) (gd M) i = gd (L ++ M) i := by
 unfold cat gd
 by_cases hi : i < L.length
 ·simp [hi, List.getD, List.getElem?_append_left hi]
 ·simp [hi, List.getD, List.getElem?_append_right (by omega : L.length ≤ i)]
def OwnL (base : Nat) (w : World) (v : Value) (L : List Nat) : Prop := OwnB base w v L.length (gd L)
theorem OwnL.app {base : Nat} {w : World} {v : Value} {L M : List Nat} (h : OwnB base w v (L.length + M.length) (cat L.length (gd L) (gd M))) : OwnL base w v (L ++ M) := by
 unfold OwnL
 rw [List.length_append]
 exact h.congr (fun i hi => gd_cat L M i (by rw [List.length_append]; exact hi))
theorem row1L (w : World) (A : Int) (c : Nat) (h0 : A = (c : Int)) (hl : c < 256) :
    ByRow (w.alloc (.cells #[.int .u8 A] 5)) (.slice (some ⟨w.heap.size, 0, none⟩) 1 1) [c].length (gd [c]) := by
 subst h0
 refine .inr ⟨by simp, by unfold maxLen; simp, w.heap.size, 0, 1, rfl, fun i hi => ?_, by simp, by unfold maxLen; omega⟩
 obtain rfl : i = 0 := by simpa using hi
 exact ⟨hl, cell_new _ _ _ _ _ _ rfl⟩
def fold (z : Int) : Nat := if 0 ≤ z then (2 * z).toNat else (-2 * z - 1).toNat
theorem fold_lt (z : Int) (h1 : -9223372036854775808 ≤ z) (h2 : z ≤ 9223372036854775807) : fold z < 18446744073709551616 := by unfold fold; split <;> omega
theorem unf_fold (z : Int) : unf (fold z) = z := by
 unfold unf fold
 split
 ·split <;> omega
 ·split <;> omega
theorem fold_unf (u : Nat) : fold (unf u) = u := by
 unfold unf fold
 split
 ·split <;> omega
 ·split <;> omega
def grp : Nat → Nat → List Nat
 | 0, u => [u]
 | f + 1, u => if u < 128 then [u] else (u % 128 + 128) :: grp f (u / 128)
def numL (z : Int) : List Nat := grp 10 (fold z)
theorem grp_small (f u : Nat) (h : u < 128) : grp f u = [u] := by cases f with
 | zero => rfl
 | succ f => unfold grp; rw [if_pos h]
theorem grp_big (f u : Nat) (h : ¬ u < 128) : grp (f + 1) u = (u % 128 + 128) :: grp f (u / 128) := by
 conv => lhs; unfold grp
 rw [if_neg h]
theorem grp_len (f : Nat) : ∀ u, (grp f u).length ≤ f + 1 := by
 induction f with
 | zero => intro u; simp [grp]
 | succ f ih => intro u; unfold grp; split; simp; simp; exact ih _
theorem folded_bits (z : Int) (h1 : -9223372036854775808 ≤ z) (h2 : z ≤ 9223372036854775807) :
    bits .xor .u64 (IntKind.u64.wrap (IntKind.u64.wrap z * 2)) (IntKind.u64.wrap (z / 9223372036854775808)) = (fold z : Int) := by
 have ew : ∀ y : Int, IntKind.u64.wrap y = y % 18446744073709551616 := fun y => by simp [IntKind.wrap, IntKind.bits, IntKind.signed]
 rw [ew, ew, ew]
 unfold fold
 by_cases hz : 0 ≤ z
 ·rw [if_pos hz, show z / 9223372036854775808 = 0 by omega, show (0 : Int) % 18446744073709551616 = ((0 : Nat) : Int) by rfl]
  rw [show (z % 18446744073709551616 * 2) % 18446744073709551616 = (((2 * z).toNat : Nat) : Int) by omega, u64_xor_nat _ 0 (by omega) (by omega), Nat.xor_zero]
 ·rw [if_neg hz, show z / 9223372036854775808 = -1 by omega, show (-1 : Int) % 18446744073709551616 = ((18446744073709551615 : Nat) : Int) by decide]
  rw [show (z % 18446744073709551616 * 2) % 18446744073709551616 = (((18446744073709551616 + 2 * z).toNat : Nat) : Int) by omega, u64_xor_nat _ _ (by omega) (by omega)]
  congr 1
  have hb : (18446744073709551616 + 2 * z).toNat < 18446744073709551616 := by omega
  have e : ((BitVec.ofNat 64 (18446744073709551616 + 2 * z).toNat) ^^^ BitVec.allOnes 64).toNat = 18446744073709551615 - (18446744073709551616 + 2 * z).toNat := by
   rw [BitVec.xor_allOnes, BitVec.toNat_not, BitVec.toNat_ofNat, Nat.mod_eq_of_lt (by omega)]
  rw [BitVec.toNat_xor, BitVec.toNat_allOnes, BitVec.toNat_ofNat, Nat.mod_eq_of_lt (by omega)] at e
  rw [show (18446744073709551615 : Nat) = 2 ^ 64 - 1 by decide, e]
  omega
set_option maxHeartbeats 400000 in
theorem folded_any (z : Int) (h1 : -9223372036854775808 ≤ z) (h2 : z ≤ 9223372036854775807) (w : World) :
    Calls Tryz.prog 128 #[.int .i64 z] w fun e w' => e = .returned (.int .u64 (fold z : Int)) ∧ w' = w := by
 go_enter Tryz.func128, Tryz.ntmps128
 go_wp2
 go_ret
 exact ⟨ret_i (folded_bits z h1 h2), rfl⟩
theorem or128 (u : Nat) : bits .or .u8 ((u : Int) % 256) 128 = ((u % 128 + 128 : Nat) : Int) := by
 rw [show ((u : Int) % 256) = ((u % 256 : Nat) : Int) by omega]
 have := u8_or_nat (u % 256) 128 (by omega) (by omega)
 rw [show ((128 : Nat) : Int) = 128 from rfl] at this
 rw [this]
 congr 1
 by_cases h : u % 256 < 128
 ·rw [Nat.or_comm, nat_join 7 128 (u % 256) rfl (by omega)]; omega
 ·have e : u % 256 = 128 ||| (u % 128) := by rw [nat_join 7 128 (u % 128) rfl (by omega)]; omega
  rw [e, Nat.or_comm, ← Nat.or_assoc, Nat.or_self, nat_join 7 128 (u % 128) rfl (by omega)]; omega
set_option maxHeartbeats 1000000 in
theorem appendNum_any (base : Nat) (v : Value) (L : List Nat) (z : Int) (h1 : -9223372036854775808 ≤ z) (h2 : z ≤ 9223372036854775807) (hn : L.length ≤ 70368744177664) (w : World) (hown : OwnL base w v L) (hbase : base ≤ w.heap.size) :
    Calls Tryz.prog 97 #[v, .int .i64 z] w fun e w' => ∃ v', e = .returned v' ∧ OwnL base w' v' (L ++ numL z) ∧ Grew w v w' v' := by
 have HO := hid hown
 have HF := hid (folded_any z h1 h2)
 have hl := hid (fold_lt z h1 h2)
 have hnn := hid hn
 have HG : Hid (numL z = grp 10 (fold z)) := rfl
 clear hown h1 h2 hn
 generalize fold z = u0 at *
 generalize numL z = N at *
 go_enter Tryz.func97, Tryz.ntmps97
 go_wp2_with (go_at_call 128; refine (HF.out _).mono ?_; rintro e w' ⟨rfl, hw⟩; have hw2 := hw.symm; subst hw2)
 go_loopw [0, 5] (fun a u wr => ∃ (M : List Nat) (U f : Nat), u = .int .u64 (U : Int) ∧ U < 18446744073709551616 ∧ U < 128 ^ (f + 1) ∧ M.length + f ≤ 10 ∧ M ++ grp f U = N ∧ OwnL base wr a (L ++ M) ∧ Grew w v wr a) (fun _ u _ => (intOf u).toNat)
 case atStart => exact ⟨[], u0, 10, rfl, hl.out, Nat.lt_of_lt_of_le hl.out (by decide), by simp, HG.out.symm, by simpa using HO.out, Grew.refl _ _⟩
 case round =>
  obtain ⟨M, U, f, rfl, hU, hUf, hMf, hgr, ho, hg⟩ := hrel
  have hUU := hid hU
  clear hU
  have HOk := hid ho
  have HGr := hid hgr
  have hbs := hid (Nat.le_trans hbase hg.by_.size)
  clear ho hgr
  by_cases hlt : U < 128
  ·have HR := hid (row1L wr (U : Int) U rfl (by omega))
   have hsm := hid (grp_small f U hlt)
   have hN : M ++ [U] = N := by rw [← hsm.out]; exact HGr.out
   have HN := hid hN
   clear hN hUf
   go_wp2_with (at_builtin; refine wp_app rfl (.tmp 18) (.tmp 21) rfl base _ _ (L ++ M).length [U].length (gd (L ++ M)) (gd [U]) rfl rfl (HOk.out.alloc _) HR.out (by have := hnn.out; simp; omega) (by have := hbs.out; simp; omega) ?_; intro v' w1 hown hgr1 hbel)
   go_ret
   exact ⟨_, rfl, by rw [← HN.out, ← List.append_assoc]; exact OwnL.app hown, hg.trans (((Grew.refl _ _).alloc _).trans hgr1)⟩
  ·have HR := hid (row1L wr _ (U % 128 + 128) (or128 U) (by omega))
   have hf : f ≠ 0 := by intro h; subst h; simp at hUf; omega
   obtain ⟨f', rfl⟩ : ∃ f', f = f' + 1 := ⟨f - 1, by omega⟩
   have hN : (M ++ [U % 128 + 128]) ++ grp f' (U / 128) = N := by rw [List.append_assoc, List.singleton_append, ← grp_big f' U hlt]; exact HGr.out
   have HN := hid hN
   have hU2 : U / 128 < 128 ^ (f' + 1) := by rw [Nat.pow_succ] at hUf; exact Nat.div_lt_of_lt_mul (by omega)
   have HU2 := hid hU2
   clear hN hUf hU2 hf
   go_wp2_with (at_builtin; refine wp_app rfl (.tmp 10) (.tmp 14) rfl base _ _ (L ++ M).length [U % 128 + 128].length (gd (L ++ M)) (gd [U % 128 + 128]) rfl rfl (HOk.out.alloc _) HR.out (by have := hnn.out; simp; omega) (by have := hbs.out; simp; omega) ?_; intro v' w1 hown hgr1 hbel)
   go_roundw
   case rel => exact ⟨M ++ [U % 128 + 128], U / 128, f', by go_num, by have := hUU.out; omega, HU2.out, by simp; omega, HN.out, by rw [← List.append_assoc]; exact OwnL.app hown, hg.trans (((Grew.refl _ _).alloc _).trans hgr1)⟩
   case measure => simp [intOf]; omega
set_option maxHeartbeats 400000 in
theorem appendFlag_any (base : Nat) (v : Value) (L : List Nat) (on : Bool) (fl : Nat) (hfl : fl = if on then 1 else 0) (hn : L.length ≤ 70368744177664) (w : World) (hown : OwnL base w v L) (hbase : base ≤ w.heap.size) :
    Calls Tryz.prog 99 #[v, .bool on] w fun e w' => ∃ v', e = .returned v' ∧ OwnL base w' v' (L ++ [fl]) ∧ Grew w v w' v' := by
 have HO := hid hown
 clear hown
 cases on
 ·obtain rfl : fl = 0 := hfl
  have HR := hid (row1L w 0 0 rfl (by omega))
  go_enter Tryz.func99, Tryz.ntmps99
  go_wp2_with (at_builtin; refine wp_app rfl (.tmp 9) (.tmp 10) rfl base v _ L.length [0].length (gd L) (gd [0]) rfl rfl (HO.out.alloc _) HR.out (by simp; omega) (by simp; omega) ?_; intro v' w1 hown hgr1 hbel)
  go_ret
  exact ⟨_, rfl, OwnL.app hown, ((Grew.refl _ _).alloc _).trans hgr1⟩
 ·obtain rfl : fl = 1 := hfl
  have HR := hid (row1L w 1 1 rfl (by omega))
  go_enter Tryz.func99, Tryz.ntmps99
  go_wp2_with (at_builtin; refine wp_app rfl (.tmp 6) (.tmp 7) rfl base v _ L.length [1].length (gd L) (gd [1]) rfl rfl (HO.out.alloc _) HR.out (by simp; omega) (by simp; omega) ?_; intro v' w1 hown hgr1 hbel)
  go_ret
  exact ⟨_, rfl, OwnL.app hown, ((Grew.refl _ _).alloc _).trans hgr1⟩
end Go.Proofs.YthjfkmjeppdcnaaGreat.Pk
namespace Go.Proofs.YthjfkmjeppdcnaaGreat.Pk
set_option maxRecDepth 20000
theorem gd_cons (c : Nat) (M : List Nat) (j : Nat) : gd (c :: M) (j + 1) = gd M j := by simp [gd]
theorem grp_pos (f u : Nat) : 0 < (grp f u).length := by cases f with
 | zero => simp [grp]
 | succ f => unfold grp; split <;> simp
theorem grp_short : ∀ (f m u : Nat), 1 ≤ m → u < 128 ^ m → (grp f u).length ≤ m
 | 0, m, u, hm, _ => by simp [grp]; exact hm
 | f + 1, m, u, hm, hu => by
  unfold grp; split
  ·simp; exact hm
  ·next h =>
   have hm2 : m ≠ 1 := by intro e; subst e; simp at hu; omega
   obtain ⟨m', rfl⟩ : ∃ m', m = m' + 1 := ⟨m - 1, by omega⟩
   have h2 : u / 128 < 128 ^ m' := by rw [Nat.pow_succ] at hu; exact Nat.div_lt_of_lt_mul (by omega)
   have := grp_short f m' (u / 128) (by omega) h2
   simp; exact this
theorem grp_mono : ∀ (f u v : Nat), u ≤ v → (grp f u).length ≤ (grp f v).length
 | 0, _, _, _ => by simp [grp]
 | f + 1, u, v, h => by
  by_cases hu : u < 128
  ·rw [grp_small _ _ hu]; exact grp_pos _ _
  ·rw [grp_big f u hu, grp_big f v (by omega)]
   simp only [List.length_cons]
   have := grp_mono f (u / 128) (v / 128) (Nat.div_le_div_right h)
   omega
theorem div_pow (u j : Nat) : u / 128 / 128 ^ j = u / 128 ^ (j + 1) := by rw [Nat.div_div_eq_div_mul, Nat.pow_succ, Nat.mul_comm]
theorem grp_at : ∀ (f u : Nat), u < 128 ^ (f + 1) → (∀ j, j + 1 < (grp f u).length → gd (grp f u) j = u / 128 ^ j % 128 + 128) ∧ gd (grp f u) ((grp f u).length - 1) = u / 128 ^ ((grp f u).length - 1) ∧ u / 128 ^ ((grp f u).length - 1) < 128 ∧ (1 < (grp f u).length → u / 128 ^ ((grp f u).length - 1) ≠ 0)
 | 0, u, h => by
  refine ⟨fun j hj => by simp [grp] at hj, by simp [grp, gd], by simp [grp]; simpa using h, fun hl => by simp [grp] at hl⟩
 | f + 1, u, h => by
  by_cases hu : u < 128
  ·rw [grp_small _ _ hu]
   exact ⟨fun j hj => by simp at hj, by simp [gd], by simpa using hu, fun hl => by simp at hl⟩
  ·rw [grp_big f u hu]
   have h2 : u / 128 < 128 ^ (f + 1) := by rw [Nat.pow_succ] at h; exact Nat.div_lt_of_lt_mul (by omega)
   obtain ⟨A, B, C, D⟩ := grp_at f (u / 128) h2
   have hp := grp_pos f (u / 128)
   obtain ⟨l, hl⟩ : ∃ l, (grp f (u / 128)).length = l + 1 := ⟨(grp f (u / 128)).length - 1, by omega⟩
   simp only [List.length_cons, hl, Nat.add_sub_cancel] at *
   refine ⟨fun j hj => ?_, ?_, ?_, fun _ => ?_⟩
   ·cases j with
    | zero => simp [gd]
    | succ j => rw [gd_cons, A j (by omega), div_pow]
   ·rw [gd_cons, B, div_pow]
   ·rw [← div_pow]; exact C
   ·rw [← div_pow]
    by_cases h1 : 1 < l + 1
    ·exact D h1
    ·have : l = 0 := by omega
     subst this
     simp; omega
theorem grp_acc (f u : Nat) (h : u < 128 ^ (f + 1)) : ∀ k, k ≤ (grp f u).length → acc (gd (grp f u)) k = u % 128 ^ k := by
 obtain ⟨A, B, C, _⟩ := grp_at f u h
 intro k
 induction k with
 | zero => intro _; simp [acc, Nat.mod_one]
 | succ k ih =>
  intro hk
  show acc _ k + _ = _
  rw [ih (by omega), Nat.mod_pow_succ]
  have e : gd (grp f u) k % 128 = u / 128 ^ k % 128 := by
   by_cases h1 : k + 1 < (grp f u).length
   ·rw [A k h1]; omega
   ·have : k = (grp f u).length - 1 := by omega
    rw [this, B]
  rw [e, Nat.mul_comm]
theorem grp_total (f u : Nat) (h : u < 128 ^ (f + 1)) : u < 128 ^ (grp f u).length := by
 obtain ⟨_, _, C, _⟩ := grp_at f u h
 have hp := grp_pos f u
 generalize (grp f u).length = q at *
 obtain ⟨l, rfl⟩ : ∃ l, q = l + 1 := ⟨q - 1, by omega⟩
 simp only [Nat.add_sub_cancel] at C
 rw [Nat.pow_succ]
 exact (Nat.div_lt_iff_lt_mul (Nat.pow_pos (by omega))).1 C |> fun h => by rw [Nat.mul_comm]; exact h
theorem grp_read (u : Nat) (hu : u < 18446744073709551616) : ln (gd (grp 10 u)) (grp 10 u).length 11 0 = (unf u, (grp 10 u).length) := by
 have h : u < 128 ^ (10 + 1) := Nat.lt_of_lt_of_le hu (by decide)
 have hl : (grp 10 u).length ≤ 10 := grp_short 10 10 u (by omega) (Nat.lt_of_lt_of_le hu (by decide))
 have hp := grp_pos 10 u
 obtain ⟨A, B, C, D⟩ := grp_at 10 u h
 have ht := grp_total 10 u h
 have hacc := grp_acc 10 u h (grp 10 u).length (Nat.le_refl _)
 rw [Nat.mod_eq_of_lt ht] at hacc
 have go : ∀ k, k + 1 ≤ (grp 10 u).length → ln (gd (grp 10 u)) (grp 10 u).length 11 0 = ln (gd (grp 10 u)) (grp 10 u).length (11 - k) k := by
  intro k
  induction k with
  | zero => intro _; rfl
  | succ k ih =>
   intro hk
   rw [ih (by omega), ln_go _ _ k (by omega) (by omega) (by rw [A k (by omega)]; omega)]
 rw [go ((grp 10 u).length - 1) (by omega)]
 clear A go
 generalize (grp 10 u).length = q at *
 obtain ⟨l, rfl⟩ : ∃ l, q = l + 1 := ⟨q - 1, by omega⟩
 simp only [Nat.add_sub_cancel] at *
 rw [ln_end _ _ l (by omega) (by omega) (by rw [B]; omega) ?_, hacc]
 rw [B]
 rintro (⟨h1, h2⟩ | ⟨h1, h2⟩)
 ·exact D (by omega) h2
 ·subst h1
  have : u / 128 ^ 9 ≤ 1 := by
   have e : (128 : Nat) ^ 9 = 9223372036854775808 := by decide
   rw [e]; omega
  omega
theorem num_read (z : Int) (h1 : -9223372036854775808 ≤ z) (h2 : z ≤ 9223372036854775807) : lnV (gd (numL z)) (numL z).length = z ∧ lnK (gd (numL z)) (numL z).length = (numL z).length := by
 have h := grp_read (fold z) (fold_lt z h1 h2)
 unfold lnV lnK numL
 rw [h]
 exact ⟨unf_fold z, rfl⟩
theorem num_len (z : Int) (h1 : -9223372036854775808 ≤ z) (h2 : z ≤ 9223372036854775807) : 1 ≤ (numL z).length ∧ (numL z).length ≤ 10 :=
 ⟨grp_pos _ _, grp_short 10 10 _ (by omega) (Nat.lt_of_lt_of_le (fold_lt z h1 h2) (by decide))⟩
theorem num_at (z : Int) (h1 : -9223372036854775808 ≤ z) (h2 : z ≤ 9223372036854775807) (i : Nat) (hi : i < (numL z).length) : gd (numL z) i < 256 ∧ (128 ≤ gd (numL z) i ↔ i + 1 < (numL z).length) := by
 obtain ⟨A, B, C, _⟩ := grp_at 10 (fold z) (Nat.lt_of_lt_of_le (fold_lt z h1 h2) (by decide))
 unfold numL at *
 by_cases h : i + 1 < (grp 10 (fold z)).length
 ·rw [A i h]; omega
 ·have e : i = (grp 10 (fold z)).length - 1 := by omega
  rw [e, B]; omega
theorem num_low (z : Int) (h1 : -9223372036854775808 ≤ z) (h2 : z ≤ 9223372036854775807) : gd (numL z) 0 % 2 = if z < 0 then 1 else 0 := by
 obtain ⟨A, B, C, _⟩ := grp_at 10 (fold z) (Nat.lt_of_lt_of_le (fold_lt z h1 h2) (by decide))
 have hp := grp_pos 10 (fold z)
 have hf : fold z % 2 = if z < 0 then 1 else 0 := by unfold fold; split <;> split <;> omega
 unfold numL
 by_cases h : 0 + 1 < (grp 10 (fold z)).length
 ·rw [A 0 h, ← hf]; simp; omega
 ·have e : (grp 10 (fold z)).length - 1 = 0 := by omega
  rw [e] at B
  rw [B, ← hf]; simp
theorem num_one (z : Int) (h1 : -9223372036854775808 ≤ z) (h2 : z ≤ 9223372036854775807) : (numL z).length = 1 ↔ (-64 ≤ z ∧ z < 64) := by
 have hf : fold z < 128 ↔ (-64 ≤ z ∧ z < 64) := by unfold fold; split <;> omega
 unfold numL
 rw [← hf]
 constructor
 ·intro h
  obtain ⟨_, _, C, _⟩ := grp_at 10 (fold z) (Nat.lt_of_lt_of_le (fold_lt z h1 h2) (by decide))
  rw [h] at C; simpa using C
 ·intro h; rw [grp_small _ _ h]; rfl
theorem num_mono (y z : Int) (h : (0 ≤ y ∧ y ≤ z) ∨ (y < 0 ∧ z ≤ y)) : (numL y).length ≤ (numL z).length := by
 unfold numL
 apply grp_mono
 unfold fold
 split <;> split <;> omega
end Go.Proofs.YthjfkmjeppdcnaaGreat.Pk
namespace Go.Proofs.YthjfkmjeppdcnaaGreat.Pk
set_option maxRecDepth 20000
open Go.RowKit
set_option linter.unusedVariables false
structure PV where
 k : Int
 n : Int
 x : Nat
 b : Value
 bn : Nat
 bx : Nat → Nat
 on : Bool
def PV.agg (p : PV) : Value := .agg #[.int .i64 p.k, .int .i64 p.n, .float .f64 p.x, p.b, .bool p.on]
structure PV.In (w : World) (p : PV) : Prop where
 kin : -9223372036854775808 ≤ p.k ∧ p.k ≤ 9223372036854775807
 nin : -9223372036854775808 ≤ p.n ∧ p.n ≤ 9223372036854775807
 xin : p.x < 18446744073709551616
 row : ByRow w p.b p.bn p.bx
structure PV.At (w : World) (blk o : Nat) (p : PV) : Prop where
 c0 : w.cell? ⟨blk, o, none⟩ = some (.int .i64 p.k)
 c1 : w.cell? ⟨blk, o + 1, none⟩ = some (.int .i64 p.n)
 c2 : w.cell? ⟨blk, o + 2, none⟩ = some (.float .f64 p.x)
 c3 : w.cell? ⟨blk, o + 3, none⟩ = some p.b
 c4 : w.cell? ⟨blk, o + 4, none⟩ = some (.bool p.on)
def VRow (w : World) (v : Value) (n : Nat) (f : Nat → PV) : Prop :=
 (n = 0 ∧ ∃ a c, v = .slice a 0 c ∧ (a = none → c = 0)) ∨ (0 < n ∧ ∃ b off cap, v = .slice (some ⟨b, off, none⟩) n cap ∧ (∀ i, i < n → PV.At w b (off + i * 5) (f i) ∧ PV.In w (f i)) ∧ n ≤ cap ∧ cap ≤ maxLen)
theorem PV.In.up {w w' : World} {p : PV} (h : PV.In w p) (u : Up w w') : PV.In w' p := ⟨h.kin, h.nin, h.xin, h.row.up u⟩
theorem PV.At.up {w w' : World} {b o : Nat} {p : PV} (h : PV.At w b o p) (u : Up w w') : PV.At w' b o p := ⟨u.keep h.c0, u.keep h.c1, u.keep h.c2, u.keep h.c3, u.keep h.c4⟩
theorem PV.slice {w : World} {p : PV} (h : PV.In w p) : ∃ a c, p.b = .slice a p.bn c := by
 rcases h.row with ⟨e, a, c, hb, _⟩ | ⟨_, _, b, off, cap, hb, _⟩
 ·exact ⟨a, c, by rw [hb, e]⟩
 ·exact ⟨_, _, hb⟩
def pvE (p : PV) : Nat := if p.k < 1 ∨ 4 < p.k then 1 else if p.k = 3 ∧ 4096 < p.bn then 2 else 0
theorem run_store_float {P : Program} (w : World) (a : Addr) (m : Mode) (k : FloatKind) (b : Nat) : (store a (.float k b) m).run P w = stored P w a (.float k b) m := run_store P w a _ m rfl
attribute [local go_sem] run_store_float
set_option maxHeartbeats 400000 in
theorem unknown_any (k : Int) (w : World) :
    Calls Tryz.prog 96 #[.int .i64 k] w fun e w' => e = .returned (.bool (decide (k < 1 ∨ 4 < k))) ∧ w' = w := by
 by_cases h1 : k < 1
 ·rw [show decide (k < 1 ∨ 4 < k) = true by simp; omega]
  go_enter Tryz.func96, Tryz.ntmps96
  go_wp2
  go_ret
  exact ⟨rfl, rfl⟩
 ·by_cases h2 : 4 < k
  ·rw [show decide (k < 1 ∨ 4 < k) = true by simp; omega]
   go_enter Tryz.func96, Tryz.ntmps96
   go_wp2
   go_ret
   exact ⟨ret_b (by first | (simp; done) | (simp; omega)), rfl⟩
  ·rw [show decide (k < 1 ∨ 4 < k) = false by simp; omega]
   go_enter Tryz.func96, Tryz.ntmps96
   go_wp2
   go_ret
   exact ⟨ret_b (by first | (simp; done) | (simp; omega)), rfl⟩
set_option maxHeartbeats 400000 in
theorem fault_any (p : PV) (w : World) (h : PV.In w p) :
    Calls Tryz.prog 65 #[p.agg] w fun e w' => e = .returned (.int .i64 (pvE p : Nat)) ∧ Up w w' := by
 obtain ⟨a, c, hb⟩ := PV.slice h
 obtain ⟨k, n, x, b, bn, bx, on⟩ := p
 have hmx := h.row.max
 simp only at hb hmx
 subst hb
 clear h
 unfold maxLen at hmx
 unfold PV.agg pvE
 simp only
 by_cases h1 : k < 1 ∨ 4 < k
 ·rw [if_pos h1]
  have hd : decide (k < 1 ∨ 4 < k) = true := by simp; exact h1
  have HU := hid (unknown_any k)
  rw [hd] at HU
  clear h1 hd
  go_enter Tryz.func65, Tryz.ntmps65
  go_wp2_with (go_at_call 96; refine (HU.out _).mono ?_; rintro e w' ⟨rfl, rfl⟩)
  go_ret
  exact ⟨rfl, (Up.refl w).alloc _⟩
 ·rw [if_neg h1]
  have hd : decide (k < 1 ∨ 4 < k) = false := by simp; omega
  have HU := hid (unknown_any k)
  rw [hd] at HU
  clear h1 hd
  by_cases h3 : k = 3
  ·subst h3
   by_cases h4 : 4096 < bn
   ·rw [if_pos ⟨rfl, h4⟩]
    go_enter Tryz.func65, Tryz.ntmps65
    go_wp2_with (go_at_call 96; refine (HU.out _).mono ?_; rintro e w' ⟨rfl, rfl⟩)
    go_ret
    exact ⟨rfl, (Up.refl w).alloc _⟩
   ·rw [if_neg (by omega)]
    go_enter Tryz.func65, Tryz.ntmps65
    go_wp2_with (go_at_call 96; refine (HU.out _).mono ?_; rintro e w' ⟨rfl, rfl⟩)
    go_ret
    exact ⟨rfl, (Up.refl w).alloc _⟩
  ·rw [if_neg (by omega)]
   have t3 : (k == 3) = false := by rw [beq_eq_false_iff_ne]; exact h3
   clear h3
   go_enter Tryz.func65, Tryz.ntmps65
   go_wp2_with (go_at_call 96; refine (HU.out _).mono ?_; rintro e w' ⟨rfl, rfl⟩)
   go_ret
   exact ⟨rfl, (Up.refl w).alloc _⟩
set_option maxHeartbeats 400000 in
theorem appendVal_num (base : Nat) (v : Value) (L : List Nat) (p : PV) (hk : p.k = 1) (hn : L.length ≤ 70368744177664) (w : World) (hp : PV.In w p) (hown : OwnL base w v L) (hbase : base ≤ w.heap.size) :
    Calls Tryz.prog 66 #[v, p.agg] w fun e w' => ∃ v', e = .returned v' ∧ OwnL base w' v' (L ++ numL p.n) ∧ Grew w v w' v' := by
 obtain ⟨a, c, hb⟩ := PV.slice hp
 have HN := hid (fun (W : World) (hW : OwnL base W v L) (hb : base ≤ W.heap.size) => appendNum_any base v L p.n hp.nin.1 hp.nin.2 hn W hW hb)
 obtain ⟨k, n, x, b, bn, bx, on⟩ := p
 simp only at hb hk
 subst hb hk
 have HO := hid hown
 clear hp hown hn
 unfold PV.agg
 simp only at HN ⊢
 go_enter Tryz.func66, Tryz.ntmps66
 go_wp2_with (go_at_call 97; refine (HN.out _ (HO.out.alloc _) (by simp; omega)).mono ?_; rintro e w1 ⟨v1, rfl, o1, g1⟩; have H1 := hid o1; clear o1)
 go_ret
 exact ⟨_, rfl, H1.out, ((Grew.refl _ _).alloc _).trans g1⟩
set_option maxHeartbeats 400000 in
theorem appendVal_flag (base : Nat) (v : Value) (L : List Nat) (p : PV) (hk : p.k = 4) (fl : Nat) (hfl : fl = if p.on then 1 else 0) (hn : L.length ≤ 70368744177664) (w : World) (hp : PV.In w p) (hown : OwnL base w v L) (hbase : base ≤ w.heap.size) :
    Calls Tryz.prog 66 #[v, p.agg] w fun e w' => ∃ v', e = .returned v' ∧ OwnL base w' v' (L ++ [fl]) ∧ Grew w v w' v' := by
 obtain ⟨a, c, hb⟩ := PV.slice hp
 have HN := hid (fun (W : World) (hW : OwnL base W v L) (hb : base ≤ W.heap.size) => appendFlag_any base v L p.on fl hfl hn W hW hb)
 obtain ⟨k, n, x, b, bn, bx, on⟩ := p
 simp only at hb hk
 subst hb hk
 have HO := hid hown
 clear hp hown hn hfl
 unfold PV.agg
 simp only at HN ⊢
 go_enter Tryz.func66, Tryz.ntmps66
 go_wp2_with (go_at_call 99; refine (HN.out _ (HO.out.alloc _) (by simp; omega)).mono ?_; rintro e w1 ⟨v1, rfl, o1, g1⟩; have H1 := hid o1; clear o1)
 go_ret
 exact ⟨_, rfl, H1.out, ((Grew.refl _ _).alloc _).trans g1⟩
def putL (enc : PV → List Nat) (f : Nat → PV) : Nat → List Nat | 0 => [] | k + 1 => putL enc f k ++ enc (f k)
set_option maxHeartbeats 1000000 in
theorem put_ok (enc : PV → List Nat) (b off n cap : Nat) (f : Nat → PV) (hnc : n ≤ 1000000) (w : World) (hc : ∀ i, i < n → PV.At w b (off + i * 5) (f i) ∧ PV.In w (f i)) (h0 : ∀ i, i < n → pvE (f i) = 0)
    (hlen : ∀ k, k ≤ n → (putL enc f k).length ≤ 70368744177664)
    (HA : ∀ i, i < n → ∀ (v : Value) (L : List Nat) (W : World), L.length ≤ 70368744177664 → PV.In W (f i) → OwnL w.heap.size W v L → w.heap.size ≤ W.heap.size → Calls Tryz.prog 66 #[v, (f i).agg] W fun e w' => ∃ v', e = .returned v' ∧ OwnL w.heap.size w' v' (L ++ enc (f i)) ∧ Grew W v w' v') :
    Calls Tryz.prog 42 #[.slice (some ⟨b, off, none⟩) n cap] w fun e w' => ∃ v', e = .returned (.tuple #[v', .int .i64 0]) ∧ OwnL w.heap.size w' v' (putL enc f n) ∧ Up w w' := by
 have HC := hid hc
 have H0 := hid h0
 have HL := hid hlen
 have HAA := hid HA
 clear hc h0 hlen HA
 go_enter Tryz.func42, Tryz.ntmps42
 go_wp2
 go_loopw [4, 10] (fun o i wr => ∃ k : Nat, k ≤ n ∧ i = .int .i64 (k : Nat) ∧ OwnL w.heap.size wr o (putL enc f k) ∧ Up w wr) (fun _ i _ => n - (intOf i).toNat)
 case atStart => exact ⟨0, Nat.zero_le _, rfl, OwnB.nil _ _ _, Up.refl _⟩
 case round =>
  obtain ⟨k, hk, rfl, ho, hu⟩ := hrel
  by_cases hlt : k < n
  ·obtain ⟨hat, hin⟩ := HC.out k hlt
   have hat2 := hat.up hu
   obtain ⟨x0, x1, x2, x3, x4⟩ := hat2
   have hin2 := hid (hin.up hu)
   have HF := hid (fun (W : World) (hW : Up wr W) => fault_any (f k) W (hin2.out.up hW))
   rw [H0.out k hlt] at HF
   have HOk := hid ho
   obtain ⟨a, c, hb⟩ := PV.slice hin
   have HB := hid hb
   have HAk := hid (HAA.out k hlt)
   have hAgg := hid (show (f k).agg = .agg #[.int .i64 (f k).k, .int .i64 (f k).n, .float .f64 (f k).x, .slice a (f k).bn c, .bool (f k).on] by unfold PV.agg; rw [hb])
   rw [hAgg.out] at HF HAk
   have HLk := hid (HL.out k (by omega))
   have HP : Hid (putL enc f (k + 1) = putL enc f k ++ enc (f k)) := rfl
   rw [hb] at x3
   clear ho hin hat hb HC HL HAA H0
   generalize (f k).k = k1 at *
   generalize (f k).n = k2 at *
   generalize (f k).x = k3 at *
   generalize (f k).bn = k4 at *
   generalize (f k).on = k5 at *
   go_wp2_with (first | (go_at_call 65; refine (HF.out _ ((Up.refl wr).alloc _)).mono ?_; rintro e w1 ⟨rfl, u1⟩; have hcells := fun j u (h : (#[.int .i64 k1, .int .i64 k2, .float .f64 k3, .slice a k4 c, .bool k5] : Array Value)[j]? = some u) => u1.keep (cell_new wr #[.int .i64 k1, .int .i64 k2, .float .f64 k3, .slice a k4 c, .bool k5] 97 (0, 0) j u h); have y0 := hcells 0 _ rfl; have y1 := hcells 1 _ rfl; have y2 := hcells 2 _ rfl; have y3 := hcells 3 _ rfl; have y4 := hcells 4 _ rfl; clear hcells; have HU1 := hid (Up.trans ((Up.refl wr).alloc _) u1); clear u1))
   refine (HAk.out _ (putL enc f k) w1 HLk.out (hin2.out.up HU1.out) (OwnB.up HOk.out HU1.out) (Nat.le_trans hu.size HU1.out.size)).mono ?_
   rintro e w2 ⟨v2, rfl, o2, g2⟩
   have H2 := hid o2
   have u2 : Up w w2 := Below.trans (Up.trans hu HU1.out) (g2.below (OwnB.up HOk.out HU1.out) (Nat.le_trans hu.size HU1.out.size))
   clear o2 g2 y0 y1 y2 y3 y4 x0 x1 x2 x3 x4
   go_wp2
   go_roundw
   case rel => exact ⟨k + 1, hlt, by go_num, by rw [HP.out]; exact H2.out, u2⟩
   case measure => simp [intOf]; omega
  ·obtain rfl : k = n := by omega
   have HOk := hid ho
   clear ho
   go_wp2
   go_ret2
   exact ⟨_, rfl, HOk.out, hu⟩
end Go.Proofs.YthjfkmjeppdcnaaGreat.Pk
