/- Rows of bytes as lists, slices.Clone of bytes; conditions: the lengths fit. -/
import Derived.Test.YtgpfmohaogppiaaK0
import Derived.Test.YtgpfmohaogppiaaPkA
import Derived.Lib.SmallJoins
namespace Go.Proofs.Ytgpfmohaogppiaa
open Go.RowKit Go.Lib
set_option linter.unusedVariables false
set_option linter.unusedSimpArgs false
set_option maxRecDepth 20000
def gd (L : List Nat) : Nat → Nat := fun i => L.getD i 0
def Byt (L : List Nat) : Prop := ∀ x ∈ L, x < 256
def bv (L : List Nat) : List Value := L.map fun (x : Nat) => Value.int .u8 (x : Int)
theorem bv_len (L : List Nat) : (bv L).length = L.length := by simp [bv]
theorem bv_app (L M : List Nat) : bv L ++ bv M = bv (L ++ M) := by simp [bv]
theorem bv_one (L : List Nat) : ∀ u ∈ bv L, u.oneCell' = true := fun u hu => by
  obtain ⟨x, _, rfl⟩ := List.mem_map.1 hu
  rfl
theorem gd_at (L : List Nat) (i : Nat) (h : i < L.length) : gd L i = L[i] := by unfold gd; rw [List.getD_eq_getElem?_getD, List.getElem?_eq_getElem h]; rfl
theorem bl_bv (L : List Nat) : Pk.bl L.length (gd L) = bv L := by
  apply List.ext_getElem?
  intro i
  by_cases h : i < L.length
  · rw [Pk.bl_get _ _ _ h, gd_at L i h]
    simp [bv, h]
  · rw [Pk.bl_get_ge _ _ _ (by omega)]
    simp [bv, h]
/-- A row of the disk's own. -/
def Own (w : World) (v : Value) (L : List Nat) : Prop := Pk.OwnB 0 w v L.length (gd L)
/-- A row of bytes, wherever. -/
def Rw (w : World) (v : Value) (L : List Nat) : Prop := Pk.ByRow w v L.length (gd L)
theorem Own.byt {w : World} {v : Value} {L : List Nat} (h : Own w v L) : Byt L := fun x hx => by
  obtain ⟨i, hi, e⟩ := List.getElem_of_mem hx
  have := h.lt i hi
  rw [gd_at L i hi, e] at this
  exact this
theorem gd_byt {L : List Nat} (h : Byt L) : ∀ i, i < L.length → gd L i < 256 := fun i hi => by rw [gd_at L i hi]; exact h _ (List.getElem_mem hi)
theorem Own.nil (w : World) : Own w (.slice none 0 0) [] := Pk.OwnB.nil 0 w _
theorem Own.row {w : World} {v : Value} {L : List Nat} (h : Own w v L) : Rw w v L := Pk.OwnB.row h
theorem Own.cases {w : World} {v : Value} {L : List Nat} (h : Own w v L) : (v = .slice none 0 0 ∧ L = []) ∨ ∃ g cap cur, v = .slice (some ⟨g, 0, none⟩) L.length cap ∧ w.heap[g]? = some (.cells cur 5 (0, 0)) ∧ L.length ≤ cap ∧ cap ≤ maxLen ∧ cur.size = cap ∧ cur.toList.take L.length = bv L := by
  rcases h.own.2 with ⟨e, h0⟩ | ⟨g, cap, cur, e, _, hg, h1, h2, h3, h4⟩
  · exact .inl ⟨e, List.length_eq_zero_iff.1 h0⟩
  · exact .inr ⟨g, cap, cur, e, hg, h1, h2, by simpa using h3, by rw [← bl_bv]; simpa using h4⟩
theorem own_of {w : World} {g cap : Nat} {cur : Array Value} {L : List Nat} (hg : w.heap[g]? = some (.cells cur 5 (0, 0))) (h1 : L.length ≤ cap) (h2 : cap ≤ maxLen) (h3 : cur.size = cap) (h4 : cur.toList.take L.length = bv L) (hb : Byt L) : Own w (.slice (some ⟨g, 0, none⟩) L.length cap) L :=
  ⟨⟨by rw [Pk.bl_len, Nat.mul_one], .inr ⟨g, cap, cur, rfl, Nat.zero_le _, hg, h1, h2, by rw [Nat.mul_one]; exact h3, by rw [Nat.mul_one, bl_bv]; exact h4⟩⟩, gd_byt hb⟩
theorem Own.chg {S : List Nat} {w w' : World} {v : Value} {L : List Nat} (h : Own w v L) (u : Chg S w w') (hn : ∀ g, v.ownBlock = some g → g ∉ S) : Own w' v L := by
  have hb := h.byt
  rcases h.cases with ⟨rfl, rfl⟩ | ⟨g, cap, cur, rfl, hg, h1, h2, h3, h4⟩
  · exact Own.nil _
  · exact own_of (u.heapAt hg (hn g rfl)) h1 h2 h3 h4 hb
theorem Own.old {w w' : World} {v : Value} {L : List Nat} (h : Own w v L) (u : Old w w') : Own w' v L := h.chg (Chg.ofOld (S := []) u) (fun _ _ e => by cases e)
theorem Own.lt {w : World} {v : Value} {L : List Nat} (h : Own w v L) (g : Nat) (e : v.ownBlock = some g) : g < w.heap.size := (h.own.lt g e).2
theorem Own.len {w : World} {v : Value} {L : List Nat} (h : Own w v L) : ∃ a c, v = .slice a L.length c := by
  rcases h.cases with ⟨rfl, rfl⟩ | ⟨g, cap, cur, rfl, _⟩
  · exact ⟨none, 0, rfl⟩
  · exact ⟨_, _, rfl⟩
theorem Own.of {base : Nat} {w : World} {v : Value} {L : List Nat} (h : Pk.OwnB base w v L.length (gd L)) : Own w v L := h.mono (Nat.zero_le _)
theorem Rw.old {w w' : World} {v : Value} {L : List Nat} (h : Rw w v L) (u : Old w w') : Rw w' v L := Pk.ByRow.up h u
theorem Rw.chg {S : List Nat} {w w' : World} {v : Value} {L : List Nat} (h : Rw w v L) (u : Chg S w w') (hn : 0 < L.length → ∀ g, v.ownBlock = some g → g ∉ S) : Rw w' v L := by
  rcases h with h | ⟨h0, hm, b, off, cap, rfl, hc, hcp⟩
  · exact .inl h
  · exact .inr ⟨h0, hm, b, off, cap, rfl, fun i hi => ⟨(hc i hi).1, u.cell (hc i hi).2 (hn h0 b rfl)⟩, hcp⟩
theorem Rw.byt {w : World} {v : Value} {L : List Nat} (h : Rw w v L) : Byt L := fun x hx => by
  obtain ⟨i, hi, e⟩ := List.getElem_of_mem hx
  have := Pk.ByRow.lt h i hi
  rw [gd_at L i hi, e] at this
  exact this
theorem Rw.len {w : World} {v : Value} {L : List Nat} (h : Rw w v L) : ∃ a c, v = .slice a L.length c := by
  rcases h with ⟨h0, a, c, rfl, _⟩ | ⟨_, _, b, off, cap, rfl, _⟩
  · exact ⟨a, c, by rw [h0]⟩
  · exact ⟨_, _, rfl⟩
theorem Rw.lt {w : World} {v : Value} {L : List Nat} (h : Rw w v L) (h0 : 0 < L.length) (g : Nat) (e : v.ownBlock = some g) : g < w.heap.size := by
  rcases h with ⟨z, _⟩ | ⟨_, _, b, off, cap, rfl, hc, _⟩
  · omega
  · cases e
    exact World.block_lt_of_cell? w _ (hc 0 h0).2
theorem Rw.cells {w : World} {v : Value} {L : List Nat} (h : Rw w v L) (h0 : 0 < L.length) : ∃ b off cap, v = .slice (some ⟨b, off, none⟩) L.length cap ∧ (∀ j u, (bv L)[j]? = some u → w.cell? ⟨b, off + j, none⟩ = some u) ∧ L.length ≤ cap ∧ cap ≤ maxLen := by
  rcases h with ⟨z, _⟩ | ⟨_, hm, b, off, cap, rfl, hc, h1, h2⟩
  · omega
  · refine ⟨b, off, cap, rfl, fun j u hj => ?_, h1, h2⟩
    have hl : j < L.length := by have := (List.getElem?_eq_some_iff.1 hj).1; rw [bv_len] at this; exact this
    rw [(hc j hl).2, ← hj, gd_at L j hl]
    simp [bv, hl]
theorem byt_app {L M : List Nat} (h : Byt L) (k : Byt M) : Byt (L ++ M) := fun x hx => (List.mem_append.1 hx).elim (h x) (k x)
theorem byt_zero (k : Nat) : Byt (List.replicate k 0) := fun x hx => by rw [(List.mem_replicate.1 hx).2]; omega
/-- What of memory may turn where a row of the disk's own is written; where the new one lies. -/
def Grow (w : World) (v : Value) (w' : World) (v' : Value) : Prop := Chg v.ownBlock.toList w w' ∧ ∀ g, v'.ownBlock = some g → v.ownBlock = some g ∨ (w.heap.size ≤ g ∧ g < w'.heap.size)
theorem Grow.refl (w : World) (v : Value) : Grow w v w v := ⟨Chg.refl _ _, fun g e => .inl e⟩
theorem Grow.trans {w w1 w2 : World} {v v1 v2 : Value} (h : Grow w v w1 v1) (k : Grow w1 v1 w2 v2) : Grow w v w2 v2 := by
  have hs := h.1.size
  refine ⟨⟨k.1.os.trans h.1.os, k.1.tape.trans h.1.tape, k.1.output.trans h.1.output, Nat.le_trans hs k.1.size, fun i hi hn => ?_⟩, fun g e => ?_⟩
  · rw [k.1.block i (by omega) (fun q => ?_), h.1.block i hi hn]
    rw [Option.mem_toList] at q hn
    rcases h.2 i q with z | z
    · exact hn z
    · omega
  · have hs2 := k.1.size
    rcases k.2 g e with z | z
    · rcases h.2 g z with y | y
      · exact .inl y
      · exact .inr (by omega)
    · exact .inr (by omega)
theorem oldGrow {w w1 : World} {v : Value} (u : Old w w1) : Grow w v w1 v := ⟨Chg.ofOld u, fun g e => .inl e⟩
theorem Chg.setRow (w : World) (g : Nat) (cs : Array Value) (S : List Nat) (h : g ∈ S) : Chg S w (w.setRow g cs) := ⟨rfl, rfl, rfl, by simp [World.setRow], fun k hk hn => Go.setRow_other w g k cs (fun e => hn (by rw [e]; exact h))⟩
theorem alloc_at (w : World) (o : Obj) : (w.alloc o).heap[w.heap.size]? = some o := by
  show (w.heap.push o)[w.heap.size]? = _
  simp
theorem grow_new (w : World) (v : Value) (o : Obj) (n c : Nat) : Grow w v (w.drew.alloc o) (.slice (some ⟨w.heap.size, 0, none⟩) n c) :=
  ⟨Chg.ofOld (((Old.refl w).drew).alloc o), fun g e => by cases e; exact .inr ⟨Nat.le_refl _, by simp⟩⟩
set_option maxHeartbeats 400000 in
set_option maxRecDepth 20000 in
theorem cloneS_ok (v : Value) (L : List Nat) (w : World) (hv : Rw w v L) (hb : L.length ≤ 140737488355328) :
    Calls Try.prog 50 #[v] w fun e w' => ∃ v', e = .returned v' ∧ Own w' v' L ∧ Old w w' ∧ ∀ g, v'.ownBlock = some g → w.heap.size ≤ g ∧ g < w'.heap.size := by
  have hval : ∃ a c, v = .slice a L.length c ∧ (a = none → L.length = 0) := by
    rcases hv with ⟨h0, a, c, rfl, _⟩ | ⟨_, _, b, off, cap, rfl, _⟩
    · exact ⟨a, c, by rw [h0], fun _ => h0⟩
    · exact ⟨_, _, rfl, fun h => by cases h⟩
  obtain ⟨a, c, rfl, hnone⟩ := hval
  have HV := hid (show Pk.ByRow w (.slice a L.length c) L.length (gd L) from hv)
  have HZ := hid (show L.length = 0 → L = [] from List.length_eq_zero_iff.1)
  have HOf := hid (fun (W : World) (v' : Value) (h : Pk.OwnB w.heap.size W v' L.length (gd L)) => show Own W v' L from Own.of h)
  clear hv
  generalize L.length = n at *
  have heq := fun w => Lib.run_eql_slice_nil (P := Try.prog) w 39 5 a n c 0 0 Try.underlying39
  cases a with
  | none =>
    obtain rfl := hnone rfl
    obtain rfl := HZ.out rfl
    go_enter Try.func50, Try.ntmps50
    go_wp2
    go_ret
    exact ⟨_, rfl, Own.nil _, Old.refl _, fun g e => by cases e⟩
  | some ad =>
    clear hnone
    go_enter Try.func50, Try.ntmps50
    go_wp2_with (at_builtin; refine Pk.wp_app rfl (.tmp 5) (.tmp 6) rfl w.heap.size _ _ 0 n (fun _ => 0) (gd L) rfl rfl (Pk.OwnB.empty (Nat.le_refl _) rfl) (HV.out.up ((Old.refl w).alloc _)) (by omega) (by simp) ?_; intro v' w1 hown hgr hbel)
    go_ret
    have ho : Pk.OwnB w.heap.size w1 v' n (gd L) := by rw [Nat.zero_add] at hown; exact hown.congr (fun i _ => by simp [Pk.cat])
    exact ⟨_, rfl, HOf.out _ _ ho, Below.trans ((Old.refl w).alloc _) hbel, fun g e => ho.own.lt g e⟩
end Go.Proofs.Ytgpfmohaogppiaa
