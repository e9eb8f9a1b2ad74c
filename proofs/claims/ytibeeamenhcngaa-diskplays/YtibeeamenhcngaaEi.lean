/- Two disks beside each other; a row of truths that is made; conditions: they lie in memory. -/
import Derived.Test.YtibeeamenhcngaaEh
namespace Go.Proofs.Ytibeeamenhcngaa
open Go.RowKit Go.Lib
set_option linter.unusedVariables false
set_option linter.unusedSimpArgs false
set_option maxRecDepth 20000
theorem Dsk.less {w0 W : World} {db : Nat} {p : PD} {A B : List Nat} (h : Dsk w0 W db p A) (hB : ∀ g ∈ B, g ∈ A) : Dsk w0 W db p B := by
  obtain ⟨d, h1, h2, h3, h4, h5, h6⟩ := h
  exact ⟨d, h1, h2, h3, h4, h5, fun g hg => h6 g (hB g hg)⟩
theorem Kp.less {A B : List Nat} {W W' : World} (h : Kp A W W') (hB : ∀ g ∈ B, g ∈ A) : Kp B W W' := ⟨h.1, fun g hg => h.2 g (hB g hg)⟩
theorem Dsk.nod {w0 W : World} {db : Nat} {p : PD} {A : List Nat} (h : Dsk w0 W db p A) : (keysP p.fs).Nodup := by
  obtain ⟨d, h1, h2, h3, h4, h5, h6⟩ := h
  subst h2
  show ((d.M.map pf).map (·.1)).Nodup
  rw [List.map_map]
  exact h3.nod
theorem Dsk.loo {w0 W : World} {db : Nat} {p : PD} {A : List Nat} (h : Dsk w0 W db p A) : looN p.fs ≤ 524288 := by
  obtain ⟨d, h1, h2, h3, h4, h5, h6⟩ := h
  subst h2
  have := looN_le h3 d.M (fun p hp => hp)
  have := h3.few
  show looN (d.M.map pf) ≤ _
  omega
/-- Two disks of a law's own. -/
def Two (w0 W : World) (d1 d2 : Nat) (p q : PD) : Prop := ∃ a b : Dk, (a.db = d1 ∧ a.p = p ∧ DkAt W a ∧ ∀ x, a.inB x → w0.heap.size ≤ x) ∧ (b.db = d2 ∧ b.p = q ∧ DkAt W b ∧ ∀ x, b.inB x → w0.heap.size ≤ x) ∧ (∀ x, a.inB x → ¬ b.inB x) ∧ Old w0 W
theorem Two.swap {w0 W : World} {d1 d2 : Nat} {p q : PD} (h : Two w0 W d1 d2 p q) : Two w0 W d2 d1 q p := by
  obtain ⟨a, b, ha, hb, hd, ho⟩ := h
  exact ⟨b, a, hb, ha, fun x hx hy => hd x hy hx, ho⟩
theorem Two.old {w0 W W' : World} {d1 d2 : Nat} {p q : PD} (h : Two w0 W d1 d2 p q) (u : Old W W') : Two w0 W' d1 d2 p q := by
  obtain ⟨a, b, ⟨a1, a2, a3, a4⟩, ⟨b1, b2, b3, b4⟩, hd, ho⟩ := h
  exact ⟨a, b, ⟨a1, a2, a3.old u, a4⟩, ⟨b1, b2, b3.old u, b4⟩, hd, ho.trans u⟩
theorem Two.base {w0 W : World} {d1 d2 : Nat} {p q : PD} (h : Two w0 W d1 d2 p q) : Old w0 W := by
  obtain ⟨a, b, _, _, _, ho⟩ := h
  exact ho
theorem Two.one {w0 W : World} {d1 d2 : Nat} {p q : PD} (h : Two w0 W d1 d2 p q) : Dsk w0 W d1 p [] := by
  obtain ⟨a, b, ⟨a1, a2, a3, a4⟩, _, _, ho⟩ := h
  exact ⟨a, a1, a2, a3, a4, ho, fun g hg => by cases hg⟩
theorem Two.make {w0 w1 w2 : World} {d1 d2 : Nat} {p q : PD} (h : Dsk w0 w1 d1 p []) (k : Dsk w1 w2 d2 q []) : Two w0 w2 d1 d2 p q := by
  obtain ⟨a, a1, a2, a3, a4, a5, _⟩ := h
  obtain ⟨b, b1, b2, b3, b4, b5, _⟩ := k
  exact ⟨a, b, ⟨a1, a2, a3.old b5, a4⟩, ⟨b1, b2, b3, fun x hx => by have := b4 x hx; have := a5.size; omega⟩, fun x hx hy => by have := a3.lt x hx; have := b4 x hy; omega, a5.trans b5⟩
open Classical in
/-- One of two disks is used: the other one's blocks are apart. -/
theorem Two.left {w0 W : World} {d1 d2 : Nat} {p q : PD} (h : Two w0 W d1 d2 p q) : ∃ A, Dsk w0 W d1 p A ∧ ∀ W' p', Dsk w0 W' d1 p' A → Kp A W W' → Two w0 W' d1 d2 p' q := by
  obtain ⟨a, b, ⟨a1, a2, a3, a4⟩, ⟨b1, b2, b3, b4⟩, hd, ho⟩ := h
  refine ⟨(List.range W.heap.size).filter fun x => decide (b.inB x), ⟨a, a1, a2, a3, a4, ho, fun g hg => ?_⟩, fun W' p' h' k => ?_⟩
  · have := List.mem_filter.1 hg
    simp at this
    exact ⟨fun e => hd g e this.2, this.1⟩
  · obtain ⟨c, c1, c2, c3, c4, c5, c6⟩ := h'
    have hin : ∀ x, b.inB x → x ∈ (List.range W.heap.size).filter fun x => decide (b.inB x) := fun x hx => by
      rw [List.mem_filter]
      exact ⟨List.mem_range.2 (b3.lt x hx), by simpa using hx⟩
    have u : ChgB (fun x => ¬ b.inB x) W W' := ⟨c5.os.trans ho.os.symm, c5.tape.trans ho.tape.symm, c5.output.trans ho.output.symm, k.1, fun g hg hn => k.2 g (hin g (Classical.byContradiction hn)) hg⟩
    exact ⟨c, b, ⟨c1, c2, c3, c4⟩, ⟨b1, b2, b3.chg u (fun x hx hn => hn hx), b4⟩, fun x hx hy => (c6 x (hin x hy)).1 hx, c5⟩
/-- A row of truths that is being filled. -/
def TRow (w : World) (g n i : Nat) : Prop := ∃ cur : Array Value, w.heap[g]? = some (.cells cur 4 (0, 0)) ∧ cur.size = n ∧ ∀ j, j < n → ∃ b : Bool, cur[j]? = some (.bool b) ∧ (j < i → b = true)
theorem TRow.at {w : World} {g n i : Nat} (h : TRow w g n i) (j : Nat) (hj : j < n) : (∃ b : Bool, w.cell? ⟨g, j, none⟩ = some (.bool b) ∧ (j < i → b = true)) ∧ w.frozen? ⟨g, j, none⟩ = false := by
  obtain ⟨cur, h1, h2, h3⟩ := h
  obtain ⟨b, hb, hb2⟩ := h3 j hj
  exact ⟨⟨b, by rw [Go.Joins.cell_of_block h1]; exact hb, hb2⟩, Go.Joins.unfrozen_of_block h1 j⟩
theorem TRow.set {w : World} {g n i : Nat} (h : TRow w g n i) (hi : i < n) : TRow (w.setCell ⟨g, i, none⟩ (.bool true)) g n (i + 1) := by
  obtain ⟨cur, h1, h2, h3⟩ := h
  refine ⟨_, Go.Joins.block_setCell h1 (.bool true) (i := i), by simpa using h2, fun j hj => ?_⟩
  by_cases c : i = j
  · subst c
    exact ⟨true, by rw [Array.getElem?_setIfInBounds_self_of_lt (by omega)], fun _ => rfl⟩
  · obtain ⟨b, hb, hb2⟩ := h3 j hj
    exact ⟨b, by rw [Array.getElem?_setIfInBounds_ne c]; exact hb, fun hl => hb2 (by omega)⟩
theorem TRow.row {w : World} {g n : Nat} (h : TRow w g n n) (hn : n ≤ 1000000) : BRow w (.slice (some ⟨g, 0, none⟩) n n) (List.replicate n true) := by
  refine ⟨by simp; omega, _, n, by rw [List.length_replicate], by simp, by omega, fun i hi => ⟨g, 0, rfl, ?_⟩⟩
  rw [List.length_replicate] at hi
  obtain ⟨⟨b, hb, hb2⟩, _⟩ := h.at i hi
  rw [Nat.zero_add, hb, hb2 hi]
  simp [List.getD_eq_getElem?_getD, List.getElem?_replicate, hi]
theorem infoBool : (Try.prog.info? 4).map (fun i => (i.zero, i.size, i.bytes)) = some (some (.bool false), 1, 1) := by kernel_rfl
def zT (k : Nat) : Array Value := madeCells (Value.bool false).cells (k * 1)
theorem zT_list (k : Nat) : (zT k).toList = List.replicate k (.bool false) := by
  unfold zT
  rw [Nat.mul_one, show (Value.bool false).cells = #[Value.bool false] from rfl, toList_madeCells_one]
theorem madeT (w : World) (k : Nat) (hk : k ≤ 1000000) : (Instr.makeSlice 27 (.int .i64 (k : Nat)) (.int .i64 (k : Nat))).run Try.prog w = .ok (.slice (some ⟨w.heap.size, 0, none⟩) k k) (w.alloc (.cells (zT k) 4)) := by
  obtain ⟨i0, hi, hz0, hz1, hz2⟩ := info_parts infoBool
  have q := run_make (P := Try.prog) w 27 4 i0 _ Try.underlying27 hi hz0 .i64 .i64 k k (by omega) (Int.le_refl _) (by rw [hz2]; omega) (by omega)
  rw [hz1] at q
  simpa [zT] using q
theorem madeTRow (w : World) (k : Nat) : TRow (w.alloc (.cells (zT k) 4)) w.heap.size k 0 := by
  have e : (zT k).size = k := by rw [← Array.length_toList, zT_list, List.length_replicate]
  refine ⟨_, alloc_at w _, e, fun j hj => ⟨false, ?_, fun h => by omega⟩⟩
  rw [← Array.getElem?_toList, zT_list, List.getElem?_replicate, if_pos hj]
set_option maxHeartbeats 1000000 in
set_option maxRecDepth 20000 in
theorem all_any (n : Nat) (w : World) (hn : n ≤ 1000000) : Calls Try.prog 9 #[.int .i64 (n : Nat)] w fun e w' => ∃ g, e = .returned (.slice (some ⟨g, 0, none⟩) n n) ∧ BRow w' (.slice (some ⟨g, 0, none⟩) n n) (List.replicate n true) ∧ Old w w' ∧ w.heap.size ≤ g ∧ g < w'.heap.size := by
  have hmk := madeT w n hn
  have HT := hid (madeTRow w n)
  have HU := hid (show Old w (w.alloc (.cells (zT n) 4)) from (Old.refl w).alloc _)
  have HL := hid (show w.heap.size < (w.alloc (.cells (zT n) 4)).heap.size from by simp)
  go_enter Try.func9, Try.ntmps9
  go_upto_region 2 with (fail)
  clear hmk
  generalize w.alloc (.cells (zT n) 4) = w1 at *
  generalize hg : w.heap.size = g at HT HL ⊢
  have HG := hid (show w.heap.size ≤ g from by omega)
  clear hg
  go_wp2
  go_loopw [9] (fun c wr => ∃ i : Nat, i ≤ n ∧ c = .int .i64 (i : Nat) ∧ TRow wr g n i ∧ Old w wr ∧ g < wr.heap.size) (fun c _ => n - (intOf c).toNat)
  case atStart => exact ⟨0, Nat.zero_le _, rfl, HT.out, HU.out, HL.out⟩
  case round =>
    obtain ⟨i, hi, rfl, hT, hU, hL⟩ := hrel
    have HT1 := hid hT
    have HU1 := hid hU
    have HL1 := hid hL
    clear hT hU hL HT HU HL
    by_cases hlt : i < n
    · obtain ⟨⟨b, c1, _⟩, c2⟩ := HT1.out.at i hlt
      have l1 : (0 : Int) ≤ (i : Int) := by omega
      have l2 : (i : Int) < (n : Int) := by omega
      have HT2 := hid (HT1.out.set hlt)
      have HU2 := hid (show Old w (wr.setCell ⟨g, i, none⟩ (.bool true)) from HU1.out.setCell (p := ⟨g, i, none⟩) HG.out _)
      have HL2 := hid (show g < (wr.setCell ⟨g, i, none⟩ (.bool true)).heap.size from by have := HL1.out; simpa using this)
      clear HT1 HU1 HL1
      go_wp2
      go_roundw
      case rel => exact ⟨i + 1, hlt, by go_num, HT2.out, HU2.out, HL2.out⟩
      case measure => simp [intOf]; omega
    · obtain rfl : i = n := by omega
      have l2 : ¬ (i : Int) < (i : Int) := by omega
      go_wp2
      go_ret
      exact ⟨g, rfl, HT1.out.row hn, HU1.out, HG.out, HL1.out⟩
end Go.Proofs.Ytibeeamenhcngaa
