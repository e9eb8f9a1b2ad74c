/- sess' numbers at every row; conditions: the row lies in memory, and is short. -/
import Derived.Test.YtefffjlcfghniaaZf
import Derived.Test.YtefffjlcfghniaaPkC
import Derived.Laws.MakeOwn
namespace Go.Proofs.Ytefffjlcfghniaa
open Go.RowKit Go.Lib
set_option linter.unusedVariables false
set_option linter.unusedSimpArgs false
set_option maxRecDepth 20000
def p0 : Pk.PV := ⟨0, 0, 0, .slice none 0 0, 0, fun _ => 0, false⟩
def pN (z : Int) : Pk.PV := ⟨1, z, 0, .slice none 0 0, 0, fun _ => 0, false⟩
def pK (x : Nat) : Pk.PV := ⟨2, 0, x, .slice none 0 0, 0, fun _ => 0, false⟩
def gp (L : List Pk.PV) (i : Nat) : Pk.PV := (L[i]?).getD p0
def Nice (p : Pk.PV) : Prop := (∃ z, p = pN z ∧ -9223372036854775808 ≤ z ∧ z ≤ 9223372036854775807) ∨ ∃ x, p = pK x ∧ Fl.W x
theorem Nice.in {p : Pk.PV} (h : Nice p) (w : World) : Pk.PV.In w p := by
  rcases h with ⟨z, rfl, h1, h2⟩ | ⟨x, rfl, hx⟩
  · exact ⟨by simp [pN], ⟨h1, h2⟩, by simp [pN], .inl ⟨rfl, none, 0, rfl, fun _ => rfl⟩⟩
  · exact ⟨by simp [pK], by simp [pK], hx, .inl ⟨rfl, none, 0, rfl, fun _ => rfl⟩⟩
def gz (Z : List Int) : Nat → Int := fun i => Z.getD i 0
/-- The numbers' bytes. -/
def numB (Z : List Int) : List Nat := Z.flatMap Pk.numL
theorem encV_pN (z : Int) : Pk.encV (pN z) = Pk.numL z := by simp [Pk.encV, pN]
theorem firstE_pN (f : Nat → Int) : ∀ n, Pk.firstE (fun i => pN (f i)) n = 0
  | 0 => rfl
  | n + 1 => by
    show (if Pk.firstE (fun i => pN (f i)) n = 0 then Pk.pvE (pN (f n)) else Pk.firstE (fun i => pN (f i)) n) = 0
    rw [if_pos (firstE_pN f n)]
    simp [Pk.pvE, pN]
theorem putL_pN (Z : List Int) : ∀ k, k ≤ Z.length → Pk.putL Pk.encV (fun i => pN (gz Z i)) k = (Z.take k).flatMap Pk.numL
  | 0, _ => rfl
  | k + 1, h => by
    show Pk.putL Pk.encV (fun i => pN (gz Z i)) k ++ Pk.encV (pN (gz Z k)) = _
    rw [putL_pN Z k (by omega), encV_pN, List.take_succ_eq_append_getElem (by omega), List.flatMap_append]
    have : gz Z k = Z[k] := by unfold gz; rw [List.getD_eq_getElem?_getD, List.getElem?_eq_getElem (by omega)]; rfl
    rw [this]
    simp
/-- The cells of a number as a value. -/
def pvc (z : Int) : Nat → Value | 0 => .int .i64 1 | 1 => .int .i64 z | 2 => .float .f64 0 | 3 => .slice none 0 0 | _ => .bool false
/-- A row of values under way: the first k are there. -/
def RowV (w : World) (g n : Nat) (f : Nat → Int) (k : Nat) : Prop := ∃ cur : Array Value, w.heap[g]? = some (.cells cur 112 (0, 0)) ∧ cur.size = n * 5 ∧ ∀ i, i < k → ∀ j, j < 5 → cur[i * 5 + j]? = some (pvc (f i) j)
theorem infoVal5 : (Try.prog.info? 112).map (fun i => (i.zero, i.size, i.bytes)) = some (some (.agg #[.int .i64 0, .int .i64 0, .float .f64 0, .slice none 0 0, .bool false]), 5, 56) := by kernel_rfl
theorem mkV5 (n : Nat) (hn : n ≤ 1000000) (w : World) : (Instr.makeSlice 109 (.int .i64 (n : Int)) (.int .i64 (n : Int))).run Try.prog w = .ok (.slice (some ⟨w.heap.size, 0, none⟩) n n) (w.alloc (.cells (madeCells #[.int .i64 0, .int .i64 0, .float .f64 0, .slice none 0 0, .bool false] (n * 5)) 112)) := by
  obtain ⟨i0, hi, hz0, hz1, hz2⟩ := info_parts infoVal5
  have q := run_make (P := Try.prog) w 109 112 i0 _ Try.underlying109 hi hz0 .i64 .i64 n n (by omega) (Int.le_refl _) (by rw [hz2]; omega) (by omega)
  rw [hz1] at q
  simp only [Int.toNat_natCast] at q
  exact q
theorem RowV.new (w : World) (n : Nat) (f : Nat → Int) (w1 : World) (e : w.alloc (.cells (madeCells #[.int .i64 0, .int .i64 0, .float .f64 0, .slice none 0 0, .bool false] (n * 5)) 112) = w1) (g : Nat) (hg : w.heap.size = g) : RowV w1 g n f 0 ∧ Old w w1 := by
  subst e hg
  exact ⟨⟨_, Pk.heap_new w _, size_madeCells _ _, fun i hi => by omega⟩, (Old.refl w).alloc _⟩
theorem RowV.cell {w : World} {g n k : Nat} {f : Nat → Int} (h : RowV w g n f k) (i : Nat) (hi : i < n * 5) : (∃ z, w.cell? ⟨g, i, none⟩ = some z) ∧ w.frozen? ⟨g, i, none⟩ = false := by
  obtain ⟨cur, h1, h2, h3⟩ := h
  refine ⟨⟨cur[i]'(by omega), ?_⟩, by simp [World.frozen?, h1]⟩
  simp [World.cell?, h1, h2, hi]
theorem RowV.set {w : World} {g n k : Nat} {f : Nat → Int} (h : RowV w g n f k) (hk : k < n) : RowV (((((w.setCell ⟨g, k * 5, none⟩ (.int .i64 1)).setCell ⟨g, k * 5 + 1, none⟩ (.int .i64 (f k))).setCell ⟨g, k * 5 + 2, none⟩ (.float .f64 0)).setCell ⟨g, k * 5 + 3, none⟩ (.slice none 0 0)).setCell ⟨g, k * 5 + 4, none⟩ (.bool false)) g n f (k + 1) := by
  obtain ⟨cur, h1, h2, h3⟩ := h
  have q1 := heap_setCell_same w g (k * 5) _ _ (.int .i64 1) h1
  have q2 := heap_setCell_same _ g (k * 5 + 1) _ _ (.int .i64 (f k)) q1
  have q3 := heap_setCell_same _ g (k * 5 + 2) _ _ (.float .f64 0) q2
  have q4 := heap_setCell_same _ g (k * 5 + 3) _ _ (.slice none 0 0) q3
  have q5 := heap_setCell_same _ g (k * 5 + 4) _ _ (.bool false) q4
  refine ⟨_, q5, by simp [h2], fun i hi j hj => ?_⟩
  by_cases e : i = k
  · subst e
    match j, hj with
    | 0, _ => rw [Array.getElem?_setIfInBounds_ne (by omega), Array.getElem?_setIfInBounds_ne (by omega), Array.getElem?_setIfInBounds_ne (by omega), Array.getElem?_setIfInBounds_ne (by omega), Nat.add_zero, Array.getElem?_setIfInBounds_self_of_lt (by omega)]; rfl
    | 1, _ => rw [Array.getElem?_setIfInBounds_ne (by omega), Array.getElem?_setIfInBounds_ne (by omega), Array.getElem?_setIfInBounds_ne (by omega), Array.getElem?_setIfInBounds_self_of_lt (by simp; omega)]; rfl
    | 2, _ => rw [Array.getElem?_setIfInBounds_ne (by omega), Array.getElem?_setIfInBounds_ne (by omega), Array.getElem?_setIfInBounds_self_of_lt (by simp; omega)]; rfl
    | 3, _ => rw [Array.getElem?_setIfInBounds_ne (by omega), Array.getElem?_setIfInBounds_self_of_lt (by simp; omega)]; rfl
    | 4, _ => rw [Array.getElem?_setIfInBounds_self_of_lt (by simp; omega)]; rfl
  · rw [Array.getElem?_setIfInBounds_ne (by omega), Array.getElem?_setIfInBounds_ne (by omega), Array.getElem?_setIfInBounds_ne (by omega), Array.getElem?_setIfInBounds_ne (by omega), Array.getElem?_setIfInBounds_ne (by omega)]
    exact h3 i (by omega) j hj
theorem RowV.at {w : World} {g n : Nat} {f : Nat → Int} (h : RowV w g n f n) (i : Nat) (hi : i < n) : Pk.PV.At w g (0 + i * 5) (pN (f i)) := by
  obtain ⟨cur, h1, h2, h3⟩ := h
  rw [Nat.zero_add]
  have c : ∀ j, j < 5 → w.cell? ⟨g, i * 5 + j, none⟩ = some (pvc (f i) j) := fun j hj => by
    have := h3 i hi j hj
    simp only [World.cell?, h1]
    exact this
  exact ⟨c 0 (by omega), c 1 (by omega), c 2 (by omega), c 3 (by omega), c 4 (by omega)⟩
theorem Pk.OwnL.mono' {base b' : Nat} {w : World} {v : Value} {L : List Nat} (h : Pk.OwnL base w v L) (hb : b' ≤ base) : Pk.OwnL b' w v L := by
  refine ⟨⟨h.own.1, ?_⟩, h.lt⟩
  rcases h.own.2 with e | ⟨g, cap, cur, e, hb', r⟩
  · exact .inl e
  · exact .inr ⟨g, cap, cur, e, by omega, r⟩
attribute [local go_sem] run_store_float
set_option maxHeartbeats 4000000 in
set_option maxRecDepth 20000 in
theorem numbers_any (v : Value) (Z : List Int) (w : World) (hl : Z.length ≤ 1000) (hZ : ∀ z ∈ Z, N64 z) (hv : NRow w v Z) :
    Calls Try.prog 35 #[v] w fun e w' => ∃ v', e = .returned v' ∧ Pk.OwnL w.heap.size w' v' (numB Z) ∧ Old w w' := by
  obtain ⟨_, p, c, rfl, hc⟩ := hv
  have HC := hid hc
  have HF := hid (fun k (hk : k ≤ Z.length) => putL_pN Z k hk)
  have HE := hid (firstE_pN (gz Z))
  have HIn := hid (fun i (hi : i < Z.length) (W : World) => (show Nice (pN (gz Z i)) from .inl ⟨_, rfl, hZ _ (by unfold gz; rw [List.getD_eq_getElem?_getD, List.getElem?_eq_getElem hi]; exact List.getElem_mem hi)⟩).in W)
  have HCc := hid (show ∀ i, i < Z.length → ∃ g off, p = some ⟨g, off, none⟩ ∧ w.cell? ⟨g, off + i, none⟩ = some (.int .i64 (gz Z i)) from hc)
  clear hc HC
  have HNb := hid (show numB Z = (Z.take Z.length).flatMap Pk.numL from by rw [List.take_length]; rfl)
  have hmm : (Z.length : Int) ≤ 1000 := by omega
  generalize hf : gz Z = f at *
  generalize hn : Z.length = n at *
  have hmk := fun W => mkV5 n (by omega) W
  go_enter Try.func35, Try.ntmps35
  go_upto_region 3 with (fail)
  have HR0 := hid (RowV.new w n f _ rfl _ rfl)
  generalize w.alloc (.cells (madeCells #[.int .i64 0, .int .i64 0, .float .f64 0, .slice none 0 0, .bool false] (n * 5)) 112) = w1 at *
  obtain ⟨g, hg⟩ : ∃ g, w.heap.size = g := ⟨_, rfl⟩
  have HG := hid (show w.heap.size ≤ g by omega)
  rw [hg] at HR0 ⊢
  clear hg hmk
  go_loopw [13] (fun i wr => ∃ k : Nat, k ≤ n ∧ i = .int .i64 (k : Nat) ∧ RowV wr g n f k ∧ Old w wr) (fun i _ => n - (intOf i).toNat)
  case atStart => exact ⟨0, Nat.zero_le _, rfl, HR0.out.1, HR0.out.2⟩
  case round =>
    obtain ⟨k, hk, rfl, hr, hu⟩ := hrel
    have HR := hid hr
    have HU := hid hu
    clear HR0 hu
    by_cases hlt : k < n
    · obtain ⟨b, off, ha, c0⟩ := HCc.out k hlt
      subst ha
      have x0 := HU.out.keep c0
      have l1 : (0 : Int) ≤ (k : Int) := by omega
      have l2 : (k : Int) < (n : Int) := by omega
      have l2n : k < n := hlt
      obtain ⟨⟨z0, y0⟩, f0⟩ := hr.cell (k * 5) (by omega)
      obtain ⟨⟨z1, y1⟩, f1⟩ := hr.cell (k * 5 + 1) (by omega)
      obtain ⟨⟨z2, y2⟩, f2⟩ := hr.cell (k * 5 + 2) (by omega)
      obtain ⟨⟨z3, y3⟩, f3⟩ := hr.cell (k * 5 + 3) (by omega)
      obtain ⟨⟨z4, y4⟩, f4⟩ := hr.cell (k * 5 + 4) (by omega)
      have HS := hid (HR.out.set hlt)
      clear hr c0 HCc
      generalize f k = z at *
      go_wp2
      go_roundw
      case rel => exact ⟨k + 1, hlt, by go_num, HS.out, ((((HU.out.setCell HG.out _).setCell HG.out _).setCell HG.out _).setCell HG.out _).setCell HG.out _⟩
      case measure => simp [intOf]; omega
    · obtain rfl : k = n := by omega
      have HP := hid (Pk.put_row (some ⟨g, 0, none⟩) k k (fun i => pN (f i)) (by omega) wr (fun i hi => ⟨g, 0, rfl, hr.at i hi, HIn.out i hi wr⟩))
      rw [HE.out k] at HP
      have HF' := hid (HNb.out.trans (HF.out k (Nat.le_refl _)).symm)
      clear hr HCc HIn HF HE HNb
      go_wp2_with (go_at_call 56; refine HP.out.mono ?_; rintro e w3 ⟨v', L', rfl, o3, h3, _, u3⟩; have O3 := hid o3; have H3 := hid (h3 rfl); have U3 := hid u3; clear o3 h3 u3)
      go_ret
      refine ⟨_, rfl, ?_, HU.out.trans U3.out⟩
      rw [HF'.out, ← H3.out]
      exact O3.out.mono' HU.out.size
end Go.Proofs.Ytefffjlcfghniaa
