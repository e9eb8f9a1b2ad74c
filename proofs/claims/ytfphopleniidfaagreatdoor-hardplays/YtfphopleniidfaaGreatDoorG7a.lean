/- A term and a vote: their ranges, their frame, what bytes say of them; conditions: the bytes lie in memory, the table is laid. -/
import Derived.Test.YtfphopleniidfaaGreatDoorDwh
import Derived.Test.YtfphopleniidfaaGreatDoorPkX
namespace Go.Proofs.YtfphopleniidfaaGreatDoor
open Go.RowKit Go.Lib
set_option linter.unusedVariables false
set_option linter.unusedSimpArgs false
set_option maxRecDepth 20000
def sT : ByteArray := ⟨#[104, 97, 114, 100, 46, 116, 109, 112]⟩
def sH : ByteArray := ⟨#[104, 97, 114, 100]⟩
theorem ne_TH : sT ≠ sH := by decide
theorem misT : [sT].any misN = false := by kernel_rfl
theorem misH : [sH].any misN = false := by kernel_rfl
theorem misTH : [sT, sH].any misN = false := by kernel_rfl
def rgt (t v : Int) : Bool := decide (0 ≤ t) && decide (t ≤ 1099511627776) && decide (0 ≤ v) && decide (v ≤ 7)
theorem rgt_iff {t v : Int} : rgt t v = true ↔ 0 ≤ t ∧ t ≤ 1099511627776 ∧ 0 ≤ v ∧ v ≤ 7 := by unfold rgt; simp [and_assoc]
/-- The payload, the frame. -/
def payL (t v : Int) : List Nat := Pk.numL t ++ Pk.numL v
def frB (M : List Nat) : List Nat := (List.range (8 + M.length)).map (Pk.frm M.length (Crc.sum (gd M) M.length) (gd M))
theorem frB_len (M : List Nat) : (frB M).length = 8 + M.length := by simp [frB]
theorem frB_gd (M : List Nat) (i : Nat) (h : i < 8 + M.length) : gd (frB M) i = Pk.frm M.length (Crc.sum (gd M) M.length) (gd M) i := by
  unfold gd frB
  rw [List.getD_eq_getElem?_getD, List.getElem?_map, List.getElem?_range h]
  rfl
/-- A reader's bytes as a list. -/
def RL (w : World) (R b0 : Nat) (L : List Nat) : Prop := Pk.RB w R b0 L.length (gd L)
theorem gd_drop (L : List Nat) (k : Nat) : gd (L.drop k) = Pk.sh k (gd L) := by
  funext i
  simp [gd, Pk.sh]
def tkN (L : List Nat) : Option (Int × List Nat) := if Pk.lnK (gd L) L.length = 0 then none else some (Pk.lnV (gd L) L.length, L.drop (Pk.lnK (gd L) L.length))
theorem RL.drop {w : World} {R b0 k : Nat} {L : List Nat} (h : Pk.RB w R b0 (L.length - k) (Pk.sh k (gd L))) : RL w R b0 (L.drop k) := by
  unfold RL
  rw [gd_drop, List.length_drop]
  exact h
theorem RL.chg {S : List Nat} {w w' : World} {R b0 : Nat} {L : List Nat} (h : RL w R b0 L) (c : Pk.Chg S w w') (hR : R ∉ S) (hb : b0 ∉ S) : RL w' R b0 L := Pk.RB.chg h c hR hb
theorem Pk.Chg.old {S : List Nat} {w w' : World} (h : Old w w') : Pk.Chg S w w' := ⟨h.os, h.tape, h.output, h.size, fun k hk _ => Below.block h k hk⟩
theorem Pk.Chg.set' (w : World) (p : Addr) (v : Value) : Pk.Chg [p.block] w (w.setCell p v) := ⟨rfl, rfl, rfl, by simp, fun k hk hn => Below.heap_setCell w p v k (fun e => hn (by simp [e]))⟩
theorem Pk.Chg.toOld {S : List Nat} {a b c : World} (h : Old a b) (k : Pk.Chg S b c) (hS : ∀ j ∈ S, a.heap.size ≤ j) : Old a c := by
  have h2 := h.size
  exact ⟨k.os.trans h.os, k.tape.trans h.tape, k.output.trans h.output, Nat.le_trans h.size k.size, fun i hi => (k.block i (Nat.lt_of_lt_of_le hi h.size) (fun e => by have := hS i e; omega)).trans (Below.block h i hi)⟩
theorem Pk.Chg.at {S : List Nat} {w w' : World} (c : Pk.Chg S w w') {g : Nat} {o : Obj} (h : w.heap[g]? = some o) (hn : g ∉ S) : w'.heap[g]? = some o := by rw [c.block g (heap_lt h) hn]; exact h
/-- Two numbers taken off bytes, and what is left. -/
def tkP (L : List Nat) : Option (Int × Int × List Nat) := match tkN L with
  | none => none
  | some (t, B) => match tkN B with
    | none => none
    | some (v, C) => if 0 ≤ v ∧ v ≤ 7 then some (t, v, C) else none
/-- What bytes say. -/
def rdP (L : List Nat) : Int × Int :=
  if Pk.unfE L.length (gd L) = 0 ∧ 8 + Pk.w32 (gd L) = L.length then
    match tkP (L.drop 8) with
    | some (t, v, []) => if rgt t v = true then (t, v) else (0, 0)
    | _ => (0, 0)
  else (0, 0)
theorem box2 {w : World} {b : Nat} {x y : Value} {T : TypeId} (h : w.heap[b]? = some (.cells #[x, y] T (0, 0))) : w.cell? ⟨b, 0, none⟩ = some x ∧ w.cell? ⟨b, 1, none⟩ = some y ∧ w.frozen? ⟨b, 0, none⟩ = false ∧ w.frozen? ⟨b, 1, none⟩ = false :=
  ⟨by rw [Go.Joins.cell_of_block h]; rfl, by rw [Go.Joins.cell_of_block h]; rfl, Go.Joins.unfrozen_of_block h 0, Go.Joins.unfrozen_of_block h 1⟩
theorem alloc_keep {w : World} {k : Nat} {o q : Obj} (h : w.heap[k]? = some o) : (w.alloc q).heap[k]? = some o := ((Old.refl w).alloc q).block h
def pN (z : Int) : Pk.PV := ⟨1, z, 0, .slice none 0 0, 0, fun _ => 0, false⟩
theorem pN_in (z : Int) (h1 : -9223372036854775808 ≤ z) (h2 : z ≤ 9223372036854775807) (w : World) : Pk.PV.In w (pN z) := ⟨by simp [pN], ⟨h1, h2⟩, by simp [pN], .inl ⟨rfl, none, 0, rfl, fun _ => rfl⟩⟩
theorem encV_pN (z : Int) : Pk.encV (pN z) = Pk.numL z := by simp [Pk.encV, pN]
def two (t v : Int) : Nat → Pk.PV := fun i => pN (if i = 0 then t else v)
theorem two_first (t v : Int) : Pk.firstE (two t v) 2 = 0 := by simp [Pk.firstE, Pk.pvE, two, pN]
theorem two_put (t v : Int) : Pk.putL Pk.encV (two t v) 2 = payL t v := by
  show ([] ++ Pk.encV (pN t)) ++ Pk.encV (pN v) = _
  rw [encV_pN, encV_pN]
  rfl
theorem numL_le (z : Int) : (Pk.numL z).length ≤ 11 := Pk.grp_len 10 _
theorem payL_le (t v : Int) : (payL t v).length ≤ 22 := by unfold payL; rw [List.length_append]; have := numL_le t; have := numL_le v; omega
set_option maxHeartbeats 1000000 in
set_option maxRecDepth 20000 in
theorem right_any (t v : Int) (w : World) : Calls Tryz.prog 27 #[.agg #[.int .i64 t, .int .i64 v]] w fun e w' => e = .returned (.bool (rgt t v)) ∧ Old w w' := by
  have HU := hid (show Old w (w.alloc (.cells #[.int .i64 t, .int .i64 v] 62)) from (Old.refl w).alloc _)
  by_cases c1 : 0 ≤ t
  · by_cases c2 : t ≤ 1099511627776
    · by_cases c3 : 0 ≤ v
      · by_cases c4 : v ≤ 7
        · have e : rgt t v = true := rgt_iff.2 ⟨c1, c2, c3, c4⟩
          rw [e]
          clear e
          go_enter Tryz.func27, Tryz.ntmps27
          go_wp2
          go_ret
          exact ⟨rfl, HU.out⟩
        · have e : rgt t v = false := by unfold rgt; simp [c4]
          rw [e]
          clear e
          go_enter Tryz.func27, Tryz.ntmps27
          go_wp2
          go_ret
          exact ⟨rfl, HU.out⟩
      · have e : rgt t v = false := by unfold rgt; simp [c3]
        rw [e]
        clear e
        go_enter Tryz.func27, Tryz.ntmps27
        go_wp2
        go_ret
        exact ⟨rfl, HU.out⟩
    · have e : rgt t v = false := by unfold rgt; simp [c2]
      rw [e]
      clear e
      go_enter Tryz.func27, Tryz.ntmps27
      go_wp2
      go_ret
      exact ⟨rfl, HU.out⟩
  · have e : rgt t v = false := by unfold rgt; simp [c1]
    rw [e]
    clear e
    go_enter Tryz.func27, Tryz.ntmps27
    go_wp2
    go_ret
    exact ⟨rfl, HU.out⟩
set_option maxHeartbeats 2000000 in
set_option maxRecDepth 20000 in
theorem frame_any (t v : Int) (w : World) (ht : Pk.Tab w) (h1 : -9223372036854775808 ≤ t ∧ t ≤ 9223372036854775807) (h2 : -9223372036854775808 ≤ v ∧ v ≤ 9223372036854775807) : Calls Tryz.prog 59 #[.agg #[.int .i64 t, .int .i64 v]] w fun e w' => ∃ a c, e = .returned (.slice a (frB (payL t v)).length c) ∧ Own w' (.slice a (frB (payL t v)).length c) (frB (payL t v)) ∧ Old w w' ∧ ∀ g, (Value.slice a (frB (payL t v)).length c).ownBlock = some g → w.heap.size ≤ g := by
  have HT := hid ht
  obtain ⟨M, hM⟩ : ∃ M, payL t v = M := ⟨_, rfl⟩
  have HPt := hid (fun (W : World) (g : Nat) (hg : W.heap[g]? = some (.cells #[.int .i64 1, .int .i64 t, .float .f64 0, .slice none 0 0, .bool false, .int .i64 1, .int .i64 v, .float .f64 0, .slice none 0 0, .bool false] 142 (0, 0))) => show Calls Tryz.prog 88 #[.slice (some ⟨g, 0, none⟩) 2 2] W fun e w' => ∃ v', e = .returned (.tuple #[v', .int .i64 0]) ∧ Own w' v' M ∧ Old W w' from by
    have q := Pk.put_row (some ⟨g, 0, none⟩) 2 2 (two t v) (by omega) W (fun i hi => ⟨g, 0, rfl, by
      have hc : ∀ j, W.cell? ⟨g, j, none⟩ = (#[.int .i64 1, .int .i64 t, .float .f64 0, .slice none 0 0, .bool false, .int .i64 1, .int .i64 v, .float .f64 0, .slice none 0 0, .bool false] : Array Value)[j]? := fun j => Go.Joins.cell_of_block hg j
      match i, hi with
      | 0, _ => exact ⟨hc 0, hc 1, hc 2, hc 3, hc 4⟩
      | 1, _ => exact ⟨hc 5, hc 6, hc 7, hc 8, hc 9⟩, by
      unfold two
      split
      · exact pN_in t h1.1 h1.2 W
      · exact pN_in v h2.1 h2.2 W⟩)
    refine q.mono fun e w' z => ?_
    obtain ⟨v', L', e1, e2, e3, -, e5⟩ := z
    rw [two_first] at e1
    have e4 := e3 (two_first t v)
    rw [two_put, hM] at e4
    subst e4
    exact ⟨v', e1, Own.of e2, e5⟩)
  have HMl := hid (show M.length ≤ 4096 from by rw [← hM]; have := payL_le t v; omega)
  have HFr := hid (fun (W : World) (u : Old w W) (v' : Value) (o : Own W v' M) => show Calls Tryz.prog 89 #[v'] W fun e w' => ∃ a c, e = .returned (.tuple #[.slice a (frB M).length c, .int .i64 0]) ∧ Own w' (.slice a (frB M).length c) (frB M) ∧ Old W w' ∧ ∀ g, (Value.slice a (frB M).length c).ownBlock = some g → W.heap.size ≤ g from
    (Pk.frame_ok v' M.length (gd M) W (HT.out.up u) o.row HMl.out).mono fun e w' z => by
      obtain ⟨q, e1, e2, e3⟩ := z
      have o2 : Own w' q (frB M) := by
        unfold Own
        rw [frB_len]
        exact (e2.mono (Nat.zero_le _)).congr (fun i hi => (frB_gd M i hi).symm)
      obtain ⟨a, c, rfl⟩ := o2.len
      exact ⟨a, c, e1, o2, e3, fun g hg => (e2.own.lt g hg).1⟩)
  rw [hM]
  generalize (frB M).length = fl at *
  clear ht h1 h2 hM
  go_enter Tryz.func59, Tryz.ntmps59
  go_upto_region 1 with (fail)
  have HB := hid (alloc_at w (.cells #[.int .i64 t, .int .i64 v] 62))
  have HU := hid (show Old w (w.alloc (.cells #[.int .i64 t, .int .i64 v] 62)) from (Old.refl w).alloc _)
  generalize w.alloc (.cells #[.int .i64 t, .int .i64 v] 62) = w0 at *
  obtain ⟨g0, hg0⟩ : ∃ g0, g0 = w.heap.size := ⟨_, rfl⟩
  rw [← hg0] at HB ⊢
  clear hg0
  obtain ⟨x0, x1, -, -⟩ := box2 HB.out
  have HU1 := hid (show Old w (w0.alloc (.cells #[.int .i64 1, .int .i64 t, .float .f64 0, .slice none 0 0, .bool false, .int .i64 1, .int .i64 v, .float .f64 0, .slice none 0 0, .bool false] 142)) from HU.out.alloc _)
  have HPc := hid (HPt.out _ _ (alloc_at w0 (.cells #[.int .i64 1, .int .i64 t, .float .f64 0, .slice none 0 0, .bool false, .int .i64 1, .int .i64 v, .float .f64 0, .slice none 0 0, .bool false] 142)))
  go_wp2_with (first | (go_at_call 88; refine HPc.out.mono ?_; rintro e w2 ⟨v2, rfl, o2, u2⟩; have O2 := hid o2; have U2 := hid (HU1.out.trans u2); clear o2 u2) | (go_at_call 89; refine (HFr.out _ U2.out _ O2.out).mono ?_; rintro e w3 ⟨a3, c3, rfl, o3, u3, f3⟩; have O3 := hid o3; have U3 := hid (U2.out.trans u3); have F3 := hid (fun g e => Nat.le_trans U2.out.size (f3 g e)); clear o3 u3 f3))
  refine bodyPost_ret (v := .slice a3 fl c3) (by simp [results, Tryz.results59, go_sem]) rfl ⟨a3, c3, rfl, O3.out, U3.out, F3.out⟩
end Go.Proofs.YtfphopleniidfaaGreatDoor
