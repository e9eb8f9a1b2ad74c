/- The example that the laws of layer 16 begin with: DropTo at it; no condition. -/
import Derived.Test.YtgpfmohaogppiaaL5
namespace Go.Proofs.Ytgpfmohaogppiaa
open Go.RowKit Go.Lib
set_option linter.unusedVariables false
set_option linter.unusedSimpArgs false
set_option maxRecDepth 20000
set_option maxHeartbeats 2000000 in
set_option maxRecDepth 20000 in
theorem upTo1_any (lb gc : Nat) (at0 ix : Int) (i : Int) (a b : Nat) (w : World) (h3 : w.cell? ⟨lb, 3, none⟩ = some (.slice (some ⟨gc, 0, none⟩) 1 1)) (k0 : w.cell? ⟨gc, 0, none⟩ = some (.int .i64 at0)) (ha : w.cell? ⟨a, 0, none⟩ = some (.pointer (some ⟨lb, 0, none⟩))) (hb : w.cell? ⟨b, 0, none⟩ = some (.int .i64 ix)) :
    Calls Try.prog 49 #[.int .i64 0, .pointer (some ⟨a, 0, none⟩), .pointer (some ⟨b, 0, none⟩)] w fun e w' => e = .returned (.bool (decide (ix < at0))) ∧ Old w w' := by
  go_enter Try.func49, Try.ntmps49
  go_wp2
  go_quiet (fail)
  go_wp2
  go_ret
  exact ⟨rfl, (Old.refl _).drewN _⟩
set_option maxHeartbeats 2000000 in
set_option maxRecDepth 20000 in
theorem search1 (F : FuncId) (caps : Array Value) (henter : ∀ args w, (callFunc F args).run Try.prog w = .ok (.enter F args) w) (q : Bool) (w : World)
    (hf : Calls Try.prog F (#[.int .i64 0] ++ caps) w fun e w' => e = .returned (.bool q) ∧ Old w w') :
    Calls Try.prog 48 #[.int .i64 1, .func (.func F) #[] caps] w fun e w' => e = .returned (.int .i64 (if q then 0 else 1)) ∧ Old w w' := by
  have HF := hid hf
  clear hf
  go_enter Try.func48, Try.ntmps48
  go_wp2
  go_loopw [5, 6] (fun i j wx => (i = .int .i64 0 ∧ j = .int .i64 1 ∧ wx = w) ∨ (i = .int .i64 (if q then 0 else 1) ∧ j = .int .i64 (if q then 0 else 1) ∧ Old w wx)) (fun i j _ => (intOf j - intOf i).toNat)
  case atStart => exact .inl ⟨rfl, rfl, rfl⟩
  case round =>
    rcases hrel with ⟨rfl, rfl, rfl⟩ | ⟨rfl, rfl, hu⟩
    · go_wp2_with (fail)
      refine HF.out.mono ?_
      rintro e w2 ⟨rfl, o2⟩
      have O2 := hid o2
      clear o2
      cases q with
      | false =>
        go_wp2
        exact ⟨.inr ⟨rfl, rfl, O2.out⟩, by decide⟩
      | true =>
        go_wp2
        exact ⟨.inr ⟨rfl, rfl, O2.out⟩, by decide⟩
    · cases q with
      | false =>
        go_wp2
        go_ret
        exact ⟨rfl, hu⟩
      | true =>
        go_wp2
        go_ret
        exact ⟨rfl, hu⟩
set_option maxHeartbeats 2000000 in
set_option maxRecDepth 20000 in
theorem upTo_one (lb gc : Nat) (at0 ix : Int) (w : World) (h3 : w.cell? ⟨lb, 3, none⟩ = some (.slice (some ⟨gc, 0, none⟩) 1 1)) (k0 : w.cell? ⟨gc, 0, none⟩ = some (.int .i64 at0)) :
    Calls Try.prog 34 #[.pointer (some ⟨lb, 0, none⟩), .int .i64 ix] w fun e w' => e = .returned (.int .i64 1) ∧ Old w w' := by
  have hmf : ∀ (fn : Fn) (first cap : Array Value) (w : World), (Instr.makeFunc fn first cap).run Try.prog w = .ok (.func fn first cap) w := fun _ _ _ _ => rfl
  have H3 := hid h3
  have K0 := hid k0
  have x3 : ((w.alloc (.cells #[.pointer (some ⟨lb, 0, none⟩)] 26)).alloc (.cells #[.int .i64 ix] 2)).cell? ⟨lb, 3, none⟩ = some (.slice (some ⟨gc, 0, none⟩) 1 1) := (((Old.refl _).alloc _).alloc _).keep h3
  have x0 : ((w.alloc (.cells #[.pointer (some ⟨lb, 0, none⟩)] 26)).alloc (.cells #[.int .i64 ix] 2)).cell? ⟨w.heap.size, 0, none⟩ = some (.pointer (some ⟨lb, 0, none⟩)) := ((Old.refl _).alloc _).keep (by simp)
  have y0 : ((w.alloc (.cells #[.pointer (some ⟨lb, 0, none⟩)] 26)).alloc (.cells #[.int .i64 ix] 2)).cell? ⟨w.heap.size + 1, 0, none⟩ = some (.int .i64 ix) := by simp
  have z0 : ((w.alloc (.cells #[.pointer (some ⟨lb, 0, none⟩)] 26)).alloc (.cells #[.int .i64 ix] 2)).cell? ⟨gc, 0, none⟩ = some (.int .i64 at0) := (((Old.refl _).alloc _).alloc _).keep k0
  have HS := hid (search1 49 #[.pointer (some ⟨w.heap.size, 0, none⟩), .pointer (some ⟨w.heap.size + 1, 0, none⟩)] (enters_of Try.func49 (by kernel_rfl) rfl) _ _ (upTo1_any lb gc at0 ix 0 _ _ _ x3 z0 x0 y0))
  have OW := hid (((Old.refl w).alloc (.cells #[.pointer (some ⟨lb, 0, none⟩)] 26)).alloc (.cells #[.int .i64 ix] 2))
  generalize hs : ((w.alloc (.cells #[.pointer (some ⟨lb, 0, none⟩)] 26)).alloc (.cells #[.int .i64 ix] 2)) = w1 at *
  go_enter Try.func34, Try.ntmps34
  go_upto_region 1 with (fail)
  try rw [hs]
  generalize w.heap.size = sz at *
  clear hs h3 k0 z0 y0
  by_cases hq : ix < at0
  · rw [decide_eq_true hq] at HS
    go_wp2_with (go_at_call 48; refine HS.out.mono ?_; rintro e w2 ⟨rfl, o2⟩; have O2 := hid o2; clear o2)
    go_ret
    exact ⟨rfl, OW.out.trans O2.out⟩
  · rw [decide_eq_false hq] at HS
    go_wp2_with (go_at_call 48; refine HS.out.mono ?_; rintro e w2 ⟨rfl, o2⟩; have O2 := hid o2; clear o2)
    go_ret
    exact ⟨rfl, OW.out.trans O2.out⟩
theorem run_clear_E (w : World) (ty : TypeId) (g c : Nat) (hs : ∀ j, j < 4 → (w.cell? ⟨g, j, none⟩).isSome = true ∧ w.frozen? ⟨g, j, none⟩ = false) :
    (Builtin.clear_ #[29] ty #[.slice (some ⟨g, 0, none⟩) 1 c]).run Try.prog w = .ok (.tuple #[]) (w.setCells g 0 [.int .i64 0, .int .i64 0, .int .i64 0, .slice none 0 0]) := by
  obtain ⟨i0, hi, hz0, hz1, hz2⟩ := info_parts infoEnt
  have hst := run_storeCells_cells (P := Try.prog) g 0 [.int .i64 0, .int .i64 0, .int .i64 0, .slice none 0 0] 0 w (fun j hj => by simpa using (hs j hj).1) (fun j hj => by simpa using (hs j hj).2) (by simp [Value.oneCell'])
  simp only [Nat.add_zero] at hst
  have e : (Builtin.zeroCells #[.int .i64 0, .int .i64 0, .int .i64 0, .slice none 0 0] 1).toList = [.int .i64 0, .int .i64 0, .int .i64 0, .slice none 0 0] := by kernel_rfl
  simp [Builtin.clear_, run_underlying Try.underlying29, zeroValue, typeInfo, hi, hz0, Value.cells, e, hst]
theorem run_clear_C0 (w : World) (ty : TypeId) (g c : Nat) :
    (Builtin.clear_ #[66] ty #[.slice (some ⟨g, 0, none⟩) 0 c]).run Try.prog w = .ok (.tuple #[]) w := by
  simp [Builtin.clear_, run_underlying Try.underlying66]
/-- The example's log, and how DropTo leaves it. -/
structure Ex (w0 : World) (lb gc g : Nat) (u1 u2 : Value) (W : World) : Prop where
  u : Old w0 W
  c0 : W.cell? ⟨lb, 0, none⟩ = some (.int .i64 1)
  c1 : W.cell? ⟨lb, 1, none⟩ = some (.int .i64 1)
  c2 : ∃ c, W.cell? ⟨lb, 2, none⟩ = some (.slice (some ⟨g, 4, none⟩) 1 c) ∧ 1 ≤ c ∧ c ≤ 9223372036854775807
  c3 : W.cell? ⟨lb, 3, none⟩ = some (.slice (some ⟨gc, 0, none⟩) 1 1)
  e : EntIn W g 4 (en 2 3)
  k0 : W.cell? ⟨gc, 0, none⟩ = some (.int .i64 1)
  k1 : W.cell? ⟨gc, 1, none⟩ = some u1
  k2 : W.cell? ⟨gc, 2, none⟩ = some u2
def exL : List Ent := [en 1 1, en 2 3]
theorem ex_some : ∀ j, j < 4 → ((ecs exL)[j]?).isSome = true
  | 0, _ => rfl
  | 1, _ => rfl
  | 2, _ => rfl
  | 3, _ => rfl
/-- The example's cells while DropTo is under way. -/
structure XS (w0 : World) (lb gc g : Nat) (a b c d k0 k1 k2 : Value) (W : World) : Prop where
  u : Old w0 W
  gl : gc < lb
  lg : lb < g
  b0 : w0.heap.size ≤ gc
  c0 : W.cell? ⟨lb, 0, none⟩ = some a
  c1 : W.cell? ⟨lb, 1, none⟩ = some b
  c2 : W.cell? ⟨lb, 2, none⟩ = some c
  c3 : W.cell? ⟨lb, 3, none⟩ = some d
  k0 : W.cell? ⟨gc, 0, none⟩ = some k0
  k1 : W.cell? ⟨gc, 1, none⟩ = some k1
  k2 : W.cell? ⟨gc, 2, none⟩ = some k2
  f : ∀ j, W.frozen? ⟨lb, j, none⟩ = false
  kf : ∀ j, W.frozen? ⟨gc, j, none⟩ = false
  e : EntIn W g 4 (en 2 3)
theorem XS.old {w0 W W' : World} {lb gc g : Nat} {a b c d k0 k1 k2 : Value} (h : XS w0 lb gc g a b c d k0 k1 k2 W) (u : Old W W') : XS w0 lb gc g a b c d k0 k1 k2 W' :=
  ⟨h.u.trans u, h.gl, h.lg, h.b0, u.keep h.c0, u.keep h.c1, u.keep h.c2, u.keep h.c3, u.keep h.k0, u.keep h.k1, u.keep h.k2, fun j => (Below.frozen (p := ⟨lb, j, none⟩) u (show lb < _ from World.block_lt_of_cell? W ⟨lb, 0, none⟩ h.c0)).trans (h.f j), fun j => (Below.frozen (p := ⟨gc, j, none⟩) u (show gc < _ from World.block_lt_of_cell? W ⟨gc, 0, none⟩ h.k0)).trans (h.kf j), h.e.old u⟩
theorem othC {W : World} {b j b' j' : Nat} {v u : Value} (h : W.cell? ⟨b, j, none⟩ = some v) (hn : b' ≠ b ∨ j' ≠ j) : (W.setCell ⟨b', j', none⟩ u).cell? ⟨b, j, none⟩ = some v := by
  rw [World.cell?_setCell_other _ _ _ _ (fun e => by cases e; simp at hn)]; exact h
theorem EntIn.oth {W : World} {g o b' j' : Nat} {e : Ent} {u : Value} (h : EntIn W g o e) (hn : b' ≠ g) : EntIn (W.setCell ⟨b', j', none⟩ u) g o e := ⟨othC h.1 (.inl hn), othC h.2.1 (.inl hn), othC h.2.2.1 (.inl hn), othC h.2.2.2 (.inl hn)⟩
theorem XS.set0 {w0 W : World} {lb gc g : Nat} {a b c d k0 k1 k2 : Value} (h : XS w0 lb gc g a b c d k0 k1 k2 W) (v : Value) : XS w0 lb gc g v b c d k0 k1 k2 (W.setCell ⟨lb, 0, none⟩ v) := by
  have h1 := h.gl; have h2 := h.lg; have h3 := h.b0
  exact ⟨h.u.setCell (by show w0.heap.size ≤ lb; omega) _, h1, h2, h3, World.cell?_setCell_same _ _ _ h.c0, othC h.c1 (.inr (by omega)), othC h.c2 (.inr (by omega)), othC h.c3 (.inr (by omega)), othC h.k0 (.inl (by omega)), othC h.k1 (.inl (by omega)), othC h.k2 (.inl (by omega)), fun j => by rw [World.frozen?_setCell]; exact h.f j, fun j => by rw [World.frozen?_setCell]; exact h.kf j, h.e.oth (by omega)⟩
theorem XS.set1 {w0 W : World} {lb gc g : Nat} {a b c d k0 k1 k2 : Value} (h : XS w0 lb gc g a b c d k0 k1 k2 W) (v : Value) : XS w0 lb gc g a v c d k0 k1 k2 (W.setCell ⟨lb, 1, none⟩ v) := by
  have h1 := h.gl; have h2 := h.lg; have h3 := h.b0
  exact ⟨h.u.setCell (by show w0.heap.size ≤ lb; omega) _, h1, h2, h3, othC h.c0 (.inr (by omega)), World.cell?_setCell_same _ _ _ h.c1, othC h.c2 (.inr (by omega)), othC h.c3 (.inr (by omega)), othC h.k0 (.inl (by omega)), othC h.k1 (.inl (by omega)), othC h.k2 (.inl (by omega)), fun j => by rw [World.frozen?_setCell]; exact h.f j, fun j => by rw [World.frozen?_setCell]; exact h.kf j, h.e.oth (by omega)⟩
theorem XS.set2 {w0 W : World} {lb gc g : Nat} {a b c d k0 k1 k2 : Value} (h : XS w0 lb gc g a b c d k0 k1 k2 W) (v : Value) : XS w0 lb gc g a b v d k0 k1 k2 (W.setCell ⟨lb, 2, none⟩ v) := by
  have h1 := h.gl; have h2 := h.lg; have h3 := h.b0
  exact ⟨h.u.setCell (by show w0.heap.size ≤ lb; omega) _, h1, h2, h3, othC h.c0 (.inr (by omega)), othC h.c1 (.inr (by omega)), World.cell?_setCell_same _ _ _ h.c2, othC h.c3 (.inr (by omega)), othC h.k0 (.inl (by omega)), othC h.k1 (.inl (by omega)), othC h.k2 (.inl (by omega)), fun j => by rw [World.frozen?_setCell]; exact h.f j, fun j => by rw [World.frozen?_setCell]; exact h.kf j, h.e.oth (by omega)⟩
theorem XS.set3 {w0 W : World} {lb gc g : Nat} {a b c d k0 k1 k2 : Value} (h : XS w0 lb gc g a b c d k0 k1 k2 W) (v : Value) : XS w0 lb gc g a b c v k0 k1 k2 (W.setCell ⟨lb, 3, none⟩ v) := by
  have h1 := h.gl; have h2 := h.lg; have h3 := h.b0
  exact ⟨h.u.setCell (by show w0.heap.size ≤ lb; omega) _, h1, h2, h3, othC h.c0 (.inr (by omega)), othC h.c1 (.inr (by omega)), othC h.c2 (.inr (by omega)), World.cell?_setCell_same _ _ _ h.c3, othC h.k0 (.inl (by omega)), othC h.k1 (.inl (by omega)), othC h.k2 (.inl (by omega)), fun j => by rw [World.frozen?_setCell]; exact h.f j, fun j => by rw [World.frozen?_setCell]; exact h.kf j, h.e.oth (by omega)⟩
theorem XS.setk {w0 W : World} {lb gc g : Nat} {a b c d k0 k1 k2 : Value} (h : XS w0 lb gc g a b c d k0 k1 k2 W) (v : Value) : XS w0 lb gc g a b c d v k1 k2 (W.setCell ⟨gc, 0, none⟩ v) := by
  have h1 := h.gl; have h2 := h.lg; have h3 := h.b0
  exact ⟨h.u.setCell (by show w0.heap.size ≤ gc; omega) _, h1, h2, h3, othC h.c0 (.inl (by omega)), othC h.c1 (.inl (by omega)), othC h.c2 (.inl (by omega)), othC h.c3 (.inl (by omega)), World.cell?_setCell_same _ _ _ h.k0, othC h.k1 (.inr (by omega)), othC h.k2 (.inr (by omega)), fun j => by rw [World.frozen?_setCell]; exact h.f j, fun j => by rw [World.frozen?_setCell]; exact h.kf j, h.e.oth (by omega)⟩
theorem LogO.s {w0 W : World} {lb gc : Nat} {ve : Value} {at0 : Int} {cv1 cv2 : Value} (h : LogO w0 lb gc ve 0 0 at0 cv1 cv2 exL W) : LogS W lb 0 0 2 (entA exL) := ⟨h.r (by decide), by decide, by decide, fun i hi => by
  match i, hi with
  | 0, _ => rfl
  | 1, _ => rfl⟩
set_option maxHeartbeats 4000000 in
set_option maxRecDepth 20000 in
theorem dropTo_ex (w0 : World) (lb gc : Nat) (ve : Value) (u1 u2 : Value) (w : World) (h : LogO w0 lb gc ve 0 0 0 u1 u2 exL w) :
    Calls Try.prog 13 #[.pointer (some ⟨lb, 0, none⟩), .int .i64 1] w fun e w' => e = .returned (.int .i64 0) ∧ ∃ g, Ex w0 lb gc g u1 u2 w' := by
  have HT := hid (term_any lb 0 0 2 (entA exL) 1 w h.s)
  rw [show tmV 0 0 2 (entA exL) 1 = 1 from by decide, show tmB 0 2 1 = true from by decide] at HT
  have HA := hid (fun (W : World) (u : Old w W) => ahead_any lb 0 0 2 (entA exL) 2 W (h.s.old u))
  rw [show ahN 0 2 2 = 1 from by decide] at HA
  have HL := hid h
  obtain ⟨g, c, rfl, hg, hc, hcm, cl, fr⟩ : ∃ g c, ve = .slice (some ⟨g, 0, none⟩) 2 c ∧ lb < g ∧ 2 ≤ c ∧ c ≤ 9223372036854775807 ∧ (∀ j, j < 8 → w.cell? ⟨g, j, none⟩ = (ecs exL)[j]?) ∧ ∀ j, w.frozen? ⟨g, j, none⟩ = false := by
    have o := h.o
    unfold OwnE at o
    rcases o.2 with ⟨_, e⟩ | ⟨g, cap, cur, rfl, hb, hg, hnc, hcm, hcs, htk⟩
    · cases e
    · exact ⟨g, cap, rfl, by omega, hnc, by unfold maxLen at hcm; omega, fun j hj => o.cellAt j (by simp [exL]; omega), fun j => by simp [World.frozen?, hg]⟩
  have gl := h.g
  have CL := hid cl
  have FR := hid fr
  clear h cl fr
  go_enter Try.func13, Try.ntmps13
  go_upto_region 5 with (first | (go_at_call 18; refine HT.out.mono ?_; rintro e w1 ⟨rfl, o1⟩; have O1 := hid o1; clear o1) | (go_at_call 33; refine (HA.out _ O1.out).mono ?_; rintro e w2 ⟨rfl, o2⟩; have O2 := hid (O1.out.trans o2); clear o2))
  have L2 := hid (HL.out.old O2.out)
  have C2 : Hid (∀ j, j < 8 → w2.cell? ⟨g, j, none⟩ = (ecs exL)[j]?) := hid (fun j hj => by
    have q := CL.out j hj
    obtain ⟨v, hv⟩ : ∃ v, (ecs exL)[j]? = some v := ⟨_, List.getElem?_eq_getElem (by rw [ecs_len]; exact hj)⟩
    rw [hv] at q ⊢
    exact O2.out.keep q)
  have F2 : Hid (∀ j, j < 8 → w2.frozen? ⟨g, j, none⟩ = false) := hid (fun j hj => by
    have q := CL.out j hj
    obtain ⟨v, hv⟩ : ∃ v, (ecs exL)[j]? = some v := ⟨_, List.getElem?_eq_getElem (by rw [ecs_len]; exact hj)⟩
    rw [hv] at q
    exact O2.out.keepF q (FR.out j))
  clear HL CL FR HT HA O1 O2
  have x2 := L2.out.c2
  have hclr := fun ty c => run_clear_E w2 ty g c (fun j hj => ⟨by rw [C2.out j (by omega)]; exact ex_some j hj, F2.out j (by omega)⟩)
  go_upto_region 6 with (fail)
  have X3 : Hid (XS w0 lb gc g (.int .i64 0) (.int .i64 0) (.slice (some ⟨g, 0, none⟩) 2 c) (.slice (some ⟨gc, 0, none⟩) 1 1) (.int .i64 0) u1 u2 (w2.setCells g 0 [.int .i64 0, .int .i64 0, .int .i64 0, .slice none 0 0])) := hid (by
    have hb := L2.out.b
    have far : ∀ (b j : Nat) (v : Value), b ≠ g → w2.cell? ⟨b, j, none⟩ = some v → (w2.setCells g 0 [.int .i64 0, .int .i64 0, .int .i64 0, .slice none 0 0]).cell? ⟨b, j, none⟩ = some v := fun b j v hn q => (World.cell?_setCells_out g _ 0 w2 ⟨b, j, none⟩ (fun e => absurd e hn)).trans q
    have same : ∀ j, 4 ≤ j → j < 8 → (w2.setCells g 0 [.int .i64 0, .int .i64 0, .int .i64 0, .slice none 0 0]).cell? ⟨g, j, none⟩ = (ecs exL)[j]? := fun j h4 h8 => (World.cell?_setCells_out g _ 0 w2 ⟨g, j, none⟩ (fun _ _ => .inr (by simpa using h4))).trans (C2.out j h8)
    exact ⟨Old.setCells (by omega) _ 0 L2.out.u, gl, hg, hb, far _ _ _ (by omega) L2.out.c0, far _ _ _ (by omega) L2.out.c1, far _ _ _ (by omega) L2.out.c2, far _ _ _ (by omega) L2.out.c3, far _ _ _ (by omega) L2.out.k0, far _ _ _ (by omega) L2.out.k1, far _ _ _ (by omega) L2.out.k2, fun j => by rw [World.frozen?_setCells]; exact L2.out.f j, fun j => by rw [World.frozen?_setCells]; exact L2.out.kf j, ⟨(same 4 (by omega) (by omega)).trans rfl, (same 5 (by omega) (by omega)).trans rfl, (same 6 (by omega) (by omega)).trans rfl, (same 7 (by omega) (by omega)).trans rfl⟩⟩)
  generalize w2.setCells g 0 [.int .i64 0, .int .i64 0, .int .i64 0, .slice none 0 0] = w3 at *
  clear L2 C2 F2 x2 hclr
  have y2 := X3.out.c2
  have yf := X3.out.f 2
  have hcz : (1 : Int) ≤ (c : Int) := by omega
  go_upto_region 7 with (fail)
  have X4 := hid (X3.out.set2 (.slice (some ⟨g, 4, none⟩) 1 (c - 1)))
  generalize w3.setCell ⟨lb, 2, none⟩ (.slice (some ⟨g, 4, none⟩) 1 (c - 1)) = w4 at *
  clear X3 y2 yf
  have HU := hid (upTo_one lb gc 0 1 w4 X4.out.c3 X4.out.k0)
  go_upto_region 8 with (go_at_call 34; refine HU.out.mono ?_; rintro e w5 ⟨rfl, o5⟩; have X5 := hid (X4.out.old o5); clear o5)
  clear X4 HU
  have z3 := X5.out.c3
  have zf := X5.out.f 3
  have hclr := fun ty c => run_clear_C0 w5 ty gc c
  go_upto_region 10 with (fail)
  have X6 := hid (X5.out.set3 (.slice (some ⟨gc, 0, none⟩) 1 1))
  generalize w5.setCell ⟨lb, 3, none⟩ (.slice (some ⟨gc, 0, none⟩) 1 1) = w6 at *
  clear X5 z3 zf hclr
  have z3 := X6.out.c3
  have zk := X6.out.k0
  have zf := X6.out.kf 0
  go_upto_region 11 with (fail)
  have X7 := hid (X6.out.setk (.int .i64 1))
  generalize w6.setCell ⟨gc, 0, none⟩ (.int .i64 1) = w7 at *
  clear X6 z3 zk zf
  have z0 := X7.out.c0
  have z1 := X7.out.c1
  have zf0 := X7.out.f 0
  have zf1 := X7.out.f 1
  have X8 := hid ((X7.out.set0 (.int .i64 1)).set1 (.int .i64 1))
  clear X7
  go_wp2
  go_ret
  refine ⟨rfl, g, X8.out.u, X8.out.c0, X8.out.c1, ⟨c - 1, X8.out.c2, by omega, by omega⟩, X8.out.c3, X8.out.e, X8.out.k0, X8.out.k1, X8.out.k2⟩
end Go.Proofs.Ytgpfmohaogppiaa
