/- A block of bytes that the law writes into; two cells over what is old; conditions: it lies in memory. -/
import Derived.Test.YthjfkmjeppdcnaaGreatKl26
namespace Go.Proofs.YthjfkmjeppdcnaaGreat
open Go.RowKit Go.Lib
set_option linter.unusedVariables false
set_option linter.unusedSimpArgs false
set_option maxRecDepth 20000
def BW (w : World) (g n : Nat) : Prop := ∃ cs : Array Value, w.heap[g]? = some (.cells cs 5 (0, 0)) ∧ ∀ i, i < n → ∃ x : Int, cs[i]? = some (.int .u8 x)
theorem BW.cell {w : World} {g n : Nat} (h : BW w g n) (i : Nat) (hi : i < n) : ∃ x : Int, w.cell? ⟨g, i, none⟩ = some (.int .u8 x) ∧ w.frozen? ⟨g, i, none⟩ = false := by
 obtain ⟨cs, h, hx⟩ := h
 obtain ⟨x, hx⟩ := hx i hi
 exact ⟨x, by simp [World.cell?, h, hx], by simp [World.frozen?, h]⟩
theorem BW.set {w : World} {g n : Nat} (h : BW w g n) (i : Nat) (y : Int) : BW (w.setCell ⟨g, i, none⟩ (.int .u8 y)) g n := by
 obtain ⟨cs, h, hx⟩ := h
 have q := heap_setCell_same w g i _ _ (.int .u8 y) h
 refine ⟨_, q, fun j hj => ?_⟩
 obtain ⟨x, hx⟩ := hx j hj
 by_cases e : i = j
 ·subst e
  have hi : i < cs.size := by
   by_cases hi : i < cs.size
   ·exact hi
   ·rw [Array.getElem?_eq_none (by omega)] at hx; cases hx
  exact ⟨y, by simp [hi]⟩
 ·exact ⟨x, by simp [Array.getElem?_setIfInBounds, e, hx]⟩
theorem BW.old {w w' : World} {g n : Nat} (h : BW w g n) (u : Old w w') : BW w' g n := by
 obtain ⟨cs, h, hx⟩ := h
 exact ⟨cs, u.block h, hx⟩
theorem BW.of {base : Nat} {w : World} {v : Value} {L : List Nat} (h : Pk.OwnL base w v L) (hn : 0 < L.length) : ∃ g c, v = .slice (some ⟨g, 0, none⟩) L.length c ∧ base ≤ g ∧ L.length ≤ c ∧ L.length ≤ 9223372036854775807 ∧ BW w g L.length := by
 have h2 := h.own
 obtain ⟨g0, cap0, e0, -, -, hnc0, hcm0, hcell, -⟩ := Pk.OwnB.shape h hn
 rcases h2.2 with ⟨_, e⟩ | ⟨g, cap, cur, rfl, hb, hg, hnc, hcm, hcs, htk⟩
 ·omega
 ·simp only [Value.slice.injEq, Option.some.injEq, Addr.mk.injEq, and_true] at e0
  obtain ⟨rfl, -⟩ := e0
  refine ⟨g, cap, rfl, hb, by omega, by unfold maxLen at hcm; omega, cur, hg, fun i hi => ⟨((Pk.gd L i : Nat) : Int), ?_⟩⟩
  have := hcell i hi
  simpa [World.cell?, hg] using this
theorem C2.old {w w' : World} {p q : Addr} {u v : Value} (o : Old w w') (h : w.cell? p = some u ∧ w.cell? q = some v) : w'.cell? p = some u ∧ w'.cell? q = some v := ⟨o.keep h.1, o.keep h.2⟩
theorem C7.old {w w' : World} {A0 A1 A2 B0 B1 B2 C : Addr} {x0 x1 x2 y0 y1 y2 z : Value} (o : Old w w') (h : (w.cell? A0 = some x0 ∧ w.cell? A1 = some x1 ∧ w.cell? A2 = some x2) ∧ (w.cell? B0 = some y0 ∧ w.cell? B1 = some y1 ∧ w.cell? B2 = some y2) ∧ w.cell? C = some z) : (w'.cell? A0 = some x0 ∧ w'.cell? A1 = some x1 ∧ w'.cell? A2 = some x2) ∧ (w'.cell? B0 = some y0 ∧ w'.cell? B1 = some y1 ∧ w'.cell? B2 = some y2) ∧ w'.cell? C = some z := ⟨⟨o.keep h.1.1, o.keep h.1.2.1, o.keep h.1.2.2⟩, ⟨o.keep h.2.1.1, o.keep h.2.1.2.1, o.keep h.2.1.2.2⟩, o.keep h.2.2⟩
theorem six_set {w : World} {b : Nat} {v0 v1 v2 v3 v4 v5 u0 u1 u2 u3 u4 u5 : Value} {T : TypeId} (h : w.heap[b]? = some (.cells #[v0, v1, v2, v3, v4, v5] T (0, 0))) : ((((((w.setCell ⟨b, 0, none⟩ u0).setCell ⟨b, 1, none⟩ u1).setCell ⟨b, 2, none⟩ u2).setCell ⟨b, 3, none⟩ u3).setCell ⟨b, 4, none⟩ u4).setCell ⟨b, 5, none⟩ u5).heap[b]? = some (.cells #[u0, u1, u2, u3, u4, u5] T (0, 0)) ∧ Chg [b] w ((((((w.setCell ⟨b, 0, none⟩ u0).setCell ⟨b, 1, none⟩ u1).setCell ⟨b, 2, none⟩ u2).setCell ⟨b, 3, none⟩ u3).setCell ⟨b, 4, none⟩ u4).setCell ⟨b, 5, none⟩ u5) :=
 ⟨(Go.Joins.block_setCell (Go.Joins.block_setCell (Go.Joins.block_setCell (Go.Joins.block_setCell (Go.Joins.block_setCell (Go.Joins.block_setCell h u0 (i := 0)) u1 (i := 1)) u2 (i := 2)) u3 (i := 3)) u4 (i := 4)) u5 (i := 5)), ((((((Chg.set w ⟨b, 0, none⟩ u0 (by simp)).trans (Chg.set _ ⟨b, 1, none⟩ u1 (by simp))).trans (Chg.set _ ⟨b, 2, none⟩ u2 (by simp))).trans (Chg.set _ ⟨b, 3, none⟩ u3 (by simp))).trans (Chg.set _ ⟨b, 4, none⟩ u4 (by simp))).trans (Chg.set _ ⟨b, 5, none⟩ u5 (by simp)))⟩
set_option maxHeartbeats 2000000 in
theorem targetQ_any (base cb mb : Nat) (mv rv : Value) (s : Cs) (w : World) (h : ClAt base cb mb mv rv s w) (hok : CsOk s) :
    Calls Tryz.prog 12 #[.pointer (some ⟨cb, 0, none⟩)] w fun e w' => e = .returned (.int .i64 (tgt s)) ∧ ∃ m, w' = w.drewN m := by
 obtain ⟨⟨x0, x1, x2, x3, x4, x5⟩, -⟩ := box6 h.blk
 have ht := hok.tg
 have h7 := hok.m1.2
 obtain ⟨g, cap, rfl, hc⟩ := OwnI.at h.mem s.tg ht
 have he : s.ms[s.tg] = tgt s := by unfold tgt; rw [List.getD_eq_getElem?_getD, List.getElem?_eq_getElem ht]; rfl
 rw [he] at hc
 clear he h hok x0 x3 x4 x5
 generalize tgt s = y at *
 generalize s.tg = k at *
 generalize s.ms.length = n at *
 have l1 : (0 : Int) ≤ (k : Int) := by omega
 have l2 : (k : Int) < (n : Int) := by omega
 go_enter Tryz.func12, Tryz.ntmps12
 go_upto_region 1 with fail
 go_quiet (fail)
 go_wp2
 go_ret
 exact ⟨rfl, _, rfl⟩
theorem KSx.targetQ {w0 : World} {cb : Nat} {FB : List Nat} {s : Cs} {w : World} (h : KSx w0 cb FB s w) : Calls Tryz.prog 12 #[.pointer (some ⟨cb, 0, none⟩)] w fun e w' => e = .returned (.int .i64 (tgt s)) ∧ ∃ m, w' = w.drewN m := by
 obtain ⟨hok, he, u, base, mb, mv, rv, hb, hc⟩ := h.st
 exact targetQ_any base cb mb mv rv s w hc hok
end Go.Proofs.YthjfkmjeppdcnaaGreat
