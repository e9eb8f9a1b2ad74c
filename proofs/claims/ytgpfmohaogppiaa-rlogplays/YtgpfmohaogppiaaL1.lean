/- rlog's readers Base, Last, Newer at every log that lies in memory; conditions: it lies there. -/
import Derived.Test.YtgpfmohaogppiaaZa
import Derived.Deep.MidRow
import Derived.Deep.DeepCutAuto
namespace Go.Proofs.Ytgpfmohaogppiaa
open Go.RowKit Go.Lib
set_option linter.unusedVariables false
set_option linter.unusedSimpArgs false
set_option maxRecDepth 20000
/-- An entry's cells. -/
structure Ent where
  i : Int
  t : Int
  k : Int
  p : Option Addr
  n : Nat
  c : Nat
instance : Inhabited Ent := ⟨⟨0, 0, 0, none, 0, 0⟩⟩
abbrev EntIn (w : World) (g o : Nat) (e : Ent) : Prop := w.cell? ⟨g, o, none⟩ = some (.int .i64 e.i) ∧ w.cell? ⟨g, o + 1, none⟩ = some (.int .i64 e.t) ∧ w.cell? ⟨g, o + 2, none⟩ = some (.int .i64 e.k) ∧ w.cell? ⟨g, o + 3, none⟩ = some (.slice e.p e.n e.c)
theorem EntIn.old {w w' : World} {g o : Nat} {e : Ent} (h : EntIn w g o e) (u : Old w w') : EntIn w' g o e := ⟨u.keep h.1, u.keep h.2.1, u.keep h.2.2.1, u.keep h.2.2.2⟩
/-- A log as it is read: its base, and its entries. -/
def LogR (w : World) (lb : Nat) (ix tm : Int) (n : Nat) (f : Nat → Ent) : Prop := w.cell? ⟨lb, 0, none⟩ = some (.int .i64 ix) ∧ w.cell? ⟨lb, 1, none⟩ = some (.int .i64 tm) ∧ n ≤ 8796093022208 ∧ ∃ (p : Option Addr) (c : Nat), w.cell? ⟨lb, 2, none⟩ = some (.slice p n c) ∧ n ≤ c ∧ c ≤ 9223372036854775807 ∧ ∀ i, i < n → ∃ g off, p = some ⟨g, off, none⟩ ∧ EntIn w g (off + i * 4) (f i)
theorem LogR.old {w w' : World} {lb : Nat} {ix tm : Int} {n : Nat} {f : Nat → Ent} (h : LogR w lb ix tm n f) (u : Old w w') : LogR w' lb ix tm n f := by
  obtain ⟨h1, h2, h3, p, c, h4, h5, h6, h7⟩ := h
  exact ⟨u.keep h1, u.keep h2, h3, p, c, u.keep h4, h5, h6, fun i hi => by obtain ⟨g, off, e, q⟩ := h7 i hi; exact ⟨g, off, e, q.old u⟩⟩
def lastI (ix : Int) (n : Nat) (f : Nat → Ent) : Int := if n = 0 then ix else (f (n - 1)).i
def lastT (tm : Int) (n : Nat) (f : Nat → Ent) : Int := if n = 0 then tm else (f (n - 1)).t
set_option maxHeartbeats 1000000 in
set_option maxRecDepth 20000 in
theorem base_any (lb : Nat) (ix tm : Int) (n : Nat) (f : Nat → Ent) (w : World) (h : LogR w lb ix tm n f) :
    Calls Try.prog 9 #[.pointer (some ⟨lb, 0, none⟩)] w fun e w' => e = .returned (.tuple #[.int .i64 ix, .int .i64 tm]) ∧ Old w w' := by
  obtain ⟨h1, h2, _⟩ := h
  go_enter Try.func9, Try.ntmps9
  go_wp2
  go_quiet (fail)
  go_wp2
  go_ret2
  exact ⟨rfl, (Old.refl _).drewN _⟩
set_option maxHeartbeats 2000000 in
set_option maxRecDepth 20000 in
theorem last_any (lb : Nat) (ix tm : Int) (n : Nat) (f : Nat → Ent) (w : World) (h : LogR w lb ix tm n f) :
    Calls Try.prog 8 #[.pointer (some ⟨lb, 0, none⟩)] w fun e w' => e = .returned (.tuple #[.int .i64 (lastI ix n f), .int .i64 (lastT tm n f)]) ∧ Old w w' := by
  have HB := hid (base_any lb ix tm n f w h)
  obtain ⟨h1, h2, hn, p, c, h3, h4, h5, h6⟩ := h
  have hmm : (n : Int) ≤ 8796093022208 := by omega
  go_enter Try.func8, Try.ntmps8
  by_cases hz : n = 0
  · have e1 : lastI ix n f = ix := if_pos hz
    have e2 : lastT tm n f = tm := if_pos hz
    rw [e1, e2]
    subst hz
    clear h6
    go_wp2_with (go_at_call 9; refine HB.out.mono ?_; rintro e w1 ⟨rfl, o1⟩; have O1 := hid o1; clear o1)
    go_ret2
    exact ⟨rfl, O1.out⟩
  · have e1 : lastI ix n f = (f (n - 1)).i := if_neg hz
    have e2 : lastT tm n f = (f (n - 1)).t := if_neg hz
    rw [e1, e2]
    have z1 : ((n : Int) == 0) = false := by simp; omega
    obtain ⟨g, off, rfl, x0, x1, x2, x3⟩ := h6 (n - 1) (by omega)
    generalize f (n - 1) = E at *
    obtain ⟨ei, et, ek, ep, en, ec⟩ := E
    dsimp only at *
    have q0 : (n : Int) - 1 = ((n - 1 : Nat) : Int) := by omega
    have l1 : (0 : Int) ≤ ((n - 1 : Nat) : Int) := by omega
    have l2 : ((n - 1 : Nat) : Int) < (n : Int) := by omega
    clear h6 x2 x3 HB
    go_wp2
    go_quiet (fail)
    go_wp2
    go_ret2
    exact ⟨rfl, (Old.refl _).drewN _⟩
def newB (li lt ix tm : Int) : Bool := decide (lt < tm) || (decide (tm = lt) && decide (li ≤ ix))
set_option maxHeartbeats 2000000 in
set_option maxRecDepth 20000 in
theorem newer_any (lb : Nat) (ix tm : Int) (n : Nat) (f : Nat → Ent) (a b li lt : Int) (w : World) (h : LogR w lb ix tm n f) (e1 : lastI ix n f = li) (e2 : lastT tm n f = lt) :
    Calls Try.prog 22 #[.pointer (some ⟨lb, 0, none⟩), .int .i64 a, .int .i64 b] w fun e w' => e = .returned (.bool (newB li lt a b)) ∧ Old w w' := by
  have HL := hid (last_any lb ix tm n f w h)
  rw [e1, e2] at HL
  clear h e1 e2
  go_enter Try.func22, Try.ntmps22
  go_upto_region 2 with (go_at_call 8; refine HL.out.mono ?_; rintro e w1 ⟨rfl, o1⟩; have O1 := hid o1; clear o1)
  by_cases h1 : lt < b
  · have d1 : decide (lt < b) = true := decide_eq_true h1
    have e : newB li lt a b = true := by simp [newB, h1]
    go_wp2
    go_ret
    exact ⟨by first | rfl | (rw [e]; rfl), O1.out⟩
  · have d1 : decide (lt < b) = false := decide_eq_false h1
    by_cases h2 : b = lt
    · subst h2
      have d2 : (b == b) = true := by simp
      by_cases h3 : li ≤ a
      · have d3 : decide (li ≤ a) = true := decide_eq_true h3
        have e : newB li b a b = true := by simp [newB, h3]
        go_wp2
        go_ret
        exact ⟨by first | rfl | (rw [e]; rfl), O1.out⟩
      · have d3 : decide (li ≤ a) = false := decide_eq_false h3
        have e : newB li b a b = false := by simp [newB, h3]
        go_wp2
        go_ret
        exact ⟨by first | rfl | (rw [e]; rfl), O1.out⟩
    · have d2 : (b == lt) = false := by simp [h2]
      have e : newB li lt a b = false := by simp [newB, h1, h2]
      go_wp2
      go_ret
      exact ⟨by first | rfl | (rw [e]; rfl), O1.out⟩
end Go.Proofs.Ytgpfmohaogppiaa
