/- conf.Load at all bytes; conditions: the bytes lie in memory. -/
import Derived.Test.YtgpfmohaogppiaaV7
import Derived.Shelf.Abstract
namespace Go.Proofs.Ytgpfmohaogppiaa
open Go.RowKit Go.Lib
set_option linter.unusedVariables false
set_option linter.unusedSimpArgs false
set_option maxRecDepth 20000
def gI (L : List Int) : Nat → Int := fun i => L.getD i 0
def rightL (a b : List Int) : Bool := rightB a.length (gI a) b.length (gI b)
/-- A configuration taken off bytes. -/
def tkConf (L : List Nat) : Option (List Int × List Int × List Nat) := match tkM L with
  | none => none
  | some (a, B) => match tkM B with
    | none => none
    | some (b, C) => if rightL a b = true then some (a, b, C) else none
theorem OwnI.rowG {base : Nat} {w : World} {v : Value} {L : List Int} (h : OwnI base w v L) (hl : L.length ≤ 1000000) : NRowL w v L.length (gI L) := h.rowL (by omega) rfl (fun i _ => rfl)
/-- A variable of a configuration: what it holds, and it may be written. -/
structure CB (cb : Nat) (a b : Value) (w : World) : Prop where
  a : w.cell? ⟨cb, 0, none⟩ = some a
  b : w.cell? ⟨cb, 1, none⟩ = some b
  f : w.frozen? ⟨cb, 0, none⟩ = false
  g : w.frozen? ⟨cb, 1, none⟩ = false
theorem CB.chg {S : List Nat} {cb : Nat} {a b : Value} {w w' : World} (h : CB cb a b w) (c : Pk.Chg S w w') (hn : cb ∉ S) : CB cb a b w' := ⟨c.cell' h.a hn, c.cell' h.b hn, c.fr h.a h.f hn, c.fr h.b h.g hn⟩
theorem CB.old {cb : Nat} {a b : Value} {w w' : World} (h : CB cb a b w) (u : Old w w') : CB cb a b w' := h.chg (S := []) (Pk.Chg.old u) (by simp)
theorem CB.new (w : World) : CB w.heap.size (.slice none 0 0) (.slice none 0 0) (w.alloc (.cells #[.slice none 0 0, .slice none 0 0] 24)) := ⟨by simp, by simp, by simp, by simp⟩
theorem CB.put {cb : Nat} {a b : Value} {w : World} (h : CB cb a b w) (p q : Value) : CB cb p q ((w.setCell ⟨cb, 0, none⟩ p).setCell ⟨cb, 1, none⟩ q) := by
  refine ⟨?_, World.cell?_setCell_same _ _ _ (u := b) ?_, by rw [World.frozen?_setCell, World.frozen?_setCell]; exact h.f, by rw [World.frozen?_setCell, World.frozen?_setCell]; exact h.g⟩
  · rw [World.cell?_setCell_other _ _ _ _ (by simp)]; exact World.cell?_setCell_same _ _ _ h.a
  · rw [World.cell?_setCell_other _ _ _ _ (by simp)]; exact h.b
theorem put2_chg (w : World) (m : Nat) (a b : Value) : Pk.Chg [m] w ((w.setCell ⟨m, 0, none⟩ a).setCell ⟨m, 1, none⟩ b) := (Pk.Chg.set' w ⟨m, 0, none⟩ a).trans (Pk.Chg.set' _ ⟨m, 1, none⟩ b)
theorem Pk.Chg.toOld {S : List Nat} {a b c : World} (h : Old a b) (k : Pk.Chg S b c) (hS : ∀ j ∈ S, a.heap.size ≤ j) : Old a c := by
  have h2 := h.size
  exact ⟨k.os.trans h.os, k.tape.trans h.tape, k.output.trans h.output, Nat.le_trans h.size k.size, fun i hi => (k.block i (Nat.lt_of_lt_of_le hi h.size) (fun e => by have := hS i e; omega)).trans (Below.block h i hi)⟩
/-- What the function that reads leaves behind. -/
def L1Post (R b0 cb : Nat) (L : List Nat) (w : World) (e : Ending) (w' : World) : Prop := Pk.Chg [R, cb] w w' ∧ ((∃ a b C v1 v2, tkConf L = some (a, b, C) ∧ e = .returned (.tuple #[]) ∧ RL w' R b0 C ∧ CB cb v1 v2 w' ∧ OwnI w.heap.size w' v1 a ∧ OwnI w.heap.size w' v2 b) ∨ (tkConf L = none ∧ e = .panicked (Pk.ended R) ∧ Pk.RF w' R 30))
set_option maxHeartbeats 4000000 in
set_option maxRecDepth 20000 in
theorem load1_any (R b0 cb : Nat) (L : List Nat) (w : World) (h : RL w R b0 L) (hb : b0 ≠ R) (hR : R < w.heap.size) (hb0 : b0 < w.heap.size) (hc : CB cb (.slice none 0 0) (.slice none 0 0) w) (hcR : cb ≠ R) (hcb : cb ≠ b0) :
    Calls Try.prog 55 #[.pointer (some ⟨R, 0, none⟩), .pointer (some ⟨cb, 0, none⟩)] w fun e w' => L1Post R b0 cb L w e w' := by
  have HCl : Hid (cb < w.heap.size) := hid (World.block_lt_of_cell? w ⟨cb, 0, none⟩ hc.a)
  have HM1 := hid (readMembers_any R b0 L w h hb hR hb0)
  have HCB := hid hc
  clear h hc
  unfold RmPost at HM1
  cases hT : tkM L with
  | none =>
    have HN := hid (show tkConf L = none from by unfold tkConf; rw [hT])
    have HM := hid (HM1.out.mono (fun e w' q => show e = .panicked (Pk.ended R) ∧ Pk.RF w' R 30 ∧ Pk.Chg [R] w w' from by
      rcases q with ⟨ms, B, v, e1, _⟩ | ⟨_, q⟩
      · rw [hT] at e1; cases e1
      · exact q))
    unfold Pk.ended at HM
    clear HM1 hT
    go_enter Try.func55, Try.ntmps55
    go_wp2_with (first | (go_at_call 56; refine HM.out.mono ?_; rintro e w1 ⟨rfl, r1, c1⟩))
    exact ⟨rfl, c1.mono (by simp), .inr ⟨HN.out, rfl, r1⟩⟩
  | some p =>
    obtain ⟨a, B⟩ := p
    have HM := hid (HM1.out.mono (fun e w' q => show ∃ v, e = .returned v ∧ RL w' R b0 B ∧ OwnI w.heap.size w' v a ∧ a.length ≤ 7 ∧ Pk.Chg [R] w w' from by
      rcases q with ⟨ms, B', v, e1, e2, q1, q2, q3, q4⟩ | ⟨e1, _⟩
      · rw [hT] at e1; cases e1; exact ⟨v, e2, q1, q2, q3, q4⟩
      · rw [hT] at e1; cases e1))
    clear HM1
    have HM2 := hid (fun (W : World) (q : RL W R b0 B) (z : w.heap.size ≤ W.heap.size) => readMembers_any R b0 B W q hb (by omega) (by omega))
    unfold RmPost at HM2
    cases hT2 : tkM B with
    | none =>
      have HN := hid (show tkConf L = none from by unfold tkConf; rw [hT]; simp only; rw [hT2])
      have HMM := hid (fun (W : World) (q : RL W R b0 B) (z : w.heap.size ≤ W.heap.size) => (HM2.out W q z).mono (fun e w' q => show e = .panicked (Pk.ended R) ∧ Pk.RF w' R 30 ∧ Pk.Chg [R] W w' from by
        rcases q with ⟨ms, B, v, e1, _⟩ | ⟨_, q⟩
        · rw [hT2] at e1; cases e1
        · exact q))
      unfold Pk.ended at HMM
      have tok1 : True := trivial
      clear HM2 hT hT2
      go_enter Try.func55, Try.ntmps55
      go_wp2_with (first | (go_at_call 56; have _t := tok1; clear tok1 _t; refine HM.out.mono ?_; rintro e w1 ⟨v1, rfl, r1, o1, _, c1⟩; have R1 := hid r1; have C1 := hid c1; clear r1 c1 o1) | (go_at_call 56; refine (HMM.out _ R1.out C1.out.size).mono ?_; rintro e w2 ⟨rfl, r2, c2⟩))
      exact ⟨rfl, (C1.out.trans c2).mono (by simp), .inr ⟨HN.out, rfl, r2⟩⟩
    | some p =>
      obtain ⟨b, C⟩ := p
      have HMM := hid (fun (W : World) (q : RL W R b0 B) (z : w.heap.size ≤ W.heap.size) => (HM2.out W q z).mono (fun e w' q => show ∃ v, e = .returned v ∧ RL w' R b0 C ∧ OwnI W.heap.size w' v b ∧ b.length ≤ 7 ∧ Pk.Chg [R] W w' from by
        rcases q with ⟨ms, B', v, e1, e2, q1, q2, q3, q4⟩ | ⟨e1, _⟩
        · rw [hT2] at e1; cases e1; exact ⟨v, e2, q1, q2, q3, q4⟩
        · rw [hT2] at e1; cases e1))
      have HN := hid (show tkConf L = if rightL a b = true then some (a, b, C) else none from by unfold tkConf; rw [hT]; simp only; rw [hT2])
      have tok1 : True := trivial
      clear HM2 hT hT2
      go_enter Try.func55, Try.ntmps55
      go_upto_region 1 with (first | (go_at_call 56; have _t := tok1; clear tok1 _t; refine HM.out.mono ?_; rintro e w1 ⟨v1, rfl, r1, o1, n1, c1⟩; obtain ⟨p1, a1, e1⟩ := o1.len; subst e1; have R1 := hid r1; have C1 := hid c1; have O1 := hid o1; have L1 := hid n1; clear r1 c1 o1 n1) | (go_at_call 56; refine (HMM.out _ R1.out C1.out.size).mono ?_; rintro e w2 ⟨v2, rfl, r2, o2, n2, c2⟩; obtain ⟨p2, a2, e2⟩ := o2.len; subst e2; have R2 := hid r2; have C2 := hid (C1.out.trans c2); have O2 := hid (o2.mono C1.out.size); have O1' := hid (O1.out.chgP c2 (fun g e => by have := (World.ownsRow.lt O1.out g e).1; simp; omega)); have L2 := hid n2; have B2 := hid (HCB.out.chg (C1.out.trans c2) (by simp; exact hcR)); obtain ⟨z0, z1, zf0, zf1⟩ := HCB.out.chg (C1.out.trans c2) (by simp; exact hcR); clear r2 c2 o2 n2))
      clear z0 z1 zf0 zf1 HM HMM
      have P3 := hid (put2_chg w2 cb (.slice p1 a.length a1) (.slice p2 b.length a2))
      have B3 := hid (B2.out.put (.slice p1 a.length a1) (.slice p2 b.length a2))
      generalize (w2.setCell ⟨cb, 0, none⟩ (.slice p1 a.length a1)).setCell ⟨cb, 1, none⟩ (.slice p2 b.length a2) = w3 at *
      have hcl := HCl.out
      have O13 := hid (O1'.out.chgP P3.out (fun g e => by have := (World.ownsRow.lt O1'.out g e).1; simp; omega))
      have O23 := hid (O2.out.chgP P3.out (fun g e => by have := (World.ownsRow.lt O2.out g e).1; simp; omega))
      have R3 := hid (R2.out.chg P3.out (by simp; exact fun e => hcR e.symm) (by simp; exact fun e => hcb e.symm))
      have C3 := hid ((C2.out.mono (T := [R, cb]) (by simp)).trans (P3.out.mono (T := [R, cb]) (by simp)))
      have HR := hid (right_any _ _ _ _ _ _ w3 (O13.out.rowG (by have := L1.out; omega)) (O23.out.rowG (by have := L2.out; omega)))
      have E : Hid (rightB a.length (gI a) b.length (gI b) = rightL a b) := hid rfl
      rw [E.out] at HR
      obtain ⟨y0, y1, _, _⟩ := B3.out
      clear O1 O1' O2 R1 C1 C2 R2 B2 P3 E
      cases hr : rightL a b with
      | true =>
        rw [hr, if_pos rfl] at HN
        rw [hr] at HR
        go_wp2_with (go_at_call 57; refine HR.out.mono ?_; rintro e w4 ⟨rfl, o4⟩; have O4 := hid o4; clear o4)
        (try simp only [Exit.inBlock, Exit.then])
        refine bodyPost_end (v := .tuple #[]) (by simp [results, Try.results55, go_sem]) rfl ⟨C3.out.trans (Pk.Chg.old O4.out), .inl ⟨a, b, C, _, _, HN.out, rfl, R3.out.chg (S := []) (Pk.Chg.old O4.out) (by simp) (by simp), B3.out.old O4.out, O13.out.up O4.out, O23.out.up O4.out⟩⟩
      | false =>
        rw [hr, if_neg (by decide)] at HN
        rw [hr] at HR
        have HF := hid (fun (W : World) (u : Old w3 W) => show Calls Try.prog 58 #[.pointer (some ⟨R, 0, none⟩), .int .i64 30] W fun e w' => e = .panicked (Pk.ended R) ∧ Pk.RF w' R 30 ∧ Pk.Chg [R] W w' from by
          obtain ⟨v, hrd, _⟩ := R3.out.chg (S := []) (Pk.Chg.old u) (by simp) (by simp)
          refine (Pk.fail_any R v 30 W hrd 30 (by decide)).mono ?_
          rintro e w' ⟨rfl, rfl⟩
          exact ⟨rfl, (hrd.s1 30).s0 _, (Pk.Chg.set' W ⟨R, 1, none⟩ _).trans (Pk.Chg.set' _ ⟨R, 0, none⟩ _)⟩)
        unfold Pk.ended at HF
        go_wp2_with (first | (go_at_call 57; refine HR.out.mono ?_; rintro e w4 ⟨rfl, o4⟩; have O4 := hid o4; clear o4) | (go_at_call 58; refine (HF.out _ O4.out).mono ?_; rintro e w5 ⟨rfl, r5, c5⟩))
        exact ⟨rfl, (C3.out.trans (Pk.Chg.old O4.out)).trans (c5.mono (by simp)), .inr ⟨HN.out, rfl, r5⟩⟩
end Go.Proofs.Ytgpfmohaogppiaa
