/- The document's Norm at every row of spans; conditions: the lengths fit. -/
import Derived.Test.YthjfkmjeppdcnaaGreatSqa
import Derived.Test.YthjfkmjeppdcnaaGreatClC
import Derived.Test.YthjfkmjeppdcnaaGreatClA
namespace Go.Proofs.YthjfkmjeppdcnaaGreat
abbrev oNe0 : Oper := { dst := some 35, op := .move (.tmp 3), type := 107, pos := "ref.go:110", after := #[], guard := none }
abbrev oNe1 : Oper := { dst := some 36, op := .move (.tmp 7), type := 3, pos := "ref.go:110", after := #[], guard := none }
abbrev oNe2 : Oper := { dst := some 37, op := .indexAddr 107 (.tmp 35) (.tmp 36), type := 0, pos := "ref.go:110", after := #[⟨0, .data⟩, ⟨1, .data⟩], guard := none }
abbrev oNe3 : Oper := { dst := some 38, op := .load 132 (.tmp 37), type := 132, pos := "ref.go:110", after := #[⟨2, .data⟩], guard := none }
abbrev oNe4 : Oper := { dst := some 39, op := .load 132 (.tmp 5), type := 132, pos := "ref.go:110", after := #[], guard := none }
abbrev oNe5 : Oper := { dst := some 40, op := .call { callee := Callee.value (.func 76), args := #[.tmp 38, .tmp 39], argTypes := #[132, 132] }, type := 135, pos := "ref.go:110", after := #[⟨3, .data⟩, ⟨4, .data⟩], guard := none }
abbrev oNe6 : Oper := { dst := some 8, op := .alloc 132, type := 0, pos := "ref.go:110", after := #[], guard := none }
abbrev oNe7 : Oper := { dst := some 34, op := .move (.tmp 40), type := 135, pos := "ref.go:110", after := #[⟨5, .data⟩], guard := none }
abbrev oNe8 : Oper := { dst := some 41, op := .extract (.tmp 34) 0, type := 132, pos := "ref.go:110", after := #[⟨6, .data⟩], guard := none }
abbrev oNe9 : Oper := { dst := some 42, op := .extract (.tmp 34) 1, type := 4, pos := "ref.go:110", after := #[⟨6, .data⟩, ⟨10, .gcOnly Departure.lateStores⟩], guard := none }
abbrev oNe10 : Oper := { dst := none, op := .store 132 (.tmp 8) (.tmp 41), type := 0, pos := "ref.go:110", after := #[⟨9, .data⟩, ⟨7, .data⟩, ⟨5, .chain⟩, ⟨0, .phase⟩, ⟨1, .phase⟩, ⟨2, .phase⟩, ⟨3, .phase⟩, ⟨4, .phase⟩, ⟨5, .phase⟩, ⟨6, .phase⟩, ⟨7, .phase⟩, ⟨8, .textOnly Departure.lateStores⟩, ⟨9, .phase⟩], guard := none }
abbrev oNe11 : Oper := { dst := some 9, op := .assign (.tmp 42), type := 4, pos := "ref.go:110", after := #[⟨8, .data⟩, ⟨10, .chain⟩, ⟨0, .phase⟩, ⟨1, .phase⟩, ⟨2, .phase⟩, ⟨3, .phase⟩, ⟨4, .phase⟩, ⟨5, .phase⟩, ⟨6, .phase⟩, ⟨7, .phase⟩, ⟨8, .phase⟩, ⟨9, .phase⟩, ⟨10, .phase⟩], guard := none }
set_option linter.unusedSimpArgs false
open Go.RowKit
set_option linter.unusedVariables false
attribute [local go_sem] run_bits run_frombits run_store_float eqF
theorem ent_join (args : Array Value) (w : World) : (callFunc 76 args).run Tryz.prog w = .ok (.enter 76 args) w := by kernel_rfl
abbrev E4 (g o l h rb a b : Nat) (w : World) : Prop := (w.cell? ⟨g, o, none⟩ = some (.int .u64 (l : Nat)) ∧ w.cell? ⟨g, o + 1, none⟩ = some (.int .u64 (h : Nat))) ∧ RgAt rb a b w
theorem E4.up {g o l h rb a b : Nat} {w w' : World} (u : Up w w') (k : E4 g o l h rb a b w) : E4 g o l h rb a b w' := ⟨⟨u.keep k.1.1, u.keep k.1.2⟩, RgAt.up u k.2⟩
theorem RgAt.old {m a b : Nat} {w w' : World} (u : Old w w') (k : RgAt m a b w) : RgAt m a b w' := ⟨⟨u.keep k.1.1, u.keep k.1.2⟩, u.keepF k.1.1 k.2.1, u.keepF k.1.2 k.2.2⟩
theorem RgAt.grown {m a b : Nat} {w w' : World} {row : Option Nat} (k : RgAt m a b w) (hg : w.grownBy w' row) (hne : Option.some m ≠ row) : RgAt m a b w' := by
 have hb := hg.block m (World.block_lt_of_cell? w _ k.1.1) hne
 have H : ∀ o, w'.cell? ⟨m, o, none⟩ = w.cell? ⟨m, o, none⟩ := fun o => World.cell?_of_block hb
 have G : ∀ o, w'.frozen? ⟨m, o, none⟩ = w.frozen? ⟨m, o, none⟩ := fun o => World.frozen?_of_block hb
 exact ⟨⟨by rw [H]; exact k.1.1, by rw [H]; exact k.1.2⟩, by rw [G]; exact k.2.1, by rw [G]; exact k.2.2⟩
theorem Old.grown {a w w' : World} {row : Option Nat} (h : Old a w) (hg : w.grownBy w' row) (hr : ∀ k, row = some k → a.heap.size ≤ k) : Old a w' := Below.grown h hg h.size hr
theorem OwnG.rowAt {base : Nat} {w : World} {v : Value} {L : List (Nat × Nat)} (h : OwnG base w v L) : ∀ k, v.ownBlock = some k → base ≤ k := fun k e => (World.ownsRow.lt h k e).1
theorem joinC (e r : Nat × Nat) (he : Fl.RV e) (hr : Fl.RV r) (w : World) :
    Calls Tryz.prog 76 #[.agg #[.int .u64 (e.1 : Nat), .int .u64 (e.2 : Nat)], .agg #[.int .u64 (r.1 : Nat), .int .u64 (r.2 : Nat)]] w fun o w' => (if Fl.nx e.2 < r.1 ∨ Fl.nx r.2 < e.1 then o = .returned (.tuple #[.agg #[.int .u64 (1 : Nat), .int .u64 (0 : Nat)], .bool false]) else o = .returned (.tuple #[.agg #[.int .u64 (min e.1 r.1 : Nat), .int .u64 (max e.2 r.2 : Nat)], .bool true])) ∧ Up w w' := by
 have H := rJoin_form (Fl.spo_form he) (Fl.spo_form hr) w
 have a1 := Fl.of_V he.1
 have a2 := Fl.of_V he.2.1
 have a3 := Fl.of_V hr.1
 have a4 := Fl.of_V hr.2.1
 have g1 : Fl.gp (Fl.of e.2) (Fl.of r.1) = decide (Fl.nx e.2 < r.1) := Fl.gap_nx he hr
 have g2 : Fl.gp (Fl.of r.2) (Fl.of e.1) = decide (Fl.nx r.2 < e.1) := Fl.gap_nx hr he
 have e1 : ∀ c, Fl.rl (Fl.of c) false = Fl.code (Fl.of c) := fun _ => rfl
 have e2 : ∀ c, Fl.rh (Fl.of c) false = Fl.code (Fl.of c) := fun _ => rfl
 rw [e1, e2, e1, e2, a1.2.1, a2.2.1, a3.2.1, a4.2.1] at H
 refine H.mono fun o w' h => ⟨?_, h.2⟩
 have hj : Fl.jK (Fl.of e.1) (Fl.of e.2) false (Fl.of r.1) (Fl.of r.2) false = !(decide (Fl.nx e.2 < r.1) || decide (Fl.nx r.2 < e.1)) := by unfold Fl.jK; rw [g1, g2]; rfl
 have h1 := h.1
 unfold Fl.jU Fl.jV Fl.jE at h1
 rw [hj] at h1
 by_cases c : Fl.nx e.2 < r.1 ∨ Fl.nx r.2 < e.1
 ·rw [if_pos c]
  have d : (decide (Fl.nx e.2 < r.1) || decide (Fl.nx r.2 < e.1)) = true := by simpa using c
  rw [d] at h1; exact h1
 ·rw [if_neg c]
  have d : (decide (Fl.nx e.2 < r.1) || decide (Fl.nx r.2 < e.1)) = false := by simpa using c
  rw [d] at h1
  have m1 := Fl.code_mn (Fl.of e.1) (Fl.of r.1)
  have m2 := Fl.code_mx (Fl.of e.2) (Fl.of r.2)
  rw [a1.2.1, a3.2.1] at m1
  rw [a2.2.1, a4.2.1] at m2
  rw [← m1, ← m2]; exact h1
theorem dropG (L : List (Nat × Nat)) (k : Nat) (h : k < L.length) : L.drop k = L[k] :: L.drop (k + 1) := List.drop_eq_getElem_cons h
set_option maxHeartbeats 8000000 in
set_option maxRecDepth 20000 in
theorem refNorm_any (v : Value) (n : Nat) (f : Nat → Sp) (hn : n ≤ 5864062014805) (w : World) (hv : SRow w v n f) :
    Calls Tryz.prog 48 #[v] w fun e w' => ∃ v' : Value, e = .returned v' ∧ OwnG w.heap.size w' v' (Fl.dfold (Fl.cdl f n)) ∧ Old w w' := by
 obtain ⟨hm, a, c, rfl, hc⟩ := hv
 have HC := hid hc
 have HW := hid (fun i (hi : i < n) => by obtain ⟨_, _, _, h1, h2, _⟩ := hc i hi; exact (⟨h1, h2⟩ : Fl.W (f i).a ∧ Fl.W (f i).b))
 clear hc
 go_enter Tryz.func48, Tryz.ntmps48
 go_wp2
 go_loopw [3, 4] (fun o i wi => ∃ m : Nat, m ≤ n ∧ i = .int .i64 (m : Nat) ∧ OwnG w.heap.size wi o (Fl.dfold (Fl.cdl f m)) ∧ Old w wi) (fun _ i _ => n - (intOf i).toNat)
 case atStart => exact ⟨0, Nat.zero_le _, rfl, OwnG.empty (Nat.le_refl _) rfl, (Old.refl w).alloc _⟩
 case round =>
  generalize wr = wi at *
  obtain ⟨m, hmn, rfl, ho, hu⟩ := hrel
  have HO := hid ho
  have HU := hid hu
  clear ho hu
  by_cases hlt : m < n
  ·obtain ⟨b, off, ha, hW1, hW2, c0⟩ := HC.out m hlt
   subst ha
   obtain ⟨x0, x1, x2, x3⟩ := c0.old HU.out
   have l1 : (0 : Int) ≤ (m : Int) := by omega
   have l2 : (m : Int) < (n : Int) := by omega
   have HOf := fun W => rOf_any (f m).a (f m).b hW1 hW2 (f m).p (f m).q W
   have hD0 := Fl.dfold_ok _ (Fl.cdl f m) rfl (Fl.cdl_RV f m fun i hi => HW.out i (by omega))
   have hDl : (Fl.dfold (Fl.cdl f m)).length ≤ m := by have := hD0.2.2; have := Fl.cdl_len f m; omega
   have HD0 := hid hD0.1
   clear hD0
   cases hE : Fl.csE (f m).a (f m).b (f m).p (f m).q
   ·have hr0 := Fl.cd_RV (f m) hW1 hW2 (Fl.code (Fl.csU (f m).a (f m).b (f m).p (f m).q), Fl.code (Fl.csV (f m).a (f m).b (f m).p (f m).q)) (by unfold Fl.cd; rw [hE]; simp)
    have HD : Hid (Fl.dfold (Fl.cdl f (m + 1)) = Fl.dstep (Fl.dfold (Fl.cdl f m)) (Fl.code (Fl.csU (f m).a (f m).b (f m).p (f m).q), Fl.code (Fl.csV (f m).a (f m).b (f m).p (f m).q))) := by
     show Fl.dfold (Fl.cdl f m ++ Fl.cd (f m)) = _; unfold Fl.cd; rw [hE]; exact Fl.dfold_snoc _ _
    have e1 : Fl.rL (f m).a (f m).b (f m).p (f m).q = Fl.code (Fl.csU (f m).a (f m).b (f m).p (f m).q) := by unfold Fl.rL; rw [hE]; rfl
    have e2 : Fl.rH (f m).a (f m).b (f m).p (f m).q = Fl.code (Fl.csV (f m).a (f m).b (f m).p (f m).q) := by unfold Fl.rH; rw [hE]; rfl
    rw [e1, e2] at HOf
    have HEm := fun W => rEmpty_any (Fl.code (Fl.csU (f m).a (f m).b (f m).p (f m).q)) (Fl.code (Fl.csV (f m).a (f m).b (f m).p (f m).q)) W
    rw [show decide (Fl.code (Fl.csV (f m).a (f m).b (f m).p (f m).q) < Fl.code (Fl.csU (f m).a (f m).b (f m).p (f m).q)) = false from decide_eq_false (by have := hr0.2.2; dsimp only at this; omega)] at HEm
    have H1 := hid HOf
    have H2 := hid HEm
    clear HOf HEm e1 e2 hE hW1 hW2 c0
    generalize Fl.code (Fl.csU (f m).a (f m).b (f m).p (f m).q) = rl0 at *
    generalize Fl.code (Fl.csV (f m).a (f m).b (f m).p (f m).q) = rh0 at *
    generalize Fl.dfold (Fl.cdl f m) = D at *
    generalize (f m).a = a1 at *
    generalize (f m).b = b1 at *
    generalize (f m).p = p1 at *
    generalize (f m).q = q1 at *
    obtain ⟨oa, oc, hov⟩ := HO.out.len
    subst hov
    go_wp2_with (first | (go_at_call 74; refine (H1.out _).mono ?_; rintro o w5 ⟨rfl, u5⟩; have U5 := hid u5.old; clear u5) | (go_at_call 75; refine (H2.out _).mono ?_; rintro o w6 ⟨rfl, u6⟩; have R6 : RgAt w5.heap.size rl0 rh0 w6 := RgAt.up u6 (by simp [RgAt]); have U6 := hid ((U5.out.alloc _).trans u6.old); have z6 : w5.heap.size + 1 ≤ w6.heap.size := (by have := u6.old.size; simpa using this); clear u6))
    have z5 := U5.out.size
    have z6' := U6.out.size
    generalize hrb : w5.heap.size = rb at *
    clear hrb
    go_loopw [6, 7] (fun l i wr => ∃ (k : Nat) (N : List (Nat × Nat)) (r : Nat × Nat), k ≤ D.length ∧ i = .int .i64 (k : Nat) ∧ N ++ (Fl.jn (D.drop k) r).1 = (Fl.jn D (rl0, rh0)).1 ∧ (Fl.jn (D.drop k) r).2 = (Fl.jn D (rl0, rh0)).2 ∧ N.length ≤ k ∧ Fl.RV r ∧ RgAt rb r.1 r.2 wr ∧ OwnG (rb + 1) wr l N ∧ Old wi wr) (fun _ i _ => D.length - (intOf i).toNat)
    case atStart => exact ⟨0, [], (rl0, rh0), Nat.zero_le _, rfl, rfl, rfl, Nat.le_refl _, hr0, RgAt.old ((Old.refl _).alloc _) R6, OwnG.empty z6 rfl, U6.out.alloc _⟩
    case round =>
     obtain ⟨k, N, r, hk, rfl, e1, e2, hNk, hrv, hR, hoN, huw⟩ := hrel
     have l5 : (D.length : Int) ≤ 5864062014805 := by omega
     by_cases hlt2 : k < D.length
     ·obtain ⟨g, gc, hs, hg1, hg2, hcell⟩ := OwnG.shape HO.out (by omega)
      cases hs
      have hev := HD0.out.2 D[k] (List.getElem_mem hlt2)
      obtain ⟨y0, y1⟩ := (hcell k hlt2).old huw
      have HJ0 := fun W => joinC D[k] r hev hrv W
      rw [dropG D k hlt2, Fl.jn] at e1 e2
      have l3 : (0 : Int) ≤ (k : Int) := by omega
      have l4 : (k : Int) < (D.length : Int) := by omega
      have HRJ := hid (Fl.rv_join hev hrv)
      clear hcell
      generalize D[k] = e at *
      obtain ⟨el, eh⟩ := e
      obtain ⟨rl, rh⟩ := r
      dsimp only at *
      have hE : E4 g (k * 2) el eh rb rl rh wr := ⟨⟨y0, y1⟩, hR⟩
      obtain ⟨jl, jh, K, HJ1, hfact⟩ : ∃ (jl jh : Nat) (K : Bool), (∀ W, Calls Tryz.prog 76 #[.agg #[.int .u64 (el : Nat), .int .u64 (eh : Nat)], .agg #[.int .u64 (rl : Nat), .int .u64 (rh : Nat)]] W fun o w' => o = .returned (.tuple #[.agg #[.int .u64 (jl : Nat), .int .u64 (jh : Nat)], .bool K]) ∧ Up W w') ∧ (((Fl.nx eh < rl ∨ Fl.nx rh < el) ∧ K = false) ∨ (¬ (Fl.nx eh < rl ∨ Fl.nx rh < el) ∧ K = true ∧ jl = min el rl ∧ jh = max eh rh)) := by
       by_cases cg : Fl.nx eh < rl ∨ Fl.nx rh < el
       ·exact ⟨1, 0, false, fun W => (HJ0 W).mono fun o w' h => ⟨by have h1 := h.1; rw [if_pos cg] at h1; exact h1, h.2⟩, .inl ⟨cg, rfl⟩⟩
       ·exact ⟨min el rl, max eh rh, true, fun W => (HJ0 W).mono fun o w' h => ⟨by have h1 := h.1; rw [if_neg cg] at h1; exact h1, h.2⟩, .inr ⟨cg, rfl, rfl, rfl⟩⟩
      have HJoin := hid HJ1
      have HFa := hid hfact
      have E1 := hid e1
      have E2 := hid e2
      have HN := hid hoN
      have HUW := hid huw
      clear HJ0 HJ1 hfact e1 e2 hoN huw
      go_wp2_with fail
      go_cut [8, 9] (fun jp ok wx => ∃ mj : Nat, jp = .pointer (some ⟨mj, 0, none⟩) ∧ ok = .bool K ∧ RgAt mj jl jh wx ∧ wr.heap.size ≤ mj ∧ Up wr wx)
      case first =>
       focus
        refine wp_region_noPanic ?_
        refine wp_region_held_drew (S := E4 g (k * 2) el eh rb rl rh) (by kernel_rfl) ?_ (fun hHeld => ?_)
        ·exact E4.up ((Up.refl _).drew) hE
        try simp only [Act.put, puA, puB, puC]
        clear hHeld
        all_goals
         refine atA [false, false, false, false, false, false, false, false, false, false, false, false] ?_
         refine tkA (i := 0) (oi := oNe0) (E4.up (J2r.start wr).1 hE) ?_
         try simp only [Act.put, puA, puB, puC]
         refine tkA (i := 1) (oi := oNe1) (E4.up (J2r.start wr).1 hE) ?_
         try simp only [Act.put, puA, puB, puC]
         refine tkA (i := 2) (oi := oNe2) (E4.up (J2r.start wr).1 hE) ?_
         try simp only [Act.put, puA, puB, puC]
         refine tkA (i := 3) (oi := oNe3) (E4.up (J2r.start wr).1 hE) ?_
         try simp only [Act.put, puA, puB, puC]
         refine tkA (i := 4) (oi := oNe4) (E4.up (J2r.start wr).1 hE) ?_
         try simp only [Act.put, puA, puB, puC]
         refine rdA [5, 9] ?_
         refine AllReadyH.cons (o := oNe5) rfl (fun K hK => ?_) (AllReadyH.cons (o := oNe6) rfl (fun K hK => ?_) AllReadyH.nil)
         refine stepCall2 ?_ 76 (.tmp 38) (.tmp 39) #[132, 132] ?_ (.agg #[.int .u64 (el : Nat), .int .u64 (eh : Nat)]) (.agg #[.int .u64 (rl : Nat), .int .u64 (rh : Nat)]) ?_ ?_ ?_ (ent_join _ _) ?_
         iterate 5 rfl
         refine (HJoin.out _).mono ?_
         rintro o x100n ⟨rfl, b100n⟩
         refine ⟨_, rfl, ?_⟩
         have j100n := (J2r.start wr).up b100n
         refine hK.out _ _ (E4.up j100n.1 hE) (fun _ => ?_)
         clear hK K
         try simp only [Act.put, puA, puB, puC]
         have jj_100 := j100n
         rotate_left
         refine stepAllocR ?_ ?_ ?_
         iterate 2 rfl
         intro m100n x100n hm100n hx100n
         have j100n := (J2r.start wr).nF hm100n hx100n
         clear hm100n hx100n
         refine hK.out _ _ (E4.up j100n.1 hE) (fun _ => ?_)
         clear hK K
         try simp only [Act.put, puA, puB, puC]
         have jj_100 := j100n
         obtain ⟨mm_100, rfl⟩ : ∃ z, z = m100n := ⟨_, rfl⟩
         rotate_left
        all_goals first
         |refine atA [true, true, true, true, true, true, false, false, false, false, false, false] ?_
          refine tkA (i := 6) (oi := oNe7) (E4.up jj_100.1 hE) ?_
          try simp only [Act.put, puA, puB, puC]
          refine tkA (i := 7) (oi := oNe8) (E4.up jj_100.1 hE) ?_
          try simp only [Act.put, puA, puB, puC]
          refine tkA (i := 8) (oi := oNe9) (E4.up jj_100.1 hE) ?_
          try simp only [Act.put, puA, puB, puC]
          refine rdA [9] ?_
          refine AllReadyH.cons (o := oNe6) rfl (fun K hK => ?_) AllReadyH.nil
          refine stepAllocR ?_ ?_ ?_
          iterate 2 rfl
          intro m100n x100n hm100n hx100n
          have j100n := jj_100.nF hm100n hx100n
          clear hm100n hx100n
          refine hK.out _ _ (E4.up j100n.1 hE) (fun _ => ?_)
          clear hK K
          try simp only [Act.put, puA, puB, puC]
          have jj_100 := j100n
          obtain ⟨mm_100, rfl⟩ : ∃ z, z = m100n := ⟨_, rfl⟩
         |refine atA [true, true, true, true, true, false, false, false, false, true, false, false] ?_
          refine rdA [5] ?_
          refine AllReadyH.cons (o := oNe5) rfl (fun K hK => ?_) AllReadyH.nil
          refine stepCall2 ?_ 76 (.tmp 38) (.tmp 39) #[132, 132] ?_ (.agg #[.int .u64 (el : Nat), .int .u64 (eh : Nat)]) (.agg #[.int .u64 (rl : Nat), .int .u64 (rh : Nat)]) ?_ ?_ ?_ (ent_join _ _) ?_
          iterate 5 rfl
          refine (HJoin.out _).mono ?_
          rintro o x100n ⟨rfl, b100n⟩
          refine ⟨_, rfl, ?_⟩
          have j100n := jj_100.up b100n
          refine hK.out _ _ (E4.up j100n.1 hE) (fun _ => ?_)
          clear hK K
          try simp only [Act.put, puA, puB, puC]
          have jj_100 := j100n
        all_goals first
         |refine atA [true, true, true, true, true, true, true, true, true, true, false, false] ?_
          refine rdA [10] ?_
          refine AllReadyH.cons (o := oNe10) rfl (fun K hK => ?_) AllReadyH.nil
          refine stepStoreR ?_ (.tmp 8) (.tmp 41) ?_ mm_100 jl jh ?_ ?_ jj_100.thereF ?_
          iterate 4 rfl
          refine hK.out _ _ (E4.up (jj_100.upF _) hE) (fun _ => ?_)
          clear hK K
          try simp only [Act.put, puA, puB, puC]
         |refine atA [true, true, true, true, true, true, false, false, false, true, false, false] ?_
          refine tkA (i := 6) (oi := oNe7) (E4.up jj_100.1 hE) ?_
          try simp only [Act.put, puA, puB, puC]
          refine tkA (i := 7) (oi := oNe8) (E4.up jj_100.1 hE) ?_
          try simp only [Act.put, puA, puB, puC]
          refine tkA (i := 8) (oi := oNe9) (E4.up jj_100.1 hE) ?_
          try simp only [Act.put, puA, puB, puC]
          refine rdA [10] ?_
          refine AllReadyH.cons (o := oNe10) rfl (fun K hK => ?_) AllReadyH.nil
          refine stepStoreR ?_ (.tmp 8) (.tmp 41) ?_ mm_100 jl jh ?_ ?_ jj_100.thereF ?_
          iterate 4 rfl
          refine hK.out _ _ (E4.up (jj_100.upF _) hE) (fun _ => ?_)
          clear hK K
          try simp only [Act.put, puA, puB, puC]
        all_goals
         refine atA [true, true, true, true, true, true, true, true, true, true, true, false] ?_
         refine rdA [11] ?_
         refine AllReadyH.cons (o := oNe11) rfl (fun K hK => ?_) AllReadyH.nil
         go_simp
         refine hK.out _ _ (E4.up (jj_100.upF _) hE) (fun _ => ?_)
         clear hK K
         try simp only [Act.put, puA, puB, puC]
        all_goals
         refine atA [true, true, true, true, true, true, true, true, true, true, true, true] ?_
         refine wpAnyH_done (by kernel_rfl) ?_ _
         refine NoPanic.normal ?_
         go_wp2_with fail
         go_meet
         case rel => exact ⟨mm_100, rfl, rfl, (jj_100.2.1 _ rfl).2.stored jl jh, (jj_100.2.1 _ rfl).1, jj_100.upF _⟩
      case rest =>
       obtain ⟨mj, rfl, rfl, hmj, hmj2, hux⟩ := hcut
       obtain ⟨⟨z0, z1⟩, hR2⟩ := E4.up hux hE
       obtain ⟨⟨p0, p1⟩, p2, p3⟩ := hR2
       obtain ⟨⟨j0, j1⟩, j2, j3⟩ := hmj
       have UX := hid hux.old
       have zx := hux.old.size
       have zz := HUW.out.size
       have zb : rb < wc.heap.size := World.block_lt_of_cell? wc _ p0
       have HR2 : Hid (RgAt rb rl rh wc) := ⟨⟨p0, p1⟩, p2, p3⟩
       clear hux hE y0 y1 hR HJoin
       rcases HFa.out with ⟨cg, rfl⟩ | ⟨cg, rfl, rfl, rfl⟩
       ·have E1' := hid (show N ++ ((el, eh) :: (Fl.jn (D.drop (k + 1)) (rl, rh)).1) = (Fl.jn D (rl0, rh0)).1 from by have h := E1.out; rw [if_pos cg] at h; exact h)
        have E2' := hid (show (Fl.jn (D.drop (k + 1)) (rl, rh)).2 = (Fl.jn D (rl0, rh0)).2 from by have h := E2.out; rw [if_pos cg] at h; exact h)
        clear E1 E2 HFa cg
        go_wp2_with (first | (at_builtin; refine wp_appG rfl (.tmp 45) (.tmp 50) rfl (rb + 1) _ N (el, eh) _ 1 rfl rfl (OwnG.old HN.out (UX.out.alloc _)) (rgIn_new _ (el, eh) _ (by simp)) (by omega) (by simp; omega) ?_; intro v8 w8 o8 g8; have O8 := hid o8; have G8 := hid g8; clear o8 g8))
        go_roundw
        case rel => exact ⟨k + 1, N ++ [(el, eh)], (rl, rh), hlt2, by go_num, by rw [← E1'.out]; simp, E2'.out, by simp; omega, hrv, RgAt.grown (RgAt.old ((Old.refl _).alloc _) HR2.out) G8.out (fun e => by have := OwnG.rowAt HN.out rb e.symm; omega), O8.out, Old.grown ((HUW.out.trans UX.out).alloc _) G8.out (fun q hq => by have := OwnG.rowAt HN.out q hq; omega)⟩
        case measure => simp [intOf]; omega
       ·have E1' := hid (show N ++ (Fl.jn (D.drop (k + 1)) (min el rl, max eh rh)).1 = (Fl.jn D (rl0, rh0)).1 from by have h := E1.out; rw [if_neg cg] at h; exact h)
        have E2' := hid (show (Fl.jn (D.drop (k + 1)) (min el rl, max eh rh)).2 = (Fl.jn D (rl0, rh0)).2 from by have h := E2.out; rw [if_neg cg] at h; exact h)
        clear E1 E2 HFa cg
        generalize min el rl = jl at *
        generalize max eh rh = jh at *
        go_wp2_with fail
        go_roundw
        case rel => exact ⟨k + 1, N, (jl, jh), hlt2, by go_num, E1'.out, E2'.out, by omega, HRJ.out, RgAt.stored HR2.out jl jh, ownsRow_setCell_below (ownsRow_setCell_below (OwnG.old HN.out UX.out) (by show rb < rb + 1; omega) _) (by show rb < rb + 1; omega) _, ((HUW.out.trans UX.out).setCell (by show wi.heap.size ≤ rb; omega) _).setCell (by show wi.heap.size ≤ rb; omega) _⟩
        case measure => simp [intOf]; omega
     ·obtain rfl : k = D.length := by omega
      rw [List.drop_length] at e1 e2
      have hN1 : N = (Fl.jn D (rl0, rh0)).1 := by simpa [Fl.jn] using e1
      have hr1 : r = (Fl.jn D (rl0, rh0)).2 := e2
      have HST : Hid (Fl.dstep D (rl0, rh0) = Fl.putL r N) := by show Fl.putL _ _ = _; rw [hN1, hr1]
      clear e1 e2 hN1 hr1
      obtain ⟨la, lc, hlv⟩ := hoN.len
      subst hlv
      have HN := hid hoN
      have HUW := hid huw
      clear hoN huw
      obtain ⟨rl, rh⟩ := r
      dsimp only at *
      generalize wr = wl at *
      have HRl := hid hR
      clear hR
      have zl := HUW.out.size
      go_wp2_with fail
      go_loopw [10, 11, 12] (fun al d i wr => ∃ (k : Nat) (M : List (Nat × Nat)) (B : Bool), k ≤ N.length ∧ i = .int .i64 (k : Nat) ∧ d = .bool B ∧ M ++ (Fl.put (rl, rh) B (N.drop k)).1 = (Fl.put (rl, rh) false N).1 ∧ (Fl.put (rl, rh) B (N.drop k)).2 = (Fl.put (rl, rh) false N).2 ∧ (M.length ≤ k + 1 ∧ (B = false → M.length ≤ k)) ∧ OwnG wl.heap.size wr al M ∧ Old wl wr) (fun _ _ i _ => N.length - (intOf i).toNat)
      case atStart => exact ⟨0, [], false, Nat.zero_le _, rfl, rfl, rfl, rfl, ⟨by simp, fun _ => by simp⟩, OwnG.empty (Nat.le_refl _) rfl, (Old.refl wl).alloc _⟩
      case round =>
       obtain ⟨k, M, B, hk3, rfl, rfl, e1, e2, hMk, hoM, hul⟩ := hrel
       obtain ⟨⟨p0, p1⟩, p2, p3⟩ := RgAt.old hul HRl.out
       have HM := hid hoM
       have HUL := hid hul
       clear hoM hul
       have zr := HUL.out.size
       by_cases hlt3 : k < N.length
       ·obtain ⟨g, gc, hs, hg1, hg2, hcell⟩ := OwnG.shape HN.out (by omega)
        cases hs
        have HY := hid (hcell k hlt3)
        obtain ⟨y0, y1⟩ := HY.out.old HUL.out
        rw [dropG N k hlt3] at e1 e2
        have l3 : (0 : Int) ≤ (k : Int) := by omega
        have l4 : (k : Int) < (N.length : Int) := by omega
        clear hcell
        generalize N[k] = e at *
        obtain ⟨el, eh⟩ := e
        dsimp only at *
        cases B
        ·by_cases hc : rl < el
         ·have hd : Fl.put (rl, rh) false ((el, eh) :: N.drop (k + 1)) = ((rl, rh) :: (el, eh) :: (Fl.put (rl, rh) true (N.drop (k + 1))).1, (Fl.put (rl, rh) true (N.drop (k + 1))).2) := by rw [Fl.put, if_pos ⟨rfl, hc⟩]
          rw [hd] at e1 e2
          have E1 := hid e1
          have E2 := hid e2
          have t1 : (rl : Int) < (el : Int) := by omega
          have hMf := hMk.2 rfl
          clear e1 e2 hd hMk
          go_wp2_with fail
          go_quiet (fail)
          have HMd := hid (OwnG.old HM.out ((Old.refl wr).drewN nq))
          have ULd := hid (HUL.out.drewN nq)
          go_wp2_with (first | (at_builtin; refine wp_appG rfl (.tmp 71) (.tmp 73) rfl wl.heap.size _ M (rl, rh) _ 1 rfl rfl (OwnG.old HMd.out ((Old.refl _).alloc _)) (rgIn_new _ (rl, rh) _ (by simp)) (by omega) (by simp; omega) ?_; intro v7 w7 o7 g7; have V7 := hid (Old.grown (ULd.out.alloc _) g7 (OwnG.rowAt HMd.out)); obtain ⟨s0, s1⟩ := HY.out.old V7.out; have O7 := hid o7; have z7 := V7.out.size; clear o7 g7) | (at_builtin; refine wp_appG rfl (.tmp 75) (.tmp 80) rfl wl.heap.size _ (M ++ [(rl, rh)]) (el, eh) _ 1 rfl rfl (OwnG.old O7.out ((Old.refl _).alloc _)) (rgIn_new _ (el, eh) _ (by simp)) (by simp; omega) (by simp; omega) ?_; intro v8 w8 o8 g8; have O8 := hid o8; have V8 := hid (Old.grown (V7.out.alloc _) g8 (OwnG.rowAt O7.out)); clear o8 g8))
          go_roundw
          case rel => exact ⟨k + 1, M ++ [(rl, rh)] ++ [(el, eh)], true, hlt3, by go_num, rfl, by rw [← E1.out]; simp, E2.out, ⟨by simp; omega, fun h => by cases h⟩, O8.out, V8.out⟩
          case measure => simp [intOf]; omega
         ·have hd : Fl.put (rl, rh) false ((el, eh) :: N.drop (k + 1)) = ((el, eh) :: (Fl.put (rl, rh) false (N.drop (k + 1))).1, (Fl.put (rl, rh) false (N.drop (k + 1))).2) := by rw [Fl.put, if_neg (fun h => hc h.2)]
          rw [hd] at e1 e2
          have E1 := hid e1
          have E2 := hid e2
          have t1 : ¬ (rl : Int) < (el : Int) := by omega
          have hMf := hMk.2 rfl
          clear e1 e2 hd hMk
          go_wp2_with fail
          go_quiet (fail)
          have HMd := hid (OwnG.old HM.out ((Old.refl wr).drewN nq))
          have ULd := hid (HUL.out.drewN nq)
          go_wp2_with (first | (at_builtin; refine wp_appG rfl (.tmp 75) (.tmp 80) rfl wl.heap.size _ M (el, eh) _ 1 rfl rfl (OwnG.old HMd.out ((Old.refl _).alloc _)) (rgIn_new _ (el, eh) _ (by simp)) (by omega) (by simp; omega) ?_; intro v8 w8 o8 g8; have O8 := hid o8; have V8 := hid (Old.grown (ULd.out.alloc _) g8 (OwnG.rowAt HMd.out)); clear o8 g8))
          go_roundw
          case rel => exact ⟨k + 1, M ++ [(el, eh)], false, hlt3, by go_num, rfl, by rw [← E1.out]; simp, E2.out, ⟨by simp; omega, fun h => by simp; omega⟩, O8.out, V8.out⟩
          case measure => simp [intOf]; omega
        ·have hd : Fl.put (rl, rh) true ((el, eh) :: N.drop (k + 1)) = ((el, eh) :: (Fl.put (rl, rh) true (N.drop (k + 1))).1, (Fl.put (rl, rh) true (N.drop (k + 1))).2) := by rw [Fl.put, if_neg (by simp)]
         rw [hd] at e1 e2
         have E1 := hid e1
         have E2 := hid e2
         have hMf := hMk.1
         clear e1 e2 hd hMk
         go_wp2_with fail
         go_quiet (fail)
         have HMd := hid (OwnG.old HM.out ((Old.refl wr).drewN nq))
         have ULd := hid (HUL.out.drewN nq)
         go_wp2_with (first | (at_builtin; refine wp_appG rfl (.tmp 75) (.tmp 80) rfl wl.heap.size _ M (el, eh) _ 1 rfl rfl (OwnG.old HMd.out ((Old.refl _).alloc _)) (rgIn_new _ (el, eh) _ (by simp)) (by omega) (by simp; omega) ?_; intro v8 w8 o8 g8; have O8 := hid o8; have V8 := hid (Old.grown (ULd.out.alloc _) g8 (OwnG.rowAt HMd.out)); clear o8 g8))
         go_roundw
         case rel => exact ⟨k + 1, M ++ [(el, eh)], true, hlt3, by go_num, rfl, by rw [← E1.out]; simp, E2.out, ⟨by simp; omega, fun h => by cases h⟩, O8.out, V8.out⟩
         case measure => simp [intOf]; omega
       ·obtain rfl : k = N.length := by omega
        rw [List.drop_length] at e1 e2
        have hM1 : M = (Fl.put (rl, rh) false N).1 := by simpa [Fl.put] using e1
        have hB1 : B = (Fl.put (rl, rh) false N).2 := e2
        have hML := hMk.1
        have zu := HU.out.size
        cases B
        ·have HP : Hid (Fl.dstep D (rl0, rh0) = M ++ [(rl, rh)]) := by
           show _ = _
           rw [HST.out]; unfold Fl.putL; rw [← hB1, ← hM1]; rfl
         clear hM1 hB1 e1 e2 hMk
         go_wp2_with (first | (at_builtin; refine wp_appG rfl (.tmp 84) (.tmp 86) rfl wl.heap.size _ M (rl, rh) _ 1 rfl rfl (OwnG.old HM.out ((Old.refl _).alloc _)) (rgIn_new _ (rl, rh) _ (by simp)) (by omega) (by simp; omega) ?_; intro v7 w7 o7 g7; have O7 := hid o7; have V7 := hid (Old.grown (HUL.out.alloc _) g7 (OwnG.rowAt HM.out)); clear o7 g7))
         go_roundw
         case rel => exact ⟨m + 1, hlt, by go_num, by rw [HD.out, HP.out]; exact O7.out.mono (by omega), (HU.out.trans HUW.out).trans V7.out⟩
         case measure => simp [intOf]; omega
        ·have HP : Hid (Fl.dstep D (rl0, rh0) = M) := by
           show _ = _
           rw [HST.out]; unfold Fl.putL; rw [← hB1, ← hM1]; rfl
         clear hM1 hB1 e1 e2 hMk
         go_wp2_with fail
         go_roundw
         case rel => exact ⟨m + 1, hlt, by go_num, by rw [HD.out, HP.out]; exact HM.out.mono (by omega), (HU.out.trans HUW.out).trans HUL.out⟩
         case measure => simp [intOf]; omega
   ·have HD : Hid (Fl.dfold (Fl.cdl f (m + 1)) = Fl.dfold (Fl.cdl f m)) := by
      show Fl.dfold (Fl.cdl f m ++ Fl.cd (f m)) = _; unfold Fl.cd; rw [hE]; simp
    have e1 : Fl.rL (f m).a (f m).b (f m).p (f m).q = 1 := by unfold Fl.rL; rw [hE]; rfl
    have e2 : Fl.rH (f m).a (f m).b (f m).p (f m).q = 0 := by unfold Fl.rH; rw [hE]; rfl
    have HEm := fun W => rEmpty_any (Fl.rL (f m).a (f m).b (f m).p (f m).q) (Fl.rH (f m).a (f m).b (f m).p (f m).q) W
    rw [show decide (Fl.rH (f m).a (f m).b (f m).p (f m).q < Fl.rL (f m).a (f m).b (f m).p (f m).q) = true from by rw [e1, e2]; rfl] at HEm
    have H1 := hid HOf
    have H2 := hid HEm
    clear HOf HEm e1 e2 hE hW1 hW2 c0
    generalize Fl.rL (f m).a (f m).b (f m).p (f m).q = RL at *
    generalize Fl.rH (f m).a (f m).b (f m).p (f m).q = RH at *
    generalize (f m).a = a1 at *
    generalize (f m).b = b1 at *
    generalize (f m).p = p1 at *
    generalize (f m).q = q1 at *
    obtain ⟨oa, oc, hov⟩ := HO.out.len
    subst hov
    go_wp2_with (first | (go_at_call 74; refine (H1.out _).mono ?_; rintro o w5 ⟨rfl, u5⟩; have U5 := hid u5.old; clear u5) | (go_at_call 75; refine (H2.out _).mono ?_; rintro o w6 ⟨rfl, u6⟩; have U6 := hid ((U5.out.alloc _).trans u6.old); clear u6))
    go_roundw
    case rel => exact ⟨m + 1, hlt, by go_num, by rw [HD.out]; exact OwnG.old HO.out U6.out, HU.out.trans U6.out⟩
    case measure => simp [intOf]; omega
  ·obtain rfl : m = n := by omega
   obtain ⟨a', c', hv'⟩ := HO.out.len
   subst hv'
   go_wp2
   go_ret
   exact ⟨_, rfl, HO.out, HU.out⟩
end Go.Proofs.YthjfkmjeppdcnaaGreat
namespace Go.Proofs.YthjfkmjeppdcnaaGreat
set_option linter.unusedSimpArgs false
open Go.RowKit
set_option linter.unusedVariables false
attribute [local go_sem] run_bits run_frombits run_store_float eqF
def FRow (w : World) (v : Value) (n : Nat) (x : Nat → Nat) : Prop := n ≤ 9223372036854775807 ∧ ∃ a c, v = .slice a n c ∧ ∀ i, i < n → ∃ b off, a = some ⟨b, off, none⟩ ∧ Fl.W (x i) ∧ w.cell? ⟨b, off + i, none⟩ = some (.float .f64 (x i))
theorem FRow.old {w w' : World} {v : Value} {n : Nat} {x : Nat → Nat} (h : FRow w v n x) (u : Old w w') : FRow w' v n x := by
 obtain ⟨hm, a, c, hv, hc⟩ := h
 exact ⟨hm, a, c, hv, fun i hi => by obtain ⟨b, off, q1, q2, q3⟩ := hc i hi; exact ⟨b, off, q1, q2, u.keep q3⟩⟩
set_option maxHeartbeats 1000000 in
set_option maxRecDepth 20000 in
theorem index_nan (v : Value) (n : Nat) (f : Nat → Nat) (g : Nat → Bool) (w : World) (hv : FRow w v n f) (hf : ∀ i, i < n → ∀ W, Old w W → Calls Tryz.prog 59 #[.float .f64 (f i)] W fun e w' => e = .returned (.bool (g i)) ∧ Old W w') :
    Calls Tryz.prog 89 #[v, .func (.func 59) #[] #[]] w fun e w' => ∃ r : Int, e = .returned (.int .i64 r) ∧ decide (0 ≤ r) = Fl.anyG g n ∧ Old w w' := by
 obtain ⟨hm, a, c, rfl, hc⟩ := hv
 have HC := hid hc
 have HF := hid hf
 have hmm := hm
 clear hc hf hm
 go_enter Tryz.func89, Tryz.ntmps89
 go_wp2
 go_loopw [8] (fun i wr => ∃ k : Nat, k ≤ n ∧ i = .int .i64 (k : Nat) ∧ Fl.anyG g k = false ∧ Old w wr) (fun i _ => n - (intOf i).toNat)
 case atStart => exact ⟨0, Nat.zero_le _, rfl, rfl, Old.refl _⟩
 case round =>
  obtain ⟨k, hk, rfl, h0, hu⟩ := hrel
  by_cases hlt : k < n
  ·obtain ⟨b, off, ha, hW, c0⟩ := HC.out k hlt
   subst ha
   have x0 := hu.keep c0
   have HK := hid (HF.out k hlt)
   have l1 : (0 : Int) ≤ (k : Int) := by omega
   have l2 : (k : Int) < (n : Int) := by omega
   have H0 := hid h0
   clear c0 h0 HF HC
   generalize f k = X at *
   cases hg : g k
   ·rw [hg] at HK
    have HS := hid (Fl.anyG_step g k H0.out hg)
    clear hg
    go_wp2_with (go_at_call 59; refine (HK.out _ hu).mono ?_; rintro o w5 ⟨rfl, u5⟩)
    go_roundw
    case rel => exact ⟨k + 1, hlt, by go_num, HS.out, Old.trans hu u5⟩
    case measure => simp [intOf]; omega
   ·have HT := hid (Fl.anyG_true g n k hlt hg)
    rw [hg] at HK
    clear hg
    go_wp2_with (go_at_call 59; refine (HK.out _ hu).mono ?_; rintro o w5 ⟨rfl, u5⟩)
    go_ret
    exact ⟨_, rfl, by rw [HT.out]; simp, Old.trans hu u5⟩
  ·obtain rfl : k = n := by omega
   have H0 := hid h0
   clear h0
   go_wp2
   go_ret
   exact ⟨_, rfl, by rw [H0.out]; rfl, hu⟩
set_option maxHeartbeats 400000 in
set_option maxRecDepth 20000 in
theorem contains_nan (v : Value) (n : Nat) (f : Nat → Nat) (g : Nat → Bool) (w : World) (hv : FRow w v n f) (hf : ∀ i, i < n → ∀ W, Old w W → Calls Tryz.prog 59 #[.float .f64 (f i)] W fun e w' => e = .returned (.bool (g i)) ∧ Old W w') :
    Calls Tryz.prog 58 #[v, .func (.func 59) #[] #[]] w fun e w' => e = .returned (.bool (Fl.anyG g n)) ∧ Old w w' := by
 have HI := hid (index_nan v n f g w hv hf)
 clear hv hf
 go_enter Tryz.func58, Tryz.ntmps58
 go_wp2_with (go_at_call 89; refine HI.out.mono ?_; rintro o w5 ⟨r, rfl, hr, u5⟩; have HR := hid hr; clear hr)
 go_ret
 exact ⟨ret_b (by rw [← HR.out]), u5⟩
set_option maxHeartbeats 1000000 in
set_option maxRecDepth 20000 in
theorem index_emp (v : Value) (n : Nat) (f : Nat → Sp) (g : Nat → Bool) (w : World) (hv : SRow w v n f) (hf : ∀ i, i < n → ∀ W, Old w W → Calls Tryz.prog 62 #[.agg #[.float .f64 (f i).a, .float .f64 (f i).b, .bool (f i).p, .bool (f i).q]] W fun e w' => e = .returned (.bool (g i)) ∧ Old W w') :
    Calls Tryz.prog 60 #[v, .func (.func 62) #[] #[]] w fun e w' => ∃ r : Int, e = .returned (.int .i64 r) ∧ decide (0 ≤ r) = Fl.anyG g n ∧ Old w w' := by
 obtain ⟨hm, a, c, rfl, hc⟩ := hv
 have HC := hid hc
 have HF := hid hf
 have hmm := hm
 clear hc hf hm
 go_enter Tryz.func60, Tryz.ntmps60
 go_wp2
 go_loopw [8] (fun i wr => ∃ k : Nat, k ≤ n ∧ i = .int .i64 (k : Nat) ∧ Fl.anyG g k = false ∧ Old w wr) (fun i _ => n - (intOf i).toNat)
 case atStart => exact ⟨0, Nat.zero_le _, rfl, rfl, Old.refl _⟩
 case round =>
  obtain ⟨k, hk, rfl, h0, hu⟩ := hrel
  by_cases hlt : k < n
  ·obtain ⟨b, off, ha, hW1, hW2, c0, c1, c2, c3⟩ := HC.out k hlt
   subst ha
   have x0 := hu.keep c0
   have x1 := hu.keep c1
   have x2 := hu.keep c2
   have x3 := hu.keep c3
   have HK := hid (HF.out k hlt)
   have l1 : (0 : Int) ≤ (k : Int) := by omega
   have l2 : (k : Int) < (n : Int) := by omega
   have H0 := hid h0
   clear c0 c1 c2 c3 h0 HF HC
   generalize (f k).a = a1 at *
   generalize (f k).b = b1 at *
   generalize (f k).p = p1 at *
   generalize (f k).q = q1 at *
   cases hg : g k
   ·rw [hg] at HK
    have HS := hid (Fl.anyG_step g k H0.out hg)
    clear hg
    go_wp2_with (go_at_call 62; refine (HK.out _ hu).mono ?_; rintro o w5 ⟨rfl, u5⟩)
    go_roundw
    case rel => exact ⟨k + 1, hlt, by go_num, HS.out, Old.trans hu u5⟩
    case measure => simp [intOf]; omega
   ·have HT := hid (Fl.anyG_true g n k hlt hg)
    rw [hg] at HK
    clear hg
    go_wp2_with (go_at_call 62; refine (HK.out _ hu).mono ?_; rintro o w5 ⟨rfl, u5⟩)
    go_ret
    exact ⟨_, rfl, by rw [HT.out]; simp, Old.trans hu u5⟩
  ·obtain rfl : k = n := by omega
   have H0 := hid h0
   clear h0
   go_wp2
   go_ret
   exact ⟨_, rfl, by rw [H0.out]; rfl, hu⟩
set_option maxHeartbeats 400000 in
set_option maxRecDepth 20000 in
theorem contains_emp (v : Value) (n : Nat) (f : Nat → Sp) (g : Nat → Bool) (w : World) (hv : SRow w v n f) (hf : ∀ i, i < n → ∀ W, Old w W → Calls Tryz.prog 62 #[.agg #[.float .f64 (f i).a, .float .f64 (f i).b, .bool (f i).p, .bool (f i).q]] W fun e w' => e = .returned (.bool (g i)) ∧ Old W w') :
    Calls Tryz.prog 36 #[v, .func (.func 62) #[] #[]] w fun e w' => e = .returned (.bool (Fl.anyG g n)) ∧ Old w w' := by
 have HI := hid (index_emp v n f g w hv hf)
 clear hv hf
 go_enter Tryz.func36, Tryz.ntmps36
 go_wp2_with (go_at_call 60; refine HI.out.mono ?_; rintro o w5 ⟨r, rfl, hr, u5⟩; have HR := hid hr; clear hr)
 go_ret
 exact ⟨ret_b (by rw [← HR.out]), u5⟩
set_option maxHeartbeats 1000000 in
set_option maxRecDepth 20000 in
theorem index_wr (v : Value) (n : Nat) (f : Nat → Sp) (g : Nat → Bool) (w : World) (hv : SRow w v n f) (hf : ∀ i, i < n → ∀ W, Old w W → Calls Tryz.prog 37 #[.agg #[.float .f64 (f i).a, .float .f64 (f i).b, .bool (f i).p, .bool (f i).q]] W fun e w' => e = .returned (.bool (g i)) ∧ Old W w') :
    Calls Tryz.prog 60 #[v, .func (.func 37) #[] #[]] w fun e w' => ∃ r : Int, e = .returned (.int .i64 r) ∧ decide (0 ≤ r) = Fl.anyG g n ∧ Old w w' := by
 obtain ⟨hm, a, c, rfl, hc⟩ := hv
 have HC := hid hc
 have HF := hid hf
 have hmm := hm
 clear hc hf hm
 go_enter Tryz.func60, Tryz.ntmps60
 go_wp2
 go_loopw [8] (fun i wr => ∃ k : Nat, k ≤ n ∧ i = .int .i64 (k : Nat) ∧ Fl.anyG g k = false ∧ Old w wr) (fun i _ => n - (intOf i).toNat)
 case atStart => exact ⟨0, Nat.zero_le _, rfl, rfl, Old.refl _⟩
 case round =>
  obtain ⟨k, hk, rfl, h0, hu⟩ := hrel
  by_cases hlt : k < n
  ·obtain ⟨b, off, ha, hW1, hW2, c0, c1, c2, c3⟩ := HC.out k hlt
   subst ha
   have x0 := hu.keep c0
   have x1 := hu.keep c1
   have x2 := hu.keep c2
   have x3 := hu.keep c3
   have HK := hid (HF.out k hlt)
   have l1 : (0 : Int) ≤ (k : Int) := by omega
   have l2 : (k : Int) < (n : Int) := by omega
   have H0 := hid h0
   clear c0 c1 c2 c3 h0 HF HC
   generalize (f k).a = a1 at *
   generalize (f k).b = b1 at *
   generalize (f k).p = p1 at *
   generalize (f k).q = q1 at *
   cases hg : g k
   ·rw [hg] at HK
    have HS := hid (Fl.anyG_step g k H0.out hg)
    clear hg
    go_wp2_with (go_at_call 37; refine (HK.out _ hu).mono ?_; rintro o w5 ⟨rfl, u5⟩)
    go_roundw
    case rel => exact ⟨k + 1, hlt, by go_num, HS.out, Old.trans hu u5⟩
    case measure => simp [intOf]; omega
   ·have HT := hid (Fl.anyG_true g n k hlt hg)
    rw [hg] at HK
    clear hg
    go_wp2_with (go_at_call 37; refine (HK.out _ hu).mono ?_; rintro o w5 ⟨rfl, u5⟩)
    go_ret
    exact ⟨_, rfl, by rw [HT.out]; simp, Old.trans hu u5⟩
  ·obtain rfl : k = n := by omega
   have H0 := hid h0
   clear h0
   go_wp2
   go_ret
   exact ⟨_, rfl, by rw [H0.out]; rfl, hu⟩
set_option maxHeartbeats 400000 in
set_option maxRecDepth 20000 in
theorem contains_wr (v : Value) (n : Nat) (f : Nat → Sp) (g : Nat → Bool) (w : World) (hv : SRow w v n f) (hf : ∀ i, i < n → ∀ W, Old w W → Calls Tryz.prog 37 #[.agg #[.float .f64 (f i).a, .float .f64 (f i).b, .bool (f i).p, .bool (f i).q]] W fun e w' => e = .returned (.bool (g i)) ∧ Old W w') :
    Calls Tryz.prog 36 #[v, .func (.func 37) #[] #[]] w fun e w' => e = .returned (.bool (Fl.anyG g n)) ∧ Old w w' := by
 have HI := hid (index_wr v n f g w hv hf)
 clear hv hf
 go_enter Tryz.func36, Tryz.ntmps36
 go_wp2_with (go_at_call 60; refine HI.out.mono ?_; rintro o w5 ⟨r, rfl, hr, u5⟩; have HR := hid hr; clear hr)
 go_ret
 exact ⟨ret_b (by rw [← HR.out]), u5⟩
set_option maxHeartbeats 400000 in
set_option maxRecDepth 20000 in
theorem wrong_any (a b : Nat) (ha : Fl.W a) (hb : Fl.W b) (p q : Bool) (w : World) :
    Calls Tryz.prog 37 #[.agg #[.float .f64 a, .float .f64 b, .bool p, .bool q]] w fun e w' => e = .returned (.bool (Fl.nan a || Fl.nan b)) ∧ Old w w' := by
 have HR := hid (fun W => right_any a b ha hb p q W)
 have HB := hid (show (!(!Fl.nan a && !Fl.nan b)) = (Fl.nan a || Fl.nan b) by cases Fl.nan a <;> cases Fl.nan b <;> rfl)
 generalize (!Fl.nan a && !Fl.nan b) = r at *
 go_enter Tryz.func37, Tryz.ntmps37
 go_wp2_with (go_at_call 61; refine (HR.out _).mono ?_; rintro o w5 ⟨rfl, u5⟩)
 go_ret
 exact ⟨ret_b HB.out, ((Old.refl w).alloc _).trans u5.old⟩
set_option maxHeartbeats 400000 in
set_option maxRecDepth 20000 in
theorem nans_any (v : Value) (n : Nat) (x : Nat → Nat) (w : World) (hv : FRow w v n x) :
    Calls Tryz.prog 58 #[v, .func (.func 59) #[] #[]] w fun e w' => e = .returned (.bool (Fl.anyG (fun i => Fl.nan (x i)) n)) ∧ Old w w' := by
 have hv2 := hv
 obtain ⟨_, _, _, _, hc⟩ := hv2
 exact contains_nan v n x _ w hv fun i hi W hW => by
  obtain ⟨_, _, _, h1, _⟩ := hc i hi
  exact (isNaN_any (x i) h1 W).mono fun e w' h => ⟨h.1, by rw [h.2]; exact Old.refl _⟩
set_option maxHeartbeats 400000 in
set_option maxRecDepth 20000 in
theorem empties_any (v : Value) (n : Nat) (f : Nat → Sp) (w : World) (hv : SRow w v n f) :
    Calls Tryz.prog 36 #[v, .func (.func 62) #[] #[]] w fun e w' => e = .returned (.bool (Fl.anyG (fun i => Fl.csE (f i).a (f i).b (f i).p (f i).q) n)) ∧ Old w w' := by
 have hv2 := hv
 obtain ⟨_, _, _, _, hc⟩ := hv2
 exact contains_emp v n f _ w hv fun i hi W hW => by
  obtain ⟨_, _, _, h1, h2, _⟩ := hc i hi
  exact (empty_any _ _ h1 h2 _ _ W).mono fun e w' h => ⟨h.1, h.2.old⟩
set_option maxHeartbeats 400000 in
set_option maxRecDepth 20000 in
theorem wrongs_any (v : Value) (n : Nat) (f : Nat → Sp) (w : World) (hv : SRow w v n f) :
    Calls Tryz.prog 36 #[v, .func (.func 37) #[] #[]] w fun e w' => e = .returned (.bool (Fl.anyG (fun i => Fl.nan (f i).a || Fl.nan (f i).b) n)) ∧ Old w w' := by
 have hv2 := hv
 obtain ⟨_, _, _, _, hc⟩ := hv2
 exact contains_wr v n f _ w hv fun i hi W hW => by
  obtain ⟨_, _, _, h1, h2, _⟩ := hc i hi
  exact wrong_any _ _ h1 h2 _ _ W
end Go.Proofs.YthjfkmjeppdcnaaGreat
namespace Go.Proofs.YthjfkmjeppdcnaaGreat
set_option linter.unusedSimpArgs false
namespace Fl
def Asc (L : List Nat) : Prop := L.Pairwise (fun a b => code a < code b)
theorem asc_eq : ∀ (L M : List Nat), Asc L → Asc M → (∀ z, z ∈ L ↔ z ∈ M) → L = M
 | [], [], _, _, _ => rfl
 | [], b :: M, _, _, h => absurd ((h b).2 (List.mem_cons_self ..)) (by simp)
 | a :: L, [], _, _, h => absurd ((h a).1 (List.mem_cons_self ..)) (by simp)
 | a :: L, b :: M, hL, hM, h => by
  have hL1 := List.pairwise_cons.1 hL
  have hM1 := List.pairwise_cons.1 hM
  have hab : a = b := by
   rcases List.mem_cons.1 ((h a).1 (List.mem_cons_self ..)) with e | e
   ·exact e
   ·rcases List.mem_cons.1 ((h b).2 (List.mem_cons_self ..)) with e2 | e2
    ·exact e2.symm
    ·have h1 := hM1.1 a e
     have h2 := hL1.1 b e2
     omega
  subst hab
  rw [asc_eq L M hL1.2 hM1.2 (fun z => ?_)]
  constructor
  ·intro hz
   rcases List.mem_cons.1 ((h z).1 (List.mem_cons_of_mem _ hz)) with e | e
   ·subst e; exact absurd (hL1.1 z hz) (by omega)
   ·exact e
  ·intro hz
   rcases List.mem_cons.1 ((h z).2 (List.mem_cons_of_mem _ hz)) with e | e
   ·subst e; exact absurd (hM1.1 z hz) (by omega)
   ·exact e
def dd : List Nat → List Nat
 | [] => []
 | a :: L => match L with
  | [] => [a]
  | b :: r => if a = b then dd (b :: r) else a :: dd (b :: r)
theorem dd_cons (a b : Nat) (r : List Nat) : dd (a :: b :: r) = if a = b then dd (b :: r) else a :: dd (b :: r) := by rw [dd]
theorem dd_mem : ∀ (L : List Nat) z, z ∈ dd L ↔ z ∈ L
 | [], z => by simp [dd]
 | [a], z => by simp [dd]
 | a :: b :: r, z => by
  rw [dd_cons]
  by_cases e : a = b
  ·rw [if_pos e, dd_mem (b :: r) z, e]; simp
  ·rw [if_neg e, List.mem_cons, dd_mem (b :: r) z]; simp
theorem dd_asc : ∀ (L : List Nat), (∀ a ∈ L, ∀ b ∈ L, code a = code b → a = b) → L.Pairwise (fun a b => code a ≤ code b) → Asc (dd L)
 | [], _, _ => List.Pairwise.nil
 | [a], _, _ => by simp [dd, Asc]
 | a :: b :: r, hi, hp => by
  have hp1 := List.pairwise_cons.1 hp
  have ih := dd_asc (b :: r) (fun x hx y hy => hi x (List.mem_cons_of_mem _ hx) y (List.mem_cons_of_mem _ hy)) hp1.2
  rw [dd_cons]
  by_cases e : a = b
  ·rw [if_pos e]; exact ih
  ·rw [if_neg e]
   refine List.pairwise_cons.2 ⟨fun z hz => ?_, ih⟩
   rw [dd_mem] at hz
   have h1 := hp1.1 z hz
   by_cases e2 : code a = code z
   ·have e3 : a = z := hi a (List.mem_cons_self ..) z (List.mem_cons_of_mem _ hz) e2
    subst e3
    have h2 := hp1.1 b (List.mem_cons_self ..)
    rcases List.mem_cons.1 hz with e4 | e4
    ·exact absurd e4 e
    ·have h3 := (List.pairwise_cons.1 hp1.2).1 a e4
     exact absurd (hi a (List.mem_cons_self ..) b (List.mem_cons_of_mem _ (List.mem_cons_self ..)) (by omega)) e
   ·omega
end Fl
end Go.Proofs.YthjfkmjeppdcnaaGreat
namespace Go.Proofs.YthjfkmjeppdcnaaGreat
set_option linter.unusedSimpArgs false
namespace Fl
def dt (x : Nat → Nat) : Nat → List Nat
 | 0 => []
 | k + 1 => if k ≠ 0 ∧ x k = x (k - 1) then dt x k else dt x k ++ [x k]
theorem dt_len (x : Nat → Nat) : ∀ k, (dt x k).length ≤ k
 | 0 => Nat.le_refl _
 | k + 1 => by have := dt_len x k; unfold dt; split <;> simp <;> omega
theorem dt_last (x : Nat → Nat) : ∀ k, x k ∈ dt x (k + 1)
 | 0 => by simp [dt]
 | k + 1 => by
  unfold dt
  split
  ·rename_i h
   have := dt_last x k
   simp at h
   rw [h]; exact this
  ·simp
theorem dt_mem (x : Nat → Nat) : ∀ k z, z ∈ dt x k ↔ ∃ i, i < k ∧ z = x i
 | 0, z => by simp [dt]
 | k + 1, z => by
  have ih := dt_mem x k z
  unfold dt
  split
  ·rename_i h
   rw [ih]
   constructor
   ·rintro ⟨i, hi, e⟩; exact ⟨i, by omega, e⟩
   ·rintro ⟨i, hi, e⟩
    by_cases h2 : i = k
    ·subst h2; exact ⟨i - 1, by omega, by rw [e, h.2]⟩
    ·exact ⟨i, by omega, e⟩
  ·rw [List.mem_append, ih]
   constructor
   ·rintro (⟨i, hi, e⟩ | e)
    ·exact ⟨i, by omega, e⟩
    ·simp at e; exact ⟨k, by omega, e⟩
   ·rintro ⟨i, hi, e⟩
    by_cases h2 : i = k
    ·subst h2; right; simp [e]
    ·exact .inl ⟨i, by omega, e⟩
theorem dt_asc (x : Nat → Nat) (n : Nat) (hle : ∀ i, i + 1 < n → code (x i) ≤ code (x (i + 1))) (hinj : ∀ i j, i < n → j < n → code (x i) = code (x j) → x i = x j) : ∀ k, k ≤ n → Asc (dt x k)
 | 0, _ => List.Pairwise.nil
 | k + 1, hk => by
  have ih := dt_asc x n hle hinj k (by omega)
  unfold dt
  split
  ·exact ih
  ·rename_i h
   have hmono : ∀ j i, i ≤ j → j < n → code (x i) ≤ code (x j) := by
    intro j
    induction j with
    | zero => intro i hi _; obtain rfl : i = 0 := by omega
              exact Nat.le_refl _
    | succ j ihj =>
     intro i hi hj
     by_cases e : i = j + 1
     ·subst e; exact Nat.le_refl _
     ·exact Nat.le_trans (ihj i (by omega) (by omega)) (hle j hj)
   refine List.pairwise_append.2 ⟨ih, by simp, fun a ha b hb => ?_⟩
   simp at hb
   subst hb
   obtain ⟨i, hi, rfl⟩ := (dt_mem x k a).1 ha
   have h1 := hmono k i (by omega) (by omega)
   by_cases e : code (x i) = code (x k)
   ·exfalso
    have hk0 : k ≠ 0 := by omega
    have h2 := hmono (k - 1) i (by omega) (by omega)
    have h3 := hmono k (k - 1) (by omega) (by omega)
    exact h ⟨hk0, hinj k (k - 1) (by omega) (by omega) (by omega)⟩
   ·omega
theorem dt_fresh (x : Nat → Nat) : ∀ k, (∀ i, 0 < i → i < k → x i ≠ x (i - 1)) → (dt x k).length = k ∧ ∀ i, i < k → (dt x k)[i]? = some (x i)
 | 0, _ => ⟨rfl, fun i hi => by omega⟩
 | k + 1, h => by
  obtain ⟨h1, h2⟩ := dt_fresh x k (fun i hi hk => h i hi (by omega))
  have e : dt x (k + 1) = dt x k ++ [x k] := by
   rw [dt, if_neg]
   rintro ⟨h3, h4⟩
   exact h k (by omega) (by omega) h4
  rw [e]
  refine ⟨by simp [h1], fun i hi => ?_⟩
  by_cases e2 : i < k
  ·rw [List.getElem?_append_left (by omega)]; exact h2 i e2
  ·obtain rfl : i = k := by omega
   rw [List.getElem?_append_right (by omega), h1]; simp
end Fl
end Go.Proofs.YthjfkmjeppdcnaaGreat
