/- The document's Norm at every row of spans; conditions: the lengths fit. -/
import Derived.Test.YtbkbnfgjkefcmaaGreatNd
import Derived.Test.YtbkbnfgjkefcmaaGreatJrv
namespace Go.Proofs.YtbkbnfgjkefcmaaGreat
open Go.RowKit
set_option linter.unusedVariables false
attribute [local go_sem] run_bits run_frombits run_store_float eqF
theorem ent_join (args : Array Value) (w : World) : (callFunc 72 args).run Tryz.prog w = .ok (.enter 72 args) w := by kernel_rfl
abbrev E4 (g o l h rb a b : Nat) (w : World) : Prop := (w.cell? ⟨g, o, none⟩ = some (.int .u64 (l : Nat)) ∧ w.cell? ⟨g, o + 1, none⟩ = some (.int .u64 (h : Nat))) ∧ RgAt rb a b w
theorem E4.up {g o l h rb a b : Nat} {w w' : World} (u : Up w w') (k : E4 g o l h rb a b w) : E4 g o l h rb a b w' := ⟨⟨u.keep k.1.1, u.keep k.1.2⟩, RgAt.up u k.2⟩
theorem RgAt.old {m a b : Nat} {w w' : World} (u : Old w w') (k : RgAt m a b w) : RgAt m a b w' := ⟨⟨u.keep k.1.1, u.keep k.1.2⟩, u.keepF k.1.1 k.2.1, u.keepF k.1.2 k.2.2⟩
theorem RgAt.grown {m a b : Nat} {w w' : World} {row : Option Nat} (k : RgAt m a b w) (hg : w.grownBy w' row) (hne : Option.some m ≠ row) : RgAt m a b w' := by
  have hb := hg.block m (World.block_lt_of_cell? w _ k.1.1) hne
  have H : ∀ o, w'.cell? ⟨m, o, none⟩ = w.cell? ⟨m, o, none⟩ := fun o => World.cell?_of_block hb
  have G : ∀ o, w'.frozen? ⟨m, o, none⟩ = w.frozen? ⟨m, o, none⟩ := fun o => World.frozen?_of_block hb
  exact ⟨⟨by rw [H]; exact k.1.1, by rw [H]; exact k.1.2⟩, by rw [G]; exact k.2.1, by rw [G]; exact k.2.2⟩
theorem Old.grown {a w w' : World} {row : Option Nat} (h : Old a w) (hg : w.grownBy w' row) (hr : ∀ k, row = some k → a.heap.size ≤ k) : Old a w' := Below.grown h hg h.size hr
theorem OwnG.rowAt {base : Nat} {w : World} {v : Value} {L : List (Nat × Nat)} (h : OwnG base w v L) : ∀ k, v.ownBlock = some k → base ≤ k := fun k e => (World.ownsRow.lt h k e).1
/-- What the document's Join makes of two ranges, by codes. -/
theorem joinC (e r : Nat × Nat) (he : Fl.RV e) (hr : Fl.RV r) (w : World) :
    Calls Tryz.prog 72 #[.agg #[.int .u64 (e.1 : Nat), .int .u64 (e.2 : Nat)], .agg #[.int .u64 (r.1 : Nat), .int .u64 (r.2 : Nat)]] w fun o w' => (if Fl.nx e.2 < r.1 ∨ Fl.nx r.2 < e.1 then o = .returned (.tuple #[.agg #[.int .u64 (1 : Nat), .int .u64 (0 : Nat)], .bool false]) else o = .returned (.tuple #[.agg #[.int .u64 (min e.1 r.1 : Nat), .int .u64 (max e.2 r.2 : Nat)], .bool true])) ∧ Up w w' := by
  have H := rJoin_form (Fl.spo_form he) (Fl.spo_form hr) w
  have a1 := Fl.of_V he.1
  have a2 := Fl.of_V he.2.1
  have a3 := Fl.of_V hr.1
  have a4 := Fl.of_V hr.2.1
  have g1 : Fl.gp (Fl.of e.2) (Fl.of r.1) = decide (Fl.nx e.2 < r.1) := Fl.gap_nx he hr
  have g2 : Fl.gp (Fl.of r.2) (Fl.of e.1) = decide (Fl.nx r.2 < e.1) := Fl.gap_nx hr he
  have e1 : ∀ c, Fl.rl (Fl.of c) false = Fl.code (Fl.of c) := fun _ => rfl
  have e2 : ∀ c, Fl.rh (Fl.of c) false = Fl.code (Fl.of c) := fun _ => rfl
  rw [e1, e2, e1, e2, a1.2.1, a2.2.1, a3.2.1, a4.2.1] at H
  refine H.mono fun o w' h => ⟨?_, h.2⟩
  have hj : Fl.jK (Fl.of e.1) (Fl.of e.2) false (Fl.of r.1) (Fl.of r.2) false = !(decide (Fl.nx e.2 < r.1) || decide (Fl.nx r.2 < e.1)) := by unfold Fl.jK; rw [g1, g2]; rfl
  have h1 := h.1
  unfold Fl.jU Fl.jV Fl.jE at h1
  rw [hj] at h1
  by_cases c : Fl.nx e.2 < r.1 ∨ Fl.nx r.2 < e.1
  · rw [if_pos c]
    have d : (decide (Fl.nx e.2 < r.1) || decide (Fl.nx r.2 < e.1)) = true := by simpa using c
    rw [d] at h1; exact h1
  · rw [if_neg c]
    have d : (decide (Fl.nx e.2 < r.1) || decide (Fl.nx r.2 < e.1)) = false := by simpa using c
    rw [d] at h1
    have m1 := Fl.code_mn (Fl.of e.1) (Fl.of r.1)
    have m2 := Fl.code_mx (Fl.of e.2) (Fl.of r.2)
    rw [a1.2.1, a3.2.1] at m1
    rw [a2.2.1, a4.2.1] at m2
    rw [← m1, ← m2]; exact h1
theorem dropG (L : List (Nat × Nat)) (k : Nat) (h : k < L.length) : L.drop k = L[k] :: L.drop (k + 1) := List.drop_eq_getElem_cons h
set_option maxHeartbeats 8000000 in
set_option maxRecDepth 20000 in
theorem refNorm_any (v : Value) (n : Nat) (f : Nat → Sp) (hn : n ≤ 5864062014805) (w : World) (hv : SRow w v n f) :
    Calls Tryz.prog 44 #[v] w fun e w' => ∃ v' : Value, e = .returned v' ∧ OwnG w.heap.size w' v' (Fl.dfold (Fl.cdl f n)) ∧ Old w w' := by
  obtain ⟨hm, a, c, rfl, hc⟩ := hv
  have HC := hid hc
  have HW := hid (fun i (hi : i < n) => by obtain ⟨_, _, _, h1, h2, _⟩ := hc i hi; exact (⟨h1, h2⟩ : Fl.W (f i).a ∧ Fl.W (f i).b))
  clear hc
  go_enter Tryz.func44, Tryz.ntmps44
  go_wp2
  go_loopw [3, 4] (fun o i wi => ∃ m : Nat, m ≤ n ∧ i = .int .i64 (m : Nat) ∧ OwnG w.heap.size wi o (Fl.dfold (Fl.cdl f m)) ∧ Old w wi) (fun _ i _ => n - (intOf i).toNat)
  case atStart => exact ⟨0, Nat.zero_le _, rfl, OwnG.empty (Nat.le_refl _) rfl, (Old.refl w).alloc _⟩
  case round =>
    generalize wr = wi at *
    obtain ⟨m, hmn, rfl, ho, hu⟩ := hrel
    have HO := hid ho
    have HU := hid hu
    clear ho hu
    by_cases hlt : m < n
    · obtain ⟨b, off, ha, hW1, hW2, c0⟩ := HC.out m hlt
      subst ha
      obtain ⟨x0, x1, x2, x3⟩ := c0.old HU.out
      have l1 : (0 : Int) ≤ (m : Int) := by omega
      have l2 : (m : Int) < (n : Int) := by omega
      have HOf := fun W => rOf_any (f m).a (f m).b hW1 hW2 (f m).p (f m).q W
      have hD0 := Fl.dfold_ok _ (Fl.cdl f m) rfl (Fl.cdl_RV f m fun i hi => HW.out i (by omega))
      have hDl : (Fl.dfold (Fl.cdl f m)).length ≤ m := by have := hD0.2.2; have := Fl.cdl_len f m; omega
      have HD0 := hid hD0.1
      clear hD0
      cases hE : Fl.csE (f m).a (f m).b (f m).p (f m).q
      · have hr0 := Fl.cd_RV (f m) hW1 hW2 (Fl.code (Fl.csU (f m).a (f m).b (f m).p (f m).q), Fl.code (Fl.csV (f m).a (f m).b (f m).p (f m).q)) (by unfold Fl.cd; rw [hE]; simp)
        have HD : Hid (Fl.dfold (Fl.cdl f (m + 1)) = Fl.dstep (Fl.dfold (Fl.cdl f m)) (Fl.code (Fl.csU (f m).a (f m).b (f m).p (f m).q), Fl.code (Fl.csV (f m).a (f m).b (f m).p (f m).q))) := by
          show Fl.dfold (Fl.cdl f m ++ Fl.cd (f m)) = _; unfold Fl.cd; rw [hE]; exact Fl.dfold_snoc _ _
        have e1 : Fl.rL (f m).a (f m).b (f m).p (f m).q = Fl.code (Fl.csU (f m).a (f m).b (f m).p (f m).q) := by unfold Fl.rL; rw [hE]; rfl
        have e2 : Fl.rH (f m).a (f m).b (f m).p (f m).q = Fl.code (Fl.csV (f m).a (f m).b (f m).p (f m).q) := by unfold Fl.rH; rw [hE]; rfl
        rw [e1, e2] at HOf
        have HEm := fun W => rEmpty_any (Fl.code (Fl.csU (f m).a (f m).b (f m).p (f m).q)) (Fl.code (Fl.csV (f m).a (f m).b (f m).p (f m).q)) W
        rw [show decide (Fl.code (Fl.csV (f m).a (f m).b (f m).p (f m).q) < Fl.code (Fl.csU (f m).a (f m).b (f m).p (f m).q)) = false from decide_eq_false (by have := hr0.2.2; dsimp only at this; omega)] at HEm
        have H1 := hid HOf
        have H2 := hid HEm
        clear HOf HEm e1 e2 hE hW1 hW2 c0
        generalize Fl.code (Fl.csU (f m).a (f m).b (f m).p (f m).q) = rl0 at *
        generalize Fl.code (Fl.csV (f m).a (f m).b (f m).p (f m).q) = rh0 at *
        generalize Fl.dfold (Fl.cdl f m) = D at *
        generalize (f m).a = a1 at *
        generalize (f m).b = b1 at *
        generalize (f m).p = p1 at *
        generalize (f m).q = q1 at *
        obtain ⟨oa, oc, hov⟩ := HO.out.len
        subst hov
        go_wp2_with (first | (go_at_call 39; refine (H1.out _).mono ?_; rintro o w5 ⟨rfl, u5⟩; have U5 := hid u5.old; clear u5) | (go_at_call 38; refine (H2.out _).mono ?_; rintro o w6 ⟨rfl, u6⟩; have R6 : RgAt w5.heap.size rl0 rh0 w6 := RgAt.up u6 (by simp [RgAt]); have U6 := hid ((U5.out.alloc _).trans u6.old); have z6 : w5.heap.size + 1 ≤ w6.heap.size := (by have := u6.old.size; simpa using this); clear u6))
        have z5 := U5.out.size
        have z6' := U6.out.size
        generalize hrb : w5.heap.size = rb at *
        clear hrb
        go_loopw [6, 7] (fun l i wr => ∃ (k : Nat) (N : List (Nat × Nat)) (r : Nat × Nat), k ≤ D.length ∧ i = .int .i64 (k : Nat) ∧ N ++ (Fl.jn (D.drop k) r).1 = (Fl.jn D (rl0, rh0)).1 ∧ (Fl.jn (D.drop k) r).2 = (Fl.jn D (rl0, rh0)).2 ∧ N.length ≤ k ∧ Fl.RV r ∧ RgAt rb r.1 r.2 wr ∧ OwnG (rb + 1) wr l N ∧ Old wi wr) (fun _ i _ => D.length - (intOf i).toNat)
        case atStart => exact ⟨0, [], (rl0, rh0), Nat.zero_le _, rfl, rfl, rfl, Nat.le_refl _, hr0, RgAt.old ((Old.refl _).alloc _) R6, OwnG.empty z6 rfl, U6.out.alloc _⟩
        case round =>
          obtain ⟨k, N, r, hk, rfl, e1, e2, hNk, hrv, hR, hoN, huw⟩ := hrel
          have l5 : (D.length : Int) ≤ 5864062014805 := by omega
          by_cases hlt2 : k < D.length
          · obtain ⟨g, gc, hs, hg1, hg2, hcell⟩ := OwnG.shape HO.out (by omega)
            cases hs
            have hev := HD0.out.2 D[k] (List.getElem_mem hlt2)
            obtain ⟨y0, y1⟩ := (hcell k hlt2).old huw
            have HJ0 := fun W => joinC D[k] r hev hrv W
            rw [dropG D k hlt2, Fl.jn] at e1 e2
            have l3 : (0 : Int) ≤ (k : Int) := by omega
            have l4 : (k : Int) < (D.length : Int) := by omega
            have HRJ := hid (Fl.rv_join hev hrv)
            clear hcell
            generalize D[k] = e at *
            obtain ⟨el, eh⟩ := e
            obtain ⟨rl, rh⟩ := r
            dsimp only at *
            have hE : E4 g (k * 2) el eh rb rl rh wr := ⟨⟨y0, y1⟩, hR⟩
            obtain ⟨jl, jh, K, HJ1, hfact⟩ : ∃ (jl jh : Nat) (K : Bool), (∀ W, Calls Tryz.prog 72 #[.agg #[.int .u64 (el : Nat), .int .u64 (eh : Nat)], .agg #[.int .u64 (rl : Nat), .int .u64 (rh : Nat)]] W fun o w' => o = .returned (.tuple #[.agg #[.int .u64 (jl : Nat), .int .u64 (jh : Nat)], .bool K]) ∧ Up W w') ∧ (((Fl.nx eh < rl ∨ Fl.nx rh < el) ∧ K = false) ∨ (¬ (Fl.nx eh < rl ∨ Fl.nx rh < el) ∧ K = true ∧ jl = min el rl ∧ jh = max eh rh)) := by
              by_cases cg : Fl.nx eh < rl ∨ Fl.nx rh < el
              · exact ⟨1, 0, false, fun W => (HJ0 W).mono fun o w' h => ⟨by have h1 := h.1; rw [if_pos cg] at h1; exact h1, h.2⟩, .inl ⟨cg, rfl⟩⟩
              · exact ⟨min el rl, max eh rh, true, fun W => (HJ0 W).mono fun o w' h => ⟨by have h1 := h.1; rw [if_neg cg] at h1; exact h1, h.2⟩, .inr ⟨cg, rfl, rfl, rfl⟩⟩
            have HJoin := hid HJ1
            have HFa := hid hfact
            have E1 := hid e1
            have E2 := hid e2
            have HN := hid hoN
            have HUW := hid huw
            clear HJ0 HJ1 hfact e1 e2 hoN huw
            go_wp2_with fail
            go_cut [8, 9] (fun jp ok wx => ∃ mj : Nat, jp = .pointer (some ⟨mj, 0, none⟩) ∧ ok = .bool K ∧ RgAt mj jl jh wx ∧ wr.heap.size ≤ mj ∧ Up wr wx)
            case first =>
              refine wp_region_noPanic ?_
              refine wp_region_held_drew (S := E4 g (k * 2) el eh rb rl rh) (by kernel_rfl) ?_ (fun hHeld => ?_)
              · exact E4.up ((Up.refl _).drew) hE
              (try simp only [Act.put]); (try simp only [List.setIfInBounds_toArray]); (try simp only [List.set_cons_succ]); (try simp only [List.set_cons_zero])
              clear hHeld
              refine wpAnyH_take (i := 0) (oi := { dst := some 35, op := Op.move (Operand.tmp 3), type := 72, pos := "ref.go:110", after := #[], guard := none }) (v := ?vk1) rfl (by kernel_rfl) (by kernel_rfl) (by kernel_rfl) (fun _ _ _ h => h) (Or.inl ⟨by rfl, ?hk1⟩) (E4.up (J2r.start wr).1 hE) ?rk1
              case hk1 => (intro wz hSw; (try dsimp only at hSw); go_simp; try with_reducible rfl)
              (try simp only [Act.put]); (try simp only [List.setIfInBounds_toArray]); (try simp only [List.set_cons_succ]); (try simp only [List.set_cons_zero])
              refine wpAnyH_take (i := 1) (oi := { dst := some 36, op := Op.move (Operand.tmp 7), type := 3, pos := "ref.go:110", after := #[], guard := none }) (v := ?vk2) rfl (by kernel_rfl) (by kernel_rfl) (by kernel_rfl) (fun _ _ _ h => h) (Or.inl ⟨by rfl, ?hk2⟩) (E4.up (J2r.start wr).1 hE) ?rk2
              case hk2 => (intro wz hSw; (try dsimp only at hSw); go_simp; try with_reducible rfl)
              (try simp only [Act.put]); (try simp only [List.setIfInBounds_toArray]); (try simp only [List.set_cons_succ]); (try simp only [List.set_cons_zero])
              refine wpAnyH_take (i := 2) (oi := { dst := some 37, op := Op.indexAddr 72 (Operand.tmp 35) (Operand.tmp 36), type := 0, pos := "ref.go:110", after := #[{ on := 0, ground := Ground.data }, { on := 1, ground := Ground.data }], guard := none }) (v := ?vk3) rfl (by kernel_rfl) (by kernel_rfl) (by kernel_rfl) (fun _ _ _ h => h) (Or.inl ⟨by rfl, ?hk3⟩) (E4.up (J2r.start wr).1 hE) ?rk3
              case hk3 => (intro wz hSw; (try dsimp only at hSw); go_simp; try with_reducible rfl)
              (try simp only [Act.put]); (try simp only [List.setIfInBounds_toArray]); (try simp only [List.set_cons_succ]); (try simp only [List.set_cons_zero])
              refine wpAnyH_take (i := 3) (oi := { dst := some 38, op := Op.load 64 (Operand.tmp 37), type := 64, pos := "ref.go:110", after := #[{ on := 2, ground := Ground.data }], guard := none }) (v := ?vk4) rfl (by kernel_rfl) (by kernel_rfl) (by kernel_rfl) (fun _ _ _ h => h) (Or.inl ⟨by rfl, ?hk4⟩) (E4.up (J2r.start wr).1 hE) ?rk4
              case hk4 => (intro wz hSw; (try dsimp only at hSw); go_simp; try with_reducible rfl)
              (try simp only [Act.put]); (try simp only [List.setIfInBounds_toArray]); (try simp only [List.set_cons_succ]); (try simp only [List.set_cons_zero])
              refine wpAnyH_take (i := 4) (oi := { dst := some 39, op := Op.load 64 (Operand.tmp 5), type := 64, pos := "ref.go:110", after := #[], guard := none }) (v := ?vk5) rfl (by kernel_rfl) (by kernel_rfl) (by kernel_rfl) (fun _ _ _ h => h) (Or.inl ⟨by rfl, ?hk5⟩) (E4.up (J2r.start wr).1 hE) ?rk5
              case hk5 => (intro wz hSw; (try dsimp only at hSw); go_simp; try with_reducible rfl)
              (try simp only [Act.put]); (try simp only [List.setIfInBounds_toArray]); (try simp only [List.set_cons_succ]); (try simp only [List.set_cons_zero])
              refine wpAnyH_ready (rs := [5, 9]) (by kernel_rfl) (by simp) ?_
              refine AllReadyH.cons (o := { dst := some 40, op := Op.call { callee := Callee.value (Operand.func 72), args := #[Operand.tmp 38, Operand.tmp 39], argTypes := #[64, 64] }, type := 92, pos := "ref.go:110", after := #[{ on := 3, ground := Ground.data }, { on := 4, ground := Ground.data }], guard := none }) rfl (fun K hK => ?_) (AllReadyH.cons (o := { dst := some 8, op := Op.alloc 64, type := 0, pos := "ref.go:110", after := #[], guard := none }) rfl (fun K hK => ?_) AllReadyH.nil)
              · skip
                refine stepCall2 ?_ 72 (.tmp 38) (.tmp 39) #[64, 64] ?_ (.agg #[.int .u64 (el : Nat), .int .u64 (eh : Nat)]) (.agg #[.int .u64 (rl : Nat), .int .u64 (rh : Nat)]) ?_ ?_ ?_ (ent_join _ _) ?_
                · rfl
                · rfl
                · rfl
                · rfl
                · rfl
                refine (HJoin.out _).mono ?_
                rintro o x6 ⟨rfl, b6⟩
                refine ⟨_, rfl, ?_⟩
                have j6 := (J2r.start wr).up b6
                refine hK.out _ _ (E4.up j6.1 hE) (fun _ => ?_)
                clear hK K
                (try simp only [Act.put]); (try simp only [List.setIfInBounds_toArray]); (try simp only [List.set_cons_succ]); (try simp only [List.set_cons_zero])
                refine wpAnyH_take (i := 6) (oi := { dst := some 34, op := Op.move (Operand.tmp 40), type := 92, pos := "ref.go:110", after := #[{ on := 5, ground := Ground.data }], guard := none }) (v := ?vk7) rfl (by kernel_rfl) (by kernel_rfl) (by kernel_rfl) (fun _ _ _ h => h) (Or.inl ⟨by rfl, ?hk7⟩) (E4.up j6.1 hE) ?rk7
                case hk7 => (intro wz hSw; (try dsimp only at hSw); go_simp; try with_reducible rfl)
                (try simp only [Act.put]); (try simp only [List.setIfInBounds_toArray]); (try simp only [List.set_cons_succ]); (try simp only [List.set_cons_zero])
                refine wpAnyH_take (i := 7) (oi := { dst := some 41, op := Op.extract (Operand.tmp 34) 0, type := 64, pos := "ref.go:110", after := #[{ on := 6, ground := Ground.data }], guard := none }) (v := ?vk8) rfl (by kernel_rfl) (by kernel_rfl) (by kernel_rfl) (fun _ _ _ h => h) (Or.inl ⟨by rfl, ?hk8⟩) (E4.up j6.1 hE) ?rk8
                case hk8 => (intro wz hSw; (try dsimp only at hSw); go_simp; try with_reducible rfl)
                (try simp only [Act.put]); (try simp only [List.setIfInBounds_toArray]); (try simp only [List.set_cons_succ]); (try simp only [List.set_cons_zero])
                refine wpAnyH_take (i := 8) (oi := { dst := some 42, op := Op.extract (Operand.tmp 34) 1, type := 4, pos := "ref.go:110", after := #[{ on := 6, ground := Ground.data }, { on := 10, ground := Ground.gcOnly Departure.lateStores }], guard := none }) (v := ?vk9) rfl (by kernel_rfl) (by kernel_rfl) (by kernel_rfl) (fun _ _ _ h => h) (Or.inl ⟨by rfl, ?hk9⟩) (E4.up j6.1 hE) ?rk9
                case hk9 => (intro wz hSw; (try dsimp only at hSw); go_simp; try with_reducible rfl)
                (try simp only [Act.put]); (try simp only [List.setIfInBounds_toArray]); (try simp only [List.set_cons_succ]); (try simp only [List.set_cons_zero])
                refine wpAnyH_ready (rs := [9]) (by kernel_rfl) (by simp) ?_
                refine AllReadyH.cons (o := { dst := some 8, op := Op.alloc 64, type := 0, pos := "ref.go:110", after := #[], guard := none }) rfl (fun K hK => ?_) AllReadyH.nil
                · skip
                  refine stepAllocR ?_ ?_ ?_
                  · rfl
                  · rfl
                  intro m10 x10 hm10 hx10
                  have j10 := j6.nF hm10 hx10
                  clear hm10 hx10
                  refine hK.out _ _ (E4.up j10.1 hE) (fun _ => ?_)
                  clear hK K
                  (try simp only [Act.put]); (try simp only [List.setIfInBounds_toArray]); (try simp only [List.set_cons_succ]); (try simp only [List.set_cons_zero])
                  refine wpAnyH_ready (rs := [10]) (by kernel_rfl) (by simp) ?_
                  refine AllReadyH.cons (o := { dst := none, op := Op.store 64 (Operand.tmp 8) (Operand.tmp 41), type := 0, pos := "ref.go:110", after := #[{ on := 9, ground := Ground.data }, { on := 7, ground := Ground.data }, { on := 5, ground := Ground.chain }, { on := 0, ground := Ground.phase }, { on := 1, ground := Ground.phase }, { on := 2, ground := Ground.phase }, { on := 3, ground := Ground.phase }, { on := 4, ground := Ground.phase }, { on := 5, ground := Ground.phase }, { on := 6, ground := Ground.phase }, { on := 7, ground := Ground.phase }, { on := 8, ground := Ground.textOnly Departure.lateStores }, { on := 9, ground := Ground.phase }], guard := none }) rfl (fun K hK => ?_) AllReadyH.nil
                  · skip
                    refine stepStoreR ?_ (.tmp 8) (.tmp 41) ?_ m10 jl jh ?_ ?_ j10.thereF ?_
                    · rfl
                    · rfl
                    · rfl
                    · rfl
                    refine hK.out _ _ (E4.up (j10.upF _) hE) (fun _ => ?_)
                    clear hK K
                    (try simp only [Act.put]); (try simp only [List.setIfInBounds_toArray]); (try simp only [List.set_cons_succ]); (try simp only [List.set_cons_zero])
                    refine wpAnyH_ready (rs := [11]) (by kernel_rfl) (by simp) ?_
                    refine AllReadyH.cons (o := { dst := some 9, op := Op.assign (Operand.tmp 42), type := 4, pos := "ref.go:110", after := #[{ on := 8, ground := Ground.data }, { on := 10, ground := Ground.chain }, { on := 0, ground := Ground.phase }, { on := 1, ground := Ground.phase }, { on := 2, ground := Ground.phase }, { on := 3, ground := Ground.phase }, { on := 4, ground := Ground.phase }, { on := 5, ground := Ground.phase }, { on := 6, ground := Ground.phase }, { on := 7, ground := Ground.phase }, { on := 8, ground := Ground.phase }, { on := 9, ground := Ground.phase }, { on := 10, ground := Ground.phase }], guard := none }) rfl (fun K hK => ?_) AllReadyH.nil
                    · skip
                      go_simp
                      refine hK.out _ _ (E4.up (j10.upF _) hE) (fun _ => ?_)
                      clear hK K
                      (try simp only [Act.put]); (try simp only [List.setIfInBounds_toArray]); (try simp only [List.set_cons_succ]); (try simp only [List.set_cons_zero])
                      refine wpAnyH_done (by kernel_rfl) ?_ _
                      refine NoPanic.normal ?_
                      go_wp2_with fail
                      go_meet
                      case rel => exact ⟨m10, rfl, rfl, (j10.2.1 _ rfl).2.stored jl jh, (j10.2.1 _ rfl).1, j10.upF _⟩
              · skip
                refine stepAllocR ?_ ?_ ?_
                · rfl
                · rfl
                intro m11 x11 hm11 hx11
                have j11 := (J2r.start wr).nF hm11 hx11
                clear hm11 hx11
                refine hK.out _ _ (E4.up j11.1 hE) (fun _ => ?_)
                clear hK K
                (try simp only [Act.put]); (try simp only [List.setIfInBounds_toArray]); (try simp only [List.set_cons_succ]); (try simp only [List.set_cons_zero])
                refine wpAnyH_ready (rs := [5]) (by kernel_rfl) (by simp) ?_
                refine AllReadyH.cons (o := { dst := some 40, op := Op.call { callee := Callee.value (Operand.func 72), args := #[Operand.tmp 38, Operand.tmp 39], argTypes := #[64, 64] }, type := 92, pos := "ref.go:110", after := #[{ on := 3, ground := Ground.data }, { on := 4, ground := Ground.data }], guard := none }) rfl (fun K hK => ?_) AllReadyH.nil
                · skip
                  refine stepCall2 ?_ 72 (.tmp 38) (.tmp 39) #[64, 64] ?_ (.agg #[.int .u64 (el : Nat), .int .u64 (eh : Nat)]) (.agg #[.int .u64 (rl : Nat), .int .u64 (rh : Nat)]) ?_ ?_ ?_ (ent_join _ _) ?_
                  · rfl
                  · rfl
                  · rfl
                  · rfl
                  · rfl
                  refine (HJoin.out _).mono ?_
                  rintro o x12 ⟨rfl, b12⟩
                  refine ⟨_, rfl, ?_⟩
                  have j12 := j11.up b12
                  refine hK.out _ _ (E4.up j12.1 hE) (fun _ => ?_)
                  clear hK K
                  (try simp only [Act.put]); (try simp only [List.setIfInBounds_toArray]); (try simp only [List.set_cons_succ]); (try simp only [List.set_cons_zero])
                  refine wpAnyH_take (i := 6) (oi := { dst := some 34, op := Op.move (Operand.tmp 40), type := 92, pos := "ref.go:110", after := #[{ on := 5, ground := Ground.data }], guard := none }) (v := ?vk13) rfl (by kernel_rfl) (by kernel_rfl) (by kernel_rfl) (fun _ _ _ h => h) (Or.inl ⟨by rfl, ?hk13⟩) (E4.up j12.1 hE) ?rk13
                  case hk13 => (intro wz hSw; (try dsimp only at hSw); go_simp; try with_reducible rfl)
                  (try simp only [Act.put]); (try simp only [List.setIfInBounds_toArray]); (try simp only [List.set_cons_succ]); (try simp only [List.set_cons_zero])
                  refine wpAnyH_take (i := 7) (oi := { dst := some 41, op := Op.extract (Operand.tmp 34) 0, type := 64, pos := "ref.go:110", after := #[{ on := 6, ground := Ground.data }], guard := none }) (v := ?vk14) rfl (by kernel_rfl) (by kernel_rfl) (by kernel_rfl) (fun _ _ _ h => h) (Or.inl ⟨by rfl, ?hk14⟩) (E4.up j12.1 hE) ?rk14
                  case hk14 => (intro wz hSw; (try dsimp only at hSw); go_simp; try with_reducible rfl)
                  (try simp only [Act.put]); (try simp only [List.setIfInBounds_toArray]); (try simp only [List.set_cons_succ]); (try simp only [List.set_cons_zero])
                  refine wpAnyH_take (i := 8) (oi := { dst := some 42, op := Op.extract (Operand.tmp 34) 1, type := 4, pos := "ref.go:110", after := #[{ on := 6, ground := Ground.data }, { on := 10, ground := Ground.gcOnly Departure.lateStores }], guard := none }) (v := ?vk15) rfl (by kernel_rfl) (by kernel_rfl) (by kernel_rfl) (fun _ _ _ h => h) (Or.inl ⟨by rfl, ?hk15⟩) (E4.up j12.1 hE) ?rk15
                  case hk15 => (intro wz hSw; (try dsimp only at hSw); go_simp; try with_reducible rfl)
                  (try simp only [Act.put]); (try simp only [List.setIfInBounds_toArray]); (try simp only [List.set_cons_succ]); (try simp only [List.set_cons_zero])
                  refine wpAnyH_ready (rs := [10]) (by kernel_rfl) (by simp) ?_
                  refine AllReadyH.cons (o := { dst := none, op := Op.store 64 (Operand.tmp 8) (Operand.tmp 41), type := 0, pos := "ref.go:110", after := #[{ on := 9, ground := Ground.data }, { on := 7, ground := Ground.data }, { on := 5, ground := Ground.chain }, { on := 0, ground := Ground.phase }, { on := 1, ground := Ground.phase }, { on := 2, ground := Ground.phase }, { on := 3, ground := Ground.phase }, { on := 4, ground := Ground.phase }, { on := 5, ground := Ground.phase }, { on := 6, ground := Ground.phase }, { on := 7, ground := Ground.phase }, { on := 8, ground := Ground.textOnly Departure.lateStores }, { on := 9, ground := Ground.phase }], guard := none }) rfl (fun K hK => ?_) AllReadyH.nil
                  · skip
                    refine stepStoreR ?_ (.tmp 8) (.tmp 41) ?_ m11 jl jh ?_ ?_ j12.thereF ?_
                    · rfl
                    · rfl
                    · rfl
                    · rfl
                    refine hK.out _ _ (E4.up (j12.upF _) hE) (fun _ => ?_)
                    clear hK K
                    (try simp only [Act.put]); (try simp only [List.setIfInBounds_toArray]); (try simp only [List.set_cons_succ]); (try simp only [List.set_cons_zero])
                    refine wpAnyH_ready (rs := [11]) (by kernel_rfl) (by simp) ?_
                    refine AllReadyH.cons (o := { dst := some 9, op := Op.assign (Operand.tmp 42), type := 4, pos := "ref.go:110", after := #[{ on := 8, ground := Ground.data }, { on := 10, ground := Ground.chain }, { on := 0, ground := Ground.phase }, { on := 1, ground := Ground.phase }, { on := 2, ground := Ground.phase }, { on := 3, ground := Ground.phase }, { on := 4, ground := Ground.phase }, { on := 5, ground := Ground.phase }, { on := 6, ground := Ground.phase }, { on := 7, ground := Ground.phase }, { on := 8, ground := Ground.phase }, { on := 9, ground := Ground.phase }, { on := 10, ground := Ground.phase }], guard := none }) rfl (fun K hK => ?_) AllReadyH.nil
                    · skip
                      go_simp
                      refine hK.out _ _ (E4.up (j12.upF _) hE) (fun _ => ?_)
                      clear hK K
                      (try simp only [Act.put]); (try simp only [List.setIfInBounds_toArray]); (try simp only [List.set_cons_succ]); (try simp only [List.set_cons_zero])
                      refine wpAnyH_done (by kernel_rfl) ?_ _
                      refine NoPanic.normal ?_
                      go_wp2_with fail
                      go_meet
                      case rel => exact ⟨m11, rfl, rfl, (j12.2.1 _ rfl).2.stored jl jh, (j12.2.1 _ rfl).1, j12.upF _⟩
            case rest =>
              obtain ⟨mj, rfl, rfl, hmj, hmj2, hux⟩ := hcut
              obtain ⟨⟨z0, z1⟩, hR2⟩ := E4.up hux hE
              obtain ⟨⟨p0, p1⟩, p2, p3⟩ := hR2
              obtain ⟨⟨j0, j1⟩, j2, j3⟩ := hmj
              have UX := hid hux.old
              have zx := hux.old.size
              have zz := HUW.out.size
              have zb : rb < wc.heap.size := World.block_lt_of_cell? wc _ p0
              have HR2 : Hid (RgAt rb rl rh wc) := ⟨⟨p0, p1⟩, p2, p3⟩
              clear hux hE y0 y1 hR HJoin
              rcases HFa.out with ⟨cg, rfl⟩ | ⟨cg, rfl, rfl, rfl⟩
              · have E1' := hid (show N ++ ((el, eh) :: (Fl.jn (D.drop (k + 1)) (rl, rh)).1) = (Fl.jn D (rl0, rh0)).1 from by have h := E1.out; rw [if_pos cg] at h; exact h)
                have E2' := hid (show (Fl.jn (D.drop (k + 1)) (rl, rh)).2 = (Fl.jn D (rl0, rh0)).2 from by have h := E2.out; rw [if_pos cg] at h; exact h)
                clear E1 E2 HFa cg
                go_wp2_with (first | (at_builtin; refine wp_appG rfl (.tmp 45) (.tmp 50) rfl (rb + 1) _ N (el, eh) _ 1 rfl rfl (OwnG.old HN.out (UX.out.alloc _)) (rgIn_new _ (el, eh) _ (by simp)) (by omega) (by simp; omega) ?_; intro v8 w8 o8 g8; have O8 := hid o8; have G8 := hid g8; clear o8 g8))
                go_roundw
                case rel => exact ⟨k + 1, N ++ [(el, eh)], (rl, rh), hlt2, by go_num, by rw [← E1'.out]; simp, E2'.out, by simp; omega, hrv, RgAt.grown (RgAt.old ((Old.refl _).alloc _) HR2.out) G8.out (fun e => by have := OwnG.rowAt HN.out rb e.symm; omega), O8.out, Old.grown ((HUW.out.trans UX.out).alloc _) G8.out (fun q hq => by have := OwnG.rowAt HN.out q hq; omega)⟩
                case measure => simp [intOf]; omega
              · have E1' := hid (show N ++ (Fl.jn (D.drop (k + 1)) (min el rl, max eh rh)).1 = (Fl.jn D (rl0, rh0)).1 from by have h := E1.out; rw [if_neg cg] at h; exact h)
                have E2' := hid (show (Fl.jn (D.drop (k + 1)) (min el rl, max eh rh)).2 = (Fl.jn D (rl0, rh0)).2 from by have h := E2.out; rw [if_neg cg] at h; exact h)
                clear E1 E2 HFa cg
                generalize min el rl = jl at *
                generalize max eh rh = jh at *
                go_wp2_with fail
                go_roundw
                case rel => exact ⟨k + 1, N, (jl, jh), hlt2, by go_num, E1'.out, E2'.out, by omega, HRJ.out, RgAt.stored HR2.out jl jh, ownsRow_setCell_below (ownsRow_setCell_below (OwnG.old HN.out UX.out) (by show rb < rb + 1; omega) _) (by show rb < rb + 1; omega) _, ((HUW.out.trans UX.out).setCell (by show wi.heap.size ≤ rb; omega) _).setCell (by show wi.heap.size ≤ rb; omega) _⟩
                case measure => simp [intOf]; omega
          · obtain rfl : k = D.length := by omega
            rw [List.drop_length] at e1 e2
            have hN1 : N = (Fl.jn D (rl0, rh0)).1 := by simpa [Fl.jn] using e1
            have hr1 : r = (Fl.jn D (rl0, rh0)).2 := e2
            have HST : Hid (Fl.dstep D (rl0, rh0) = Fl.putL r N) := by show Fl.putL _ _ = _; rw [hN1, hr1]
            clear e1 e2 hN1 hr1
            obtain ⟨la, lc, hlv⟩ := hoN.len
            subst hlv
            have HN := hid hoN
            have HUW := hid huw
            clear hoN huw
            obtain ⟨rl, rh⟩ := r
            dsimp only at *
            generalize wr = wl at *
            have HRl := hid hR
            clear hR
            have zl := HUW.out.size
            go_wp2_with fail
            go_loopw [10, 11, 12] (fun al d i wr => ∃ (k : Nat) (M : List (Nat × Nat)) (B : Bool), k ≤ N.length ∧ i = .int .i64 (k : Nat) ∧ d = .bool B ∧ M ++ (Fl.put (rl, rh) B (N.drop k)).1 = (Fl.put (rl, rh) false N).1 ∧ (Fl.put (rl, rh) B (N.drop k)).2 = (Fl.put (rl, rh) false N).2 ∧ (M.length ≤ k + 1 ∧ (B = false → M.length ≤ k)) ∧ OwnG wl.heap.size wr al M ∧ Old wl wr) (fun _ _ i _ => N.length - (intOf i).toNat)
            case atStart => exact ⟨0, [], false, Nat.zero_le _, rfl, rfl, rfl, rfl, ⟨by simp, fun _ => by simp⟩, OwnG.empty (Nat.le_refl _) rfl, (Old.refl wl).alloc _⟩
            case round =>
              obtain ⟨k, M, B, hk3, rfl, rfl, e1, e2, hMk, hoM, hul⟩ := hrel
              obtain ⟨⟨p0, p1⟩, p2, p3⟩ := RgAt.old hul HRl.out
              have HM := hid hoM
              have HUL := hid hul
              clear hoM hul
              have zr := HUL.out.size
              by_cases hlt3 : k < N.length
              · obtain ⟨g, gc, hs, hg1, hg2, hcell⟩ := OwnG.shape HN.out (by omega)
                cases hs
                have HY := hid (hcell k hlt3)
                obtain ⟨y0, y1⟩ := HY.out.old HUL.out
                rw [dropG N k hlt3] at e1 e2
                have l3 : (0 : Int) ≤ (k : Int) := by omega
                have l4 : (k : Int) < (N.length : Int) := by omega
                clear hcell
                generalize N[k] = e at *
                obtain ⟨el, eh⟩ := e
                dsimp only at *
                cases B
                · by_cases hc : rl < el
                  · have hd : Fl.put (rl, rh) false ((el, eh) :: N.drop (k + 1)) = ((rl, rh) :: (el, eh) :: (Fl.put (rl, rh) true (N.drop (k + 1))).1, (Fl.put (rl, rh) true (N.drop (k + 1))).2) := by rw [Fl.put, if_pos ⟨rfl, hc⟩]
                    rw [hd] at e1 e2
                    have E1 := hid e1
                    have E2 := hid e2
                    have t1 : (rl : Int) < (el : Int) := by omega
                    have hMf := hMk.2 rfl
                    clear e1 e2 hd hMk
                    go_wp2_with fail
                    go_quiet (fail)
                    have HMd := hid (OwnG.old HM.out ((Old.refl wr).drewN nq))
                    have ULd := hid (HUL.out.drewN nq)
                    go_wp2_with (first | (at_builtin; refine wp_appG rfl (.tmp 71) (.tmp 73) rfl wl.heap.size _ M (rl, rh) _ 1 rfl rfl (OwnG.old HMd.out ((Old.refl _).alloc _)) (rgIn_new _ (rl, rh) _ (by simp)) (by omega) (by simp; omega) ?_; intro v7 w7 o7 g7; have V7 := hid (Old.grown (ULd.out.alloc _) g7 (OwnG.rowAt HMd.out)); obtain ⟨s0, s1⟩ := HY.out.old V7.out; have O7 := hid o7; have z7 := V7.out.size; clear o7 g7) | (at_builtin; refine wp_appG rfl (.tmp 75) (.tmp 80) rfl wl.heap.size _ (M ++ [(rl, rh)]) (el, eh) _ 1 rfl rfl (OwnG.old O7.out ((Old.refl _).alloc _)) (rgIn_new _ (el, eh) _ (by simp)) (by simp; omega) (by simp; omega) ?_; intro v8 w8 o8 g8; have O8 := hid o8; have V8 := hid (Old.grown (V7.out.alloc _) g8 (OwnG.rowAt O7.out)); clear o8 g8))
                    go_roundw
                    case rel => exact ⟨k + 1, M ++ [(rl, rh)] ++ [(el, eh)], true, hlt3, by go_num, rfl, by rw [← E1.out]; simp, E2.out, ⟨by simp; omega, fun h => by cases h⟩, O8.out, V8.out⟩
                    case measure => simp [intOf]; omega
                  · have hd : Fl.put (rl, rh) false ((el, eh) :: N.drop (k + 1)) = ((el, eh) :: (Fl.put (rl, rh) false (N.drop (k + 1))).1, (Fl.put (rl, rh) false (N.drop (k + 1))).2) := by rw [Fl.put, if_neg (fun h => hc h.2)]
                    rw [hd] at e1 e2
                    have E1 := hid e1
                    have E2 := hid e2
                    have t1 : ¬ (rl : Int) < (el : Int) := by omega
                    have hMf := hMk.2 rfl
                    clear e1 e2 hd hMk
                    go_wp2_with fail
                    go_quiet (fail)
                    have HMd := hid (OwnG.old HM.out ((Old.refl wr).drewN nq))
                    have ULd := hid (HUL.out.drewN nq)
                    go_wp2_with (first | (at_builtin; refine wp_appG rfl (.tmp 75) (.tmp 80) rfl wl.heap.size _ M (el, eh) _ 1 rfl rfl (OwnG.old HMd.out ((Old.refl _).alloc _)) (rgIn_new _ (el, eh) _ (by simp)) (by omega) (by simp; omega) ?_; intro v8 w8 o8 g8; have O8 := hid o8; have V8 := hid (Old.grown (ULd.out.alloc _) g8 (OwnG.rowAt HMd.out)); clear o8 g8))
                    go_roundw
                    case rel => exact ⟨k + 1, M ++ [(el, eh)], false, hlt3, by go_num, rfl, by rw [← E1.out]; simp, E2.out, ⟨by simp; omega, fun h => by simp; omega⟩, O8.out, V8.out⟩
                    case measure => simp [intOf]; omega
                · have hd : Fl.put (rl, rh) true ((el, eh) :: N.drop (k + 1)) = ((el, eh) :: (Fl.put (rl, rh) true (N.drop (k + 1))).1, (Fl.put (rl, rh) true (N.drop (k + 1))).2) := by rw [Fl.put, if_neg (by simp)]
                  rw [hd] at e1 e2
                  have E1 := hid e1
                  have E2 := hid e2
                  have hMf := hMk.1
                  clear e1 e2 hd hMk
                  go_wp2_with fail
                  go_quiet (fail)
                  have HMd := hid (OwnG.old HM.out ((Old.refl wr).drewN nq))
                  have ULd := hid (HUL.out.drewN nq)
                  go_wp2_with (first | (at_builtin; refine wp_appG rfl (.tmp 75) (.tmp 80) rfl wl.heap.size _ M (el, eh) _ 1 rfl rfl (OwnG.old HMd.out ((Old.refl _).alloc _)) (rgIn_new _ (el, eh) _ (by simp)) (by omega) (by simp; omega) ?_; intro v8 w8 o8 g8; have O8 := hid o8; have V8 := hid (Old.grown (ULd.out.alloc _) g8 (OwnG.rowAt HMd.out)); clear o8 g8))
                  go_roundw
                  case rel => exact ⟨k + 1, M ++ [(el, eh)], true, hlt3, by go_num, rfl, by rw [← E1.out]; simp, E2.out, ⟨by simp; omega, fun h => by cases h⟩, O8.out, V8.out⟩
                  case measure => simp [intOf]; omega
              · obtain rfl : k = N.length := by omega
                rw [List.drop_length] at e1 e2
                have hM1 : M = (Fl.put (rl, rh) false N).1 := by simpa [Fl.put] using e1
                have hB1 : B = (Fl.put (rl, rh) false N).2 := e2
                have hML := hMk.1
                have zu := HU.out.size
                cases B
                · have HP : Hid (Fl.dstep D (rl0, rh0) = M ++ [(rl, rh)]) := by
                    show _ = _
                    rw [HST.out]; unfold Fl.putL; rw [← hB1, ← hM1]; rfl
                  clear hM1 hB1 e1 e2 hMk
                  go_wp2_with (first | (at_builtin; refine wp_appG rfl (.tmp 84) (.tmp 86) rfl wl.heap.size _ M (rl, rh) _ 1 rfl rfl (OwnG.old HM.out ((Old.refl _).alloc _)) (rgIn_new _ (rl, rh) _ (by simp)) (by omega) (by simp; omega) ?_; intro v7 w7 o7 g7; have O7 := hid o7; have V7 := hid (Old.grown (HUL.out.alloc _) g7 (OwnG.rowAt HM.out)); clear o7 g7))
                  go_roundw
                  case rel => exact ⟨m + 1, hlt, by go_num, by rw [HD.out, HP.out]; exact O7.out.mono (by omega), (HU.out.trans HUW.out).trans V7.out⟩
                  case measure => simp [intOf]; omega
                · have HP : Hid (Fl.dstep D (rl0, rh0) = M) := by
                    show _ = _
                    rw [HST.out]; unfold Fl.putL; rw [← hB1, ← hM1]; rfl
                  clear hM1 hB1 e1 e2 hMk
                  go_wp2_with fail
                  go_roundw
                  case rel => exact ⟨m + 1, hlt, by go_num, by rw [HD.out, HP.out]; exact HM.out.mono (by omega), (HU.out.trans HUW.out).trans HUL.out⟩
                  case measure => simp [intOf]; omega
      · have HD : Hid (Fl.dfold (Fl.cdl f (m + 1)) = Fl.dfold (Fl.cdl f m)) := by
          show Fl.dfold (Fl.cdl f m ++ Fl.cd (f m)) = _; unfold Fl.cd; rw [hE]; simp
        have e1 : Fl.rL (f m).a (f m).b (f m).p (f m).q = 1 := by unfold Fl.rL; rw [hE]; rfl
        have e2 : Fl.rH (f m).a (f m).b (f m).p (f m).q = 0 := by unfold Fl.rH; rw [hE]; rfl
        have HEm := fun W => rEmpty_any (Fl.rL (f m).a (f m).b (f m).p (f m).q) (Fl.rH (f m).a (f m).b (f m).p (f m).q) W
        rw [show decide (Fl.rH (f m).a (f m).b (f m).p (f m).q < Fl.rL (f m).a (f m).b (f m).p (f m).q) = true from by rw [e1, e2]; rfl] at HEm
        have H1 := hid HOf
        have H2 := hid HEm
        clear HOf HEm e1 e2 hE hW1 hW2 c0
        generalize Fl.rL (f m).a (f m).b (f m).p (f m).q = RL at *
        generalize Fl.rH (f m).a (f m).b (f m).p (f m).q = RH at *
        generalize (f m).a = a1 at *
        generalize (f m).b = b1 at *
        generalize (f m).p = p1 at *
        generalize (f m).q = q1 at *
        obtain ⟨oa, oc, hov⟩ := HO.out.len
        subst hov
        go_wp2_with (first | (go_at_call 39; refine (H1.out _).mono ?_; rintro o w5 ⟨rfl, u5⟩; have U5 := hid u5.old; clear u5) | (go_at_call 38; refine (H2.out _).mono ?_; rintro o w6 ⟨rfl, u6⟩; have U6 := hid ((U5.out.alloc _).trans u6.old); clear u6))
        go_roundw
        case rel => exact ⟨m + 1, hlt, by go_num, by rw [HD.out]; exact OwnG.old HO.out U6.out, HU.out.trans U6.out⟩
        case measure => simp [intOf]; omega
    · obtain rfl : m = n := by omega
      obtain ⟨a', c', hv'⟩ := HO.out.len
      subst hv'
      go_wp2
      go_ret
      exact ⟨_, rfl, HO.out, HU.out⟩
end Go.Proofs.YtbkbnfgjkefcmaaGreat
