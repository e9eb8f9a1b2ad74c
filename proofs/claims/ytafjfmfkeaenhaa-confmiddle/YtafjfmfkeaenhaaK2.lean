/- conf.ask at every row and every function that returns; conditions: the row lies in memory. -/
import Derived.Test.YtafjfmfkeaenhaaK1
namespace Go.Proofs.Ytafjfmfkeaenhaa
open Go.RowKit Go.Lib
set_option linter.unusedVariables false
set_option linter.unusedSimpArgs false
set_option maxRecDepth 20000
/-- The box of the answer, and the row that it holds. -/
structure AskSt (w : World) (nb : Nat) (v : Value) (L : List Int) (W : World) : Prop where
  u : Old w W
  c : W.heap[nb]? = some (.cells #[v] 25 (0, 0))
  o : OwnN (nb + 1) W v L
  b : w.heap.size ≤ nb
theorem AskSt.c1 {w W : World} {nb : Nat} {v : Value} {L : List Int} (h : AskSt w nb v L W) : W.cell? ⟨nb, 0, none⟩ = some v := one_cell h.c
theorem AskSt.z {w W : World} {nb : Nat} {v : Value} {L : List Int} (h : AskSt w nb v L W) : nb + 1 ≤ W.heap.size := heap_lt h.c
theorem AskSt.old {w W W' : World} {nb : Nat} {v : Value} {L : List Int} (h : AskSt w nb v L W) (u : Old W W') : AskSt w nb v L W' := ⟨h.u.trans u, u.block h.c, h.o.up u, h.b⟩
/-- The row has grown, the box still holds what it held. -/
structure AskG (w : World) (nb : Nat) (v v' : Value) (L' : List Int) (W : World) : Prop where
  u : Old w W
  c : W.heap[nb]? = some (.cells #[v] 25 (0, 0))
  o : OwnN (nb + 1) W v' L'
  b : w.heap.size ≤ nb
theorem AskG.mk' {w W W' : World} {nb : Nat} {v v' : Value} {L L' : List Int} (h : AskSt w nb v L W) (o : OwnN (nb + 1) W' v' L') (g : W.grownBy W' v.ownBlock) : AskG w nb v v' L' W' := by
  have hlt := World.ownsRow.lt h.o
  have hz := h.z
  have hb := h.b
  exact ⟨Below.grown h.u g h.u.size (fun k e => by have := (hlt k e).1; omega), (g.block nb (by omega) (fun e => by have := (hlt nb e.symm).1; omega)).trans h.c, o, h.b⟩
theorem AskG.set {w W : World} {nb : Nat} {v v' : Value} {L' : List Int} (h : AskG w nb v v' L' W) : AskSt w nb v' L' (W.setCell ⟨nb, 0, none⟩ v') := by
  have c : Chg [nb] W (W.setCell ⟨nb, 0, none⟩ v') := Chg.set _ _ _ (by simp)
  exact ⟨h.u.setCell h.b _, one_setCell h.c, h.o.chg c (fun g e => by have := (World.ownsRow.lt h.o g e).1; simp; omega), h.b⟩
set_option maxHeartbeats 400000 in
set_option maxRecDepth 20000 in
theorem askD_idle (nb : Nat) (w : World) :
    CallsD Try.prog 11 #[.pointer (some ⟨nb, 0, none⟩)] .returning w fun e u' w' => e = .returned (.tuple #[]) ∧ u' = .returning ∧ w' = w := by
  have tm : ∀ A : Value, (#[A] : Array Value) ++ Array.replicate (Try.f11.ntmps - (#[A] : Array Value).size) undef = #[A, undef, undef] := fun A => by rw [Try.ntmps11]; rfl
  refine callsD_of_wpS Try.func11 rfl fun c₀ cs hu => ?_
  rw [tm]
  refine wpS_seq ?_
  apply wpS_region
  generalize hQ : Exit.thenS (Code.wpS Try.prog _ _) _ = QQ
  simp [wpOpsS, go_sem, recoverD, hu]
  subst hQ
  refine wpS_of_wp ?_
  go_wp2
  refine ⟨rfl, .returning, by cases c₀; simp_all, .tuple #[], by simp [results, Try.results11], rfl, rfl, rfl⟩
set_option maxHeartbeats 4000000 in
set_option maxRecDepth 20000 in
theorem ask_any (F : FuncId) (caps : Array Value) (g : Int → Int) (henter : ∀ args w, (callFunc F args).run Try.prog w = .ok (.enter F args) w) (v : Value) (n : Nat) (f : Nat → Int) (w : World) (h : NRowL w v n f)
    (hat : ∀ (W : World), Old w W → ∀ i, i < n → Calls Try.prog F (#[.int .i64 (f i)] ++ caps) W fun e w' => e = .returned (.int .i64 (g (f i))) ∧ Old W w') :
    Calls Try.prog 9 #[v, .func (.func F) #[] caps] w fun e w' => ∃ v', e = .returned v' ∧ OwnN w.heap.size w' v' (lsI (fun i => g (f i)) n) ∧ Old w w' := by
  obtain ⟨hn, p, c, rfl, hnc, hcm, hc⟩ := h
  have HC := hid hc
  have HN := hid hn
  have HAt := hid hat
  clear hat hc
  have hmm : (n : Int) ≤ 17592186044000 := by omega
  have hmf : ∀ (fn : Fn) (first cap : Array Value) (w : World), (Instr.makeFunc fn first cap).run Try.prog w = .ok (.func fn first cap) w := fun _ _ _ _ => rfl
  go_enter_defers Try.func9, Try.ntmps9
  go_wp2
  generalize hnb : w.heap.size = nb at *
  go_loopw [10] (fun i wx => ∃ (k : Nat) (pv : Option Addr) (cv : Nat), k ≤ n ∧ i = .int .i64 k ∧ AskSt w nb (.slice pv k cv) (lsI (fun i => g (f i)) k) wx) (fun i _ => n - (intOf i).toNat)
  case atStart =>
    exact ⟨0, none, 0, Nat.zero_le _, rfl, (Old.refl _).alloc _, by rw [← hnb]; exact one_new _ _ _, ⟨rfl, .inl ⟨rfl, rfl⟩⟩, by omega⟩
  case round =>
    obtain ⟨k, pv, cv, hk, rfl, AK⟩ := hrel
    by_cases hlt : k < n
    · obtain ⟨gb, go, e1, cx0⟩ := HC.out k hlt
      subst e1
      have cx := AK.u.keep cx0
      have l1 : (0 : Int) ≤ (k : Int) := by omega
      have l2 : (k : Int) < (n : Int) := by omega
      clear cx0
      go_wp2
      clear cx
      refine wp_region_noPanic ?_
      refine wp_region_held_drew (S := fun _ => True) (by kernel_rfl) ?_ (fun hHeld => ?_)
      · exact trivial
      (try simp only [Act.put]); (try simp only [List.setIfInBounds_toArray]); (try simp only [List.set_cons_succ]); (try simp only [List.set_cons_zero])
      clear hHeld
      refine wpAnyH_take (i := 1) (oi := { dst := some 15, op := Op.move (Operand.tmp 1), type := 26, pos := "conf.go:123", after := #[], guard := none }) (v := ?vk1) rfl (by kernel_rfl) (by kernel_rfl) (by kernel_rfl) (fun _ _ _ h => h) (Or.inl ⟨by rfl, ?hk1⟩) trivial ?rk1
      case hk1 => (intro wz hSw; (try dsimp only at hSw); go_simp; try with_reducible rfl)
      (try simp only [Act.put]); (try simp only [List.setIfInBounds_toArray]); (try simp only [List.set_cons_succ]); (try simp only [List.set_cons_zero])
      refine wpAnyH_take (i := 2) (oi := { dst := some 16, op := Op.move (Operand.tmp 6), type := 3, pos := "conf.go:123", after := #[], guard := none }) (v := ?vk2) rfl (by kernel_rfl) (by kernel_rfl) (by kernel_rfl) (fun _ _ _ h => h) (Or.inl ⟨by rfl, ?hk2⟩) trivial ?rk2
      case hk2 => (intro wz hSw; (try dsimp only at hSw); go_simp; try with_reducible rfl)
      (try simp only [Act.put]); (try simp only [List.setIfInBounds_toArray]); (try simp only [List.set_cons_succ]); (try simp only [List.set_cons_zero])
      refine wpAnyH_ready (rs := [0, 3]) (by kernel_rfl) (by simp) ?_
      refine AllReadyH.cons (o := { dst := some 14, op := Op.load 25 (Operand.tmp 4), type := 25, pos := "conf.go:123", after := #[], guard := none }) rfl (fun K hK => ?_) (AllReadyH.cons (o := { dst := some 17, op := Op.call { callee := Callee.value (Operand.tmp 15), args := #[Operand.tmp 16], argTypes := #[3] }, type := 2, pos := "conf.go:123", after := #[{ on := 1, ground := Ground.data }, { on := 2, ground := Ground.data }], guard := none }) rfl (fun K hK => ?_) AllReadyH.nil)
      · skip
        refine stepLoadN ?_ (.tmp 4) ?_ nb pv k cv ?_ (AK.old ((Old.refl wr).drew)).c1 ?_
        · rfl
        · rfl
        · rfl
        refine hK.out _ _ trivial (fun _ => ?_)
        clear hK K
        (try simp only [Act.put]); (try simp only [List.setIfInBounds_toArray]); (try simp only [List.set_cons_succ]); (try simp only [List.set_cons_zero])
        refine wpAnyH_ready (rs := [3]) (by kernel_rfl) (by simp) ?_
        refine AllReadyH.cons (o := { dst := some 17, op := Op.call { callee := Callee.value (Operand.tmp 15), args := #[Operand.tmp 16], argTypes := #[3] }, type := 2, pos := "conf.go:123", after := #[{ on := 1, ground := Ground.data }, { on := 2, ground := Ground.data }], guard := none }) rfl (fun K hK => ?_) AllReadyH.nil
        · skip
          refine stepCallV ?_ (.tmp 15) (.tmp 16) #[3] ?_ F caps (.int .i64 (f k)) ?_ ?_ henter ?_
          · rfl
          · rfl
          · rfl
          · rfl
          refine (HAt.out _ (AK.old ((Old.refl wr).drew)).u k hlt).mono ?_
          rintro o x3 ⟨rfl, b3⟩
          refine ⟨_, rfl, ?_⟩
          have A3 := (AK.old ((Old.refl wr).drew)).old b3
          refine hK.out _ _ trivial (fun _ => ?_)
          clear hK K
          (try simp only [Act.put]); (try simp only [List.setIfInBounds_toArray]); (try simp only [List.set_cons_succ]); (try simp only [List.set_cons_zero])
          refine wpAnyH_ready (rs := [4]) (by kernel_rfl) (by simp) ?_
          refine AllReadyH.cons (o := { dst := some 18, op := Op.buildSlice 25 1 #[(0, Operand.tmp 17)], type := 25, pos := "conf.go:123", after := #[{ on := 3, ground := Ground.data }], guard := none }) rfl (fun K hK => ?_) AllReadyH.nil
          · skip
            refine stepBuild1N ?_ (.tmp 17) ?_ (g (f k)) ?_ ?_
            · rfl
            · rfl
            · rfl
            intro m4 y4 hm4 hy4
            have R4 : y4.cell? ⟨m4, 0, none⟩ = some (.int .i64 (g (f k))) := by rw [hy4]; exact cell_oneN _ _ _ hm4.symm
            have A4 := A3.old (show Old _ y4 from by rw [hy4]; exact (Old.refl _).alloc _)
            clear hm4 hy4
            refine hK.out _ _ trivial (fun _ => ?_)
            clear hK K
            (try simp only [Act.put]); (try simp only [List.setIfInBounds_toArray]); (try simp only [List.set_cons_succ]); (try simp only [List.set_cons_zero])
            refine wpAnyH_ready (rs := [5]) (by kernel_rfl) (by simp) ?_
            refine AllReadyH.cons (o := { dst := some 19, op := Op.call { callee := Callee.builtin Builtin.append, args := #[Operand.tmp 14, Operand.tmp 18], argTypes := #[25, 25] }, type := 25, pos := "conf.go:123", after := #[{ on := 0, ground := Ground.data }, { on := 4, ground := Ground.data }, { on := 3, ground := Ground.chain }], guard := none }) rfl (fun K hK => ?_) AllReadyH.nil
            · skip
              refine step_appN ?_ (.tmp 14) (.tmp 18) ?_ (nb + 1) _ (lsI (fun i => g (f i)) k) m4 (g (f k)) ?_ ?_ A4.o R4 (by rw [lsI_len]; have := HN.out; omega) A4.z ?_
              · rfl
              · rfl
              · rfl
              · rfl
              intro v5 y5 o5 g5
              have G5 := AskG.mk' A4 o5 g5
              obtain ⟨p5, c5, e5⟩ := o5.len
              rw [List.length_append, lsI_len] at e5
              subst e5
              clear o5 g5
              refine hK.out _ _ trivial (fun _ => ?_)
              clear hK K
              (try simp only [Act.put]); (try simp only [List.setIfInBounds_toArray]); (try simp only [List.set_cons_succ]); (try simp only [List.set_cons_zero])
              refine wpAnyH_ready (rs := [6]) (by kernel_rfl) (by simp) ?_
              refine AllReadyH.cons (o := { dst := none, op := Op.store 25 (Operand.tmp 4) (Operand.tmp 19), type := 0, pos := "conf.go:123", after := #[{ on := 5, ground := Ground.data }, { on := 5, ground := Ground.chain }, { on := 0, ground := Ground.phase }, { on := 1, ground := Ground.phase }, { on := 2, ground := Ground.phase }, { on := 3, ground := Ground.phase }, { on := 4, ground := Ground.phase }, { on := 5, ground := Ground.phase }], guard := none }) rfl (fun K hK => ?_) AllReadyH.nil
              · skip
                refine stepStoreN ?_ (.tmp 4) (.tmp 19) ?_ nb p5 (k + 1) c5 _ ?_ ?_ (one_cell G5.c) (one_free G5.c) ?_
                · rfl
                · rfl
                · rfl
                · rfl
                have A6 := G5.set
                refine hK.out _ _ trivial (fun _ => ?_)
                clear hK K
                (try simp only [Act.put]); (try simp only [List.setIfInBounds_toArray]); (try simp only [List.set_cons_succ]); (try simp only [List.set_cons_zero])
                refine wpAnyH_done (by kernel_rfl) ?_ _
                refine NoPanic.normal ?_
                have AZ := hid (show AskSt w nb _ (lsI (fun i => g (f i)) (k + 1)) _ from A6)
                go_wp2
                exact ⟨⟨k + 1, _, _, hlt, by go_num, AZ.out⟩, by simp [intOf]; omega⟩
      · skip
        refine stepCallV ?_ (.tmp 15) (.tmp 16) #[3] ?_ F caps (.int .i64 (f k)) ?_ ?_ henter ?_
        · rfl
        · rfl
        · rfl
        · rfl
        refine (HAt.out _ (AK.old ((Old.refl wr).drew)).u k hlt).mono ?_
        rintro o x7 ⟨rfl, b7⟩
        refine ⟨_, rfl, ?_⟩
        have A7 := (AK.old ((Old.refl wr).drew)).old b7
        refine hK.out _ _ trivial (fun _ => ?_)
        clear hK K
        (try simp only [Act.put]); (try simp only [List.setIfInBounds_toArray]); (try simp only [List.set_cons_succ]); (try simp only [List.set_cons_zero])
        refine wpAnyH_ready (rs := [0, 4]) (by kernel_rfl) (by simp) ?_
        refine AllReadyH.cons (o := { dst := some 14, op := Op.load 25 (Operand.tmp 4), type := 25, pos := "conf.go:123", after := #[], guard := none }) rfl (fun K hK => ?_) (AllReadyH.cons (o := { dst := some 18, op := Op.buildSlice 25 1 #[(0, Operand.tmp 17)], type := 25, pos := "conf.go:123", after := #[{ on := 3, ground := Ground.data }], guard := none }) rfl (fun K hK => ?_) AllReadyH.nil)
        · skip
          refine stepLoadN ?_ (.tmp 4) ?_ nb pv k cv ?_ A7.c1 ?_
          · rfl
          · rfl
          · rfl
          refine hK.out _ _ trivial (fun _ => ?_)
          clear hK K
          (try simp only [Act.put]); (try simp only [List.setIfInBounds_toArray]); (try simp only [List.set_cons_succ]); (try simp only [List.set_cons_zero])
          refine wpAnyH_ready (rs := [4]) (by kernel_rfl) (by simp) ?_
          refine AllReadyH.cons (o := { dst := some 18, op := Op.buildSlice 25 1 #[(0, Operand.tmp 17)], type := 25, pos := "conf.go:123", after := #[{ on := 3, ground := Ground.data }], guard := none }) rfl (fun K hK => ?_) AllReadyH.nil
          · skip
            refine stepBuild1N ?_ (.tmp 17) ?_ (g (f k)) ?_ ?_
            · rfl
            · rfl
            · rfl
            intro m8 y8 hm8 hy8
            have R8 : y8.cell? ⟨m8, 0, none⟩ = some (.int .i64 (g (f k))) := by rw [hy8]; exact cell_oneN _ _ _ hm8.symm
            have A8 := A7.old (show Old _ y8 from by rw [hy8]; exact (Old.refl _).alloc _)
            clear hm8 hy8
            refine hK.out _ _ trivial (fun _ => ?_)
            clear hK K
            (try simp only [Act.put]); (try simp only [List.setIfInBounds_toArray]); (try simp only [List.set_cons_succ]); (try simp only [List.set_cons_zero])
            refine wpAnyH_ready (rs := [5]) (by kernel_rfl) (by simp) ?_
            refine AllReadyH.cons (o := { dst := some 19, op := Op.call { callee := Callee.builtin Builtin.append, args := #[Operand.tmp 14, Operand.tmp 18], argTypes := #[25, 25] }, type := 25, pos := "conf.go:123", after := #[{ on := 0, ground := Ground.data }, { on := 4, ground := Ground.data }, { on := 3, ground := Ground.chain }], guard := none }) rfl (fun K hK => ?_) AllReadyH.nil
            · skip
              refine step_appN ?_ (.tmp 14) (.tmp 18) ?_ (nb + 1) _ (lsI (fun i => g (f i)) k) m8 (g (f k)) ?_ ?_ A8.o R8 (by rw [lsI_len]; have := HN.out; omega) A8.z ?_
              · rfl
              · rfl
              · rfl
              · rfl
              intro v9 y9 o9 g9
              have G9 := AskG.mk' A8 o9 g9
              obtain ⟨p9, c9, e9⟩ := o9.len
              rw [List.length_append, lsI_len] at e9
              subst e9
              clear o9 g9
              refine hK.out _ _ trivial (fun _ => ?_)
              clear hK K
              (try simp only [Act.put]); (try simp only [List.setIfInBounds_toArray]); (try simp only [List.set_cons_succ]); (try simp only [List.set_cons_zero])
              refine wpAnyH_ready (rs := [6]) (by kernel_rfl) (by simp) ?_
              refine AllReadyH.cons (o := { dst := none, op := Op.store 25 (Operand.tmp 4) (Operand.tmp 19), type := 0, pos := "conf.go:123", after := #[{ on := 5, ground := Ground.data }, { on := 5, ground := Ground.chain }, { on := 0, ground := Ground.phase }, { on := 1, ground := Ground.phase }, { on := 2, ground := Ground.phase }, { on := 3, ground := Ground.phase }, { on := 4, ground := Ground.phase }, { on := 5, ground := Ground.phase }], guard := none }) rfl (fun K hK => ?_) AllReadyH.nil
              · skip
                refine stepStoreN ?_ (.tmp 4) (.tmp 19) ?_ nb p9 (k + 1) c9 _ ?_ ?_ (one_cell G9.c) (one_free G9.c) ?_
                · rfl
                · rfl
                · rfl
                · rfl
                have A10 := G9.set
                refine hK.out _ _ trivial (fun _ => ?_)
                clear hK K
                (try simp only [Act.put]); (try simp only [List.setIfInBounds_toArray]); (try simp only [List.set_cons_succ]); (try simp only [List.set_cons_zero])
                refine wpAnyH_done (by kernel_rfl) ?_ _
                refine NoPanic.normal ?_
                have AZ := hid (show AskSt w nb _ (lsI (fun i => g (f i)) (k + 1)) _ from A10)
                go_wp2
                exact ⟨⟨k + 1, _, _, hlt, by go_num, AZ.out⟩, by simp [intOf]; omega⟩
        · skip
          refine stepBuild1N ?_ (.tmp 17) ?_ (g (f k)) ?_ ?_
          · rfl
          · rfl
          · rfl
          intro m11 y11 hm11 hy11
          have R11 : y11.cell? ⟨m11, 0, none⟩ = some (.int .i64 (g (f k))) := by rw [hy11]; exact cell_oneN _ _ _ hm11.symm
          have A11 := A7.old (show Old _ y11 from by rw [hy11]; exact (Old.refl _).alloc _)
          clear hm11 hy11
          refine hK.out _ _ trivial (fun _ => ?_)
          clear hK K
          (try simp only [Act.put]); (try simp only [List.setIfInBounds_toArray]); (try simp only [List.set_cons_succ]); (try simp only [List.set_cons_zero])
          refine wpAnyH_ready (rs := [0]) (by kernel_rfl) (by simp) ?_
          refine AllReadyH.cons (o := { dst := some 14, op := Op.load 25 (Operand.tmp 4), type := 25, pos := "conf.go:123", after := #[], guard := none }) rfl (fun K hK => ?_) AllReadyH.nil
          · skip
            refine stepLoadN ?_ (.tmp 4) ?_ nb pv k cv ?_ A11.c1 ?_
            · rfl
            · rfl
            · rfl
            refine hK.out _ _ trivial (fun _ => ?_)
            clear hK K
            (try simp only [Act.put]); (try simp only [List.setIfInBounds_toArray]); (try simp only [List.set_cons_succ]); (try simp only [List.set_cons_zero])
            refine wpAnyH_ready (rs := [5]) (by kernel_rfl) (by simp) ?_
            refine AllReadyH.cons (o := { dst := some 19, op := Op.call { callee := Callee.builtin Builtin.append, args := #[Operand.tmp 14, Operand.tmp 18], argTypes := #[25, 25] }, type := 25, pos := "conf.go:123", after := #[{ on := 0, ground := Ground.data }, { on := 4, ground := Ground.data }, { on := 3, ground := Ground.chain }], guard := none }) rfl (fun K hK => ?_) AllReadyH.nil
            · skip
              refine step_appN ?_ (.tmp 14) (.tmp 18) ?_ (nb + 1) _ (lsI (fun i => g (f i)) k) m11 (g (f k)) ?_ ?_ A11.o R11 (by rw [lsI_len]; have := HN.out; omega) A11.z ?_
              · rfl
              · rfl
              · rfl
              · rfl
              intro v12 y12 o12 g12
              have G12 := AskG.mk' A11 o12 g12
              obtain ⟨p12, c12, e12⟩ := o12.len
              rw [List.length_append, lsI_len] at e12
              subst e12
              clear o12 g12
              refine hK.out _ _ trivial (fun _ => ?_)
              clear hK K
              (try simp only [Act.put]); (try simp only [List.setIfInBounds_toArray]); (try simp only [List.set_cons_succ]); (try simp only [List.set_cons_zero])
              refine wpAnyH_ready (rs := [6]) (by kernel_rfl) (by simp) ?_
              refine AllReadyH.cons (o := { dst := none, op := Op.store 25 (Operand.tmp 4) (Operand.tmp 19), type := 0, pos := "conf.go:123", after := #[{ on := 5, ground := Ground.data }, { on := 5, ground := Ground.chain }, { on := 0, ground := Ground.phase }, { on := 1, ground := Ground.phase }, { on := 2, ground := Ground.phase }, { on := 3, ground := Ground.phase }, { on := 4, ground := Ground.phase }, { on := 5, ground := Ground.phase }], guard := none }) rfl (fun K hK => ?_) AllReadyH.nil
              · skip
                refine stepStoreN ?_ (.tmp 4) (.tmp 19) ?_ nb p12 (k + 1) c12 _ ?_ ?_ (one_cell G12.c) (one_free G12.c) ?_
                · rfl
                · rfl
                · rfl
                · rfl
                have A13 := G12.set
                refine hK.out _ _ trivial (fun _ => ?_)
                clear hK K
                (try simp only [Act.put]); (try simp only [List.setIfInBounds_toArray]); (try simp only [List.set_cons_succ]); (try simp only [List.set_cons_zero])
                refine wpAnyH_done (by kernel_rfl) ?_ _
                refine NoPanic.normal ?_
                have AZ := hid (show AskSt w nb _ (lsI (fun i => g (f i)) (k + 1)) _ from A13)
                go_wp2
                exact ⟨⟨k + 1, _, _, hlt, by go_num, AZ.out⟩, by simp [intOf]; omega⟩
    · obtain rfl : n = k := by omega
      have hc1 := AK.c1
      have hf1 := one_free AK.c
      go_wp2
      refine leaves_cons (f := 11) (args := #[.pointer (some ⟨nb, 0, none⟩)]) (by simp) (by simp [go_sem]) ?_
      refine (askD_idle nb _).mono ?_
      rintro e u' w2 ⟨rfl, rfl, rfl⟩
      have hz : (wr.setCell ⟨nb, 0, none⟩ (.slice pv n cv)).cell? ⟨nb, 0, none⟩ = some (.slice pv n cv) := one_cell (one_setCell AK.c)
      have hG : AskSt w nb (.slice pv n cv) (lsI (fun i => g (f i)) n) (wr.setCell ⟨nb, 0, none⟩ (.slice pv n cv)) := AskG.set ⟨AK.u, AK.c, AK.o, AK.b⟩
      have HG := hid hG
      clear hG AK
      simp [Leaves, settle, results, Try.results9, go_sem, hz]
      exact ⟨HG.out.o.mono (by omega), HG.out.u⟩
end Go.Proofs.Ytafjfmfkeaenhaa
