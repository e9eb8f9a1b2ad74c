/- A file's loose sectors, and what a loss of power leaves of it; conditions: the file lies in memory. -/
import Derived.Test.YtfphopleniidfaaGreatDoorDj
namespace Go.Proofs.YtfphopleniidfaaGreatDoor
open Go.RowKit Go.Lib
set_option linter.unusedVariables false
set_option linter.unusedSimpArgs false
set_option maxRecDepth 20000
theorem wantCall2 {P : Program} {ops : Array Oper} {o : Oper} {a : Act} {w : World} {K : Act → World → Prop} {Q : Exit → Act → World → Prop} {E : Prop} (hw : Region.wanted o (yielded ops a.tmps) = true) (F : FuncId) (x1 x2 : Operand) (ts : Array TypeId)
    (hop : o.op = Op.call { callee := Callee.value (Operand.func F), args := #[x1, x2], argTypes := ts }) (v1 v2 : Value) (h1 : a.eval x1 = v1) (h2 : a.eval x2 = v2) (hF : a.eval (Operand.func F) = .func (.func F) #[] #[])
    (henter : (callFunc F #[v1, v2]).run P w = .ok (.enter F #[v1, v2]) w)
    (hc : Calls P F #[v1, v2] w fun e w' => ∃ r, e = .returned r ∧ K (a.put o.dst r) w') :
    if Region.wanted o (yielded ops a.tmps) = true then Oper.wp P o a w K Q else E := by
  rw [if_pos hw]
  unfold Oper.wp
  simp [execOp, hop, resolve, invoke, h1, h2, hF, Deferred.ofValue]
  rw [henter]
  refine hc.mono ?_
  rintro e w' ⟨r, rfl, hk⟩
  exact hk
theorem wantCall3 {P : Program} {ops : Array Oper} {o : Oper} {a : Act} {w : World} {K : Act → World → Prop} {Q : Exit → Act → World → Prop} {E : Prop} (hw : Region.wanted o (yielded ops a.tmps) = true) (F : FuncId) (x1 x2 x3 : Operand) (ts : Array TypeId)
    (hop : o.op = Op.call { callee := Callee.value (Operand.func F), args := #[x1, x2, x3], argTypes := ts }) (v1 v2 v3 : Value) (h1 : a.eval x1 = v1) (h2 : a.eval x2 = v2) (h3 : a.eval x3 = v3) (hF : a.eval (Operand.func F) = .func (.func F) #[] #[])
    (henter : (callFunc F #[v1, v2, v3]).run P w = .ok (.enter F #[v1, v2, v3]) w)
    (hc : Calls P F #[v1, v2, v3] w fun e w' => ∃ r, e = .returned r ∧ K (a.put o.dst r) w') :
    if Region.wanted o (yielded ops a.tmps) = true then Oper.wp P o a w K Q else E := by
  rw [if_pos hw]
  unfold Oper.wp
  simp [execOp, hop, resolve, invoke, h1, h2, h3, hF, Deferred.ofValue]
  rw [henter]
  refine hc.mono ?_
  rintro e w' ⟨r, rfl, hk⟩
  exact hk
def nI (L : List Nat) : List Int := L.map fun (x : Nat) => (x : Int)
/-- Where the loose ones of the first sectors begin. -/
def looK (n s : List Nat) : Nat → List Nat
  | 0 => []
  | i + 1 => if sec n (32 * i) = sec s (32 * i) then looK n s i else looK n s i ++ [32 * i]
def nSec (n : List Nat) : Nat := (n.length + 31) / 32
def looL (n s : List Nat) : List Nat := looK n s (nSec n)
theorem looK_len (n s : List Nat) : ∀ i, (looK n s i).length ≤ i
  | 0 => by simp [looK]
  | i + 1 => by
    have := looK_len n s i
    unfold looK
    split
    · omega
    · simp; omega
theorem looK_lt (n s : List Nat) : ∀ i, ∀ x ∈ looK n s i, x < 32 * i ∧ x % 32 = 0
  | 0, x, h => by cases h
  | i + 1, x, h => by
    unfold looK at h
    split at h
    · have := looK_lt n s i x h; omega
    · rcases List.mem_append.1 h with q | q
      · have := looK_lt n s i x q; omega
      · simp at q; omega
abbrev FC (fb : Nat) (v u : Value) : World → Prop := fun wz => wz.cell? ⟨fb, 0, none⟩ = some v ∧ wz.cell? ⟨fb, 1, none⟩ = some u
theorem FC.old {fb : Nat} {v u : Value} {w w' : World} (o : Old w w') (h : FC fb v u w) : FC fb v u w' := ⟨o.keep h.1, o.keep h.2⟩
set_option maxHeartbeats 4000000 in
set_option maxRecDepth 20000 in
theorem loose_any (f : Fl) (w : World) (h : FlAt w f) :
    Calls Tryz.prog 30 #[.pointer (some ⟨f.fb, 0, none⟩)] w fun e w' => ∃ v', e = .returned v' ∧ OwnI w.heap.size w' v' (nI (looL f.now f.safe)) ∧ Old w w' := by
  have hln := h.ln
  have hls := h.ls
  obtain ⟨na, nc, en⟩ := h.now.len
  obtain ⟨sa, sc, es⟩ := h.safe.len
  have o1 := h.now
  have o2 := h.safe
  have HFC0 := hid (show FC f.fb f.vn f.vs w from ⟨h.cells.1, h.cells.2.1⟩)
  rw [en] at o1 HFC0
  rw [es] at o2 HFC0
  have HSc := hid (fun (k : Nat) (hk : k ≤ 1000000) (W : World) (u : Old w W) => sector_any _ f.now k W (o1.old u) hk (by omega))
  have HTc := hid (fun (k : Nat) (hk : k ≤ 1000000) (W : World) (u : Old w W) => sector_any _ f.safe k W (o2.old u) hk (by omega))
  have HK := hid (fun i => show looK f.now f.safe (i + 1) = if sec f.now (32 * i) = sec f.safe (32 * i) then looK f.now f.safe i else looK f.now f.safe i ++ [32 * i] from rfl)
  have HKl := hid (fun i => looK_len f.now f.safe i)
  have hLq : looL f.now f.safe = looK f.now f.safe (nSec f.now) := rfl
  have hNs : nSec f.now = (f.now.length + 31) / 32 := rfl
  rw [hLq]
  clear h o1 o2 en es hLq
  generalize f.fb = fb at *
  generalize hfn : f.now = fnow at *
  generalize hfs : f.safe = fsafe at *
  clear hfn hfs
  generalize fnow.length = ln at *
  generalize fsafe.length = ls at *
  generalize nSec fnow = N at *
  have HNs := hid hNs
  clear hNs
  have HE := hid (show OwnI w.heap.size w (.slice none 0 0) (nI (looK fnow fsafe 0)) from World.ownsRow_nil w _ _ 1)
  go_enter Tryz.func30, Tryz.ntmps30
  go_wp2
  go_loopw [3, 4] (fun st a wr => ∃ i t : Nat, t = 32 * i ∧ i ≤ N ∧ a = .int .i64 (t : Nat) ∧ OwnI w.heap.size wr st (nI (looK fnow fsafe i)) ∧ Old w wr) (fun _ a _ => 32 * N - (intOf a).toNat)
  case atStart => exact ⟨0, 0, rfl, Nat.zero_le _, rfl, HE.out, Old.refl _⟩
  case round =>
    obtain ⟨i, at_, hat, hi, rfl, ho, hu⟩ := hrel
    have HAt := hid hat
    obtain ⟨pb, cb, e⟩ := ho.len
    obtain ⟨l1, hl1⟩ : ∃ l1, (nI (looK fnow fsafe i)).length = l1 := ⟨_, rfl⟩
    rw [hl1] at e
    subst e
    have HO := hid ho
    have UU := hid hu
    have HLl := hid hl1
    have hl1' : l1 ≤ 3000 := by have h1 := HKl.out i; have h2 := HNs.out; rw [← hl1]; simp [nI]; omega
    have HFC := hid (FC.old hu HFC0.out)
    obtain ⟨y0, y1⟩ := HFC.out
    clear ho hu hl1 HE
    have hN := HNs.out
    by_cases hit : i < N
    · have l0 : (at_ : Int) < (ln : Int) := by omega
      obtain ⟨t2, ht2⟩ : ∃ t2, t2 = at_ + 32 := ⟨_, rfl⟩
      have lw : IntKind.i64.wrap ((at_ : Int) + 32) = (t2 : Int) := by rw [IntWalk.i64_in _ (by omega)]; omega
      have HT2 := hid (show t2 = 32 * (i + 1) from by omega)
      have hmt : 32 * N - t2 < 32 * N - at_ := by omega
      have HSn := hid (fun (W : World) (u : Old wr W) => HSc.out at_ (by omega) W (UU.out.trans u))
      have HSs := hid (fun (W : World) (u : Old wr W) => HTc.out at_ (by omega) W (UU.out.trans u))
      have HKi := HK.out i
      rw [← hat] at HKi
      have HKi := hid HKi
      clear hN HSc HTc HK hat ht2
      go_upto_region 5 with (fail)
      clear y0 y1
      by_cases hE : sec fnow at_ = sec fsafe at_
      · have HDe := hid (decide_eq_true hE)
        have HSt := hid (show looK fnow fsafe (i + 1) = looK fnow fsafe i from by rw [HKi.out, if_pos hE])
        clear HKi hE
        refine wp_region_noPanic ?_
        refine wp_region_held_drew (S := FC fb (.slice na ln nc) (.slice sa ls sc)) (by kernel_rfl) ?_ (fun hHeld => ?_)
        · exact FC.old ((Old.refl wr).drew) HFC.out
        (try simp only [Act.put]); (try simp only [List.setIfInBounds_toArray]); (try simp only [List.set_cons_succ]); (try simp only [List.set_cons_zero])
        clear hHeld
        refine wpAnyH_take (i := 0) (oi := { dst := some 14, op := Op.move (Operand.tmp 0), type := 88, pos := "file.go:37", after := #[], guard := none }) (v := ?vk1) rfl (by kernel_rfl) (by kernel_rfl) (by kernel_rfl) (fun _ _ _ h => h) (Or.inl ⟨by rfl, ?hk1⟩) (FC.old ((Old.refl wr).drew) HFC.out) ?rk1
        case hk1 => (intro wz hSw; (try dsimp only at hSw); go_simp; try with_reducible rfl)
        (try simp only [Act.put]); (try simp only [List.setIfInBounds_toArray]); (try simp only [List.set_cons_succ]); (try simp only [List.set_cons_zero])
        refine wpAnyH_take (i := 1) (oi := { dst := some 15, op := Op.nilCheck (Operand.tmp 14), type := 0, pos := "file.go:37", after := #[{ on := 0, ground := Ground.data }], guard := none }) (v := ?vk2) rfl (by kernel_rfl) (by kernel_rfl) (by kernel_rfl) (fun _ _ _ h => h) (Or.inl ⟨by rfl, ?hk2⟩) (FC.old ((Old.refl wr).drew) HFC.out) ?rk2
        case hk2 => (intro wz hSw; (try dsimp only at hSw); go_simp; try with_reducible rfl)
        (try simp only [Act.put]); (try simp only [List.setIfInBounds_toArray]); (try simp only [List.set_cons_succ]); (try simp only [List.set_cons_zero])
        refine wpAnyH_take (i := 2) (oi := { dst := some 16, op := Op.fieldAddr 103 (Operand.tmp 15) 0, type := 0, pos := "file.go:37", after := #[{ on := 1, ground := Ground.data }], guard := none }) (v := ?vk3) rfl (by kernel_rfl) (by kernel_rfl) (by kernel_rfl) (fun _ _ _ h => h) (Or.inl ⟨by rfl, ?hk3⟩) (FC.old ((Old.refl wr).drew) HFC.out) ?rk3
        case hk3 => (intro wz hSw; (try dsimp only at hSw); go_simp; try with_reducible rfl)
        (try simp only [Act.put]); (try simp only [List.setIfInBounds_toArray]); (try simp only [List.set_cons_succ]); (try simp only [List.set_cons_zero])
        refine wpAnyH_take (i := 3) (oi := { dst := some 17, op := Op.load 49 (Operand.tmp 16), type := 49, pos := "file.go:37", after := #[{ on := 2, ground := Ground.data }], guard := none }) (v := ?vk4) rfl (by kernel_rfl) (by kernel_rfl) (by kernel_rfl) (fun _ _ _ h => h) (Or.inl ⟨by rfl, ?hk4⟩) (FC.old ((Old.refl wr).drew) HFC.out) ?rk4
        case hk4 => (intro wz hSw; (try dsimp only at hSw); go_simp; try with_reducible rfl)
        (try simp only [Act.put]); (try simp only [List.setIfInBounds_toArray]); (try simp only [List.set_cons_succ]); (try simp only [List.set_cons_zero])
        refine wpAnyH_take (i := 4) (oi := { dst := some 18, op := Op.move (Operand.tmp 4), type := 3, pos := "file.go:37", after := #[], guard := none }) (v := ?vk5) rfl (by kernel_rfl) (by kernel_rfl) (by kernel_rfl) (fun _ _ _ h => h) (Or.inl ⟨by rfl, ?hk5⟩) (FC.old ((Old.refl wr).drew) HFC.out) ?rk5
        case hk5 => (intro wz hSw; (try dsimp only at hSw); go_simp; try with_reducible rfl)
        (try simp only [Act.put]); (try simp only [List.setIfInBounds_toArray]); (try simp only [List.set_cons_succ]); (try simp only [List.set_cons_zero])
        refine wpAnyH_take (i := 6) (oi := { dst := some 20, op := Op.move (Operand.tmp 0), type := 88, pos := "file.go:37", after := #[], guard := none }) (v := ?vk6) rfl (by kernel_rfl) (by kernel_rfl) (by kernel_rfl) (fun _ _ _ h => h) (Or.inl ⟨by rfl, ?hk6⟩) (FC.old ((Old.refl wr).drew) HFC.out) ?rk6
        case hk6 => (intro wz hSw; (try dsimp only at hSw); go_simp; try with_reducible rfl)
        (try simp only [Act.put]); (try simp only [List.setIfInBounds_toArray]); (try simp only [List.set_cons_succ]); (try simp only [List.set_cons_zero])
        refine wpAnyH_take (i := 7) (oi := { dst := some 21, op := Op.nilCheck (Operand.tmp 20), type := 0, pos := "file.go:37", after := #[{ on := 6, ground := Ground.data }], guard := none }) (v := ?vk7) rfl (by kernel_rfl) (by kernel_rfl) (by kernel_rfl) (fun _ _ _ h => h) (Or.inl ⟨by rfl, ?hk7⟩) (FC.old ((Old.refl wr).drew) HFC.out) ?rk7
        case hk7 => (intro wz hSw; (try dsimp only at hSw); go_simp; try with_reducible rfl)
        (try simp only [Act.put]); (try simp only [List.setIfInBounds_toArray]); (try simp only [List.set_cons_succ]); (try simp only [List.set_cons_zero])
        refine wpAnyH_take (i := 8) (oi := { dst := some 22, op := Op.fieldAddr 103 (Operand.tmp 21) 1, type := 0, pos := "file.go:37", after := #[{ on := 7, ground := Ground.data }], guard := none }) (v := ?vk8) rfl (by kernel_rfl) (by kernel_rfl) (by kernel_rfl) (fun _ _ _ h => h) (Or.inl ⟨by rfl, ?hk8⟩) (FC.old ((Old.refl wr).drew) HFC.out) ?rk8
        case hk8 => (intro wz hSw; (try dsimp only at hSw); go_simp; try with_reducible rfl)
        (try simp only [Act.put]); (try simp only [List.setIfInBounds_toArray]); (try simp only [List.set_cons_succ]); (try simp only [List.set_cons_zero])
        refine wpAnyH_take (i := 9) (oi := { dst := some 23, op := Op.load 49 (Operand.tmp 22), type := 49, pos := "file.go:37", after := #[{ on := 8, ground := Ground.data }], guard := none }) (v := ?vk9) rfl (by kernel_rfl) (by kernel_rfl) (by kernel_rfl) (fun _ _ _ h => h) (Or.inl ⟨by rfl, ?hk9⟩) (FC.old ((Old.refl wr).drew) HFC.out) ?rk9
        case hk9 => (intro wz hSw; (try dsimp only at hSw); go_simp; try with_reducible rfl)
        (try simp only [Act.put]); (try simp only [List.setIfInBounds_toArray]); (try simp only [List.set_cons_succ]); (try simp only [List.set_cons_zero])
        refine wpAnyH_take (i := 10) (oi := { dst := some 24, op := Op.move (Operand.tmp 4), type := 3, pos := "file.go:37", after := #[], guard := none }) (v := ?vk10) rfl (by kernel_rfl) (by kernel_rfl) (by kernel_rfl) (fun _ _ _ h => h) (Or.inl ⟨by rfl, ?hk10⟩) (FC.old ((Old.refl wr).drew) HFC.out) ?rk10
        case hk10 => (intro wz hSw; (try dsimp only at hSw); go_simp; try with_reducible rfl)
        (try simp only [Act.put]); (try simp only [List.setIfInBounds_toArray]); (try simp only [List.set_cons_succ]); (try simp only [List.set_cons_zero])
        refine wpAnyH_ready (rs := [5]) (by kernel_rfl) (by simp) ?_
        refine AllReadyH.cons (o := { dst := some 19, op := Op.call { callee := Callee.value (Operand.func 67), args := #[Operand.tmp 17, Operand.tmp 18], argTypes := #[49, 3] }, type := 49, pos := "file.go:37", after := #[{ on := 3, ground := Ground.data }, { on := 4, ground := Ground.data }], guard := none }) rfl (fun K hK => ?_) AllReadyH.nil
        refine wantCall2 ?_ 67 (.tmp 17) (.tmp 18) #[49, 3] ?_ (.slice na ln nc) (.int .i64 (at_ : Nat)) ?_ ?_ ?_ ((enters_of Tryz.func67 (by kernel_rfl) rfl) _ _) ?_
        · rfl
        · rfl
        · rfl
        · rfl
        · rfl
        refine (HSn.out _ ((Old.refl wr).drew)).mono ?_
        rintro o x11 ⟨v1, rfl, r1, _, hw⟩
        have R1 := hid r1
        have hw2 := hw.symm
        subst hw2
        clear r1 hw
        refine ⟨_, rfl, ?_⟩
        refine hK.out _ _ (FC.old ((Old.refl wr).drew) HFC.out) (fun _ => ?_)
        clear hK K
        (try simp only [Act.put]); (try simp only [List.setIfInBounds_toArray]); (try simp only [List.set_cons_succ]); (try simp only [List.set_cons_zero])
        refine wpAnyH_ready (rs := [11]) (by kernel_rfl) (by simp) ?_
        refine AllReadyH.cons (o := { dst := some 25, op := Op.call { callee := Callee.value (Operand.func 67), args := #[Operand.tmp 23, Operand.tmp 24], argTypes := #[49, 3] }, type := 49, pos := "file.go:37", after := #[{ on := 9, ground := Ground.data }, { on := 10, ground := Ground.data }, { on := 5, ground := Ground.chain }], guard := none }) rfl (fun K hK => ?_) AllReadyH.nil
        refine wantCall2 ?_ 67 (.tmp 23) (.tmp 24) #[49, 3] ?_ (.slice sa ls sc) (.int .i64 (at_ : Nat)) ?_ ?_ ?_ ((enters_of Tryz.func67 (by kernel_rfl) rfl) _ _) ?_
        · rfl
        · rfl
        · rfl
        · rfl
        · rfl
        refine (HSs.out _ ((Old.refl wr).drew)).mono ?_
        rintro o x12 ⟨v2, rfl, r2, _, hw⟩
        have R2 := hid r2
        have hw2 := hw.symm
        subst hw2
        clear r2 hw
        have HEq := hid (fun (W : World) (u : W = World.drew wr) => show Calls Tryz.prog 66 #[v1, v2] W fun e w' => e = .returned (.bool (decide (sec fnow at_ = sec fsafe at_))) ∧ w' = W from by subst u; exact bytesEq_any v1 v2 _ _ _ R1.out R2.out)
        refine ⟨_, rfl, ?_⟩
        refine hK.out _ _ (FC.old ((Old.refl wr).drew) HFC.out) (fun _ => ?_)
        clear hK K
        (try simp only [Act.put]); (try simp only [List.setIfInBounds_toArray]); (try simp only [List.set_cons_succ]); (try simp only [List.set_cons_zero])
        refine wpAnyH_ready (rs := [12]) (by kernel_rfl) (by simp) ?_
        refine AllReadyH.cons (o := { dst := some 26, op := Op.call { callee := Callee.value (Operand.func 66), args := #[Operand.tmp 19, Operand.tmp 25], argTypes := #[49, 49] }, type := 4, pos := "file.go:37", after := #[{ on := 5, ground := Ground.data }, { on := 11, ground := Ground.data }, { on := 11, ground := Ground.chain }], guard := none }) rfl (fun K hK => ?_) AllReadyH.nil
        refine wantCall2 ?_ 66 (.tmp 19) (.tmp 25) #[49, 49] ?_ (v1) (v2) ?_ ?_ ?_ ((enters_of Tryz.func66 (by kernel_rfl) rfl) _ _) ?_
        · rfl
        · rfl
        · rfl
        · rfl
        · rfl
        refine (HEq.out _ rfl).mono ?_
        rintro o x13 ⟨rfl, hw⟩
        have hw2 := hw.symm
        subst hw2
        clear hw
        refine ⟨_, rfl, ?_⟩
        refine hK.out _ _ (FC.old ((Old.refl wr).drew) HFC.out) (fun _ => ?_)
        clear hK K
        (try simp only [Act.put]); (try simp only [List.setIfInBounds_toArray]); (try simp only [List.set_cons_succ]); (try simp only [List.set_cons_zero])
        refine wpAnyH_take (i := 13) (oi := { dst := some 27, op := Op.unOp UnOp.not 4 (Operand.tmp 26), type := 4, pos := "file.go:37", after := #[{ on := 12, ground := Ground.data }], guard := none }) (v := ?vk14) rfl (by kernel_rfl) (by kernel_rfl) (by kernel_rfl) (fun _ _ _ h => h) (Or.inl ⟨by rfl, ?hk14⟩) (FC.old ((Old.refl wr).drew) HFC.out) ?rk14
        case hk14 => (intro wz hSw; (try dsimp only at hSw); go_simp; try with_reducible rfl)
        (try simp only [Act.put]); (try simp only [List.setIfInBounds_toArray]); (try simp only [List.set_cons_succ]); (try simp only [List.set_cons_zero])
        refine wpAnyH_done (by kernel_rfl) ?_ _
        refine NoPanic.normal ?_
        rw [HDe.out]
        have UX := hid (UU.out.trans ((Old.refl wr).drew))
        have HOX := hid (HO.out.up ((Old.refl wr).drew))
        clear UU HO
        generalize World.drew wr = wx at *
        go_wp2
        go_roundw
        case rel => exact ⟨i + 1, t2, HT2.out, hit, by go_num, by rw [HSt.out]; exact HOX.out, UX.out⟩
        case measure => simp [intOf]; omega
      · have HDe := hid (decide_eq_false hE)
        have HSt := hid (show nI (looK fnow fsafe (i + 1)) = nI (looK fnow fsafe i) ++ [(at_ : Int)] from by rw [HKi.out, if_neg hE]; simp [nI])
        clear HKi hE
        refine wp_region_noPanic ?_
        refine wp_region_held_drew (S := FC fb (.slice na ln nc) (.slice sa ls sc)) (by kernel_rfl) ?_ (fun hHeld => ?_)
        · exact FC.old ((Old.refl wr).drew) HFC.out
        (try simp only [Act.put]); (try simp only [List.setIfInBounds_toArray]); (try simp only [List.set_cons_succ]); (try simp only [List.set_cons_zero])
        clear hHeld
        refine wpAnyH_take (i := 0) (oi := { dst := some 14, op := Op.move (Operand.tmp 0), type := 88, pos := "file.go:37", after := #[], guard := none }) (v := ?vk15) rfl (by kernel_rfl) (by kernel_rfl) (by kernel_rfl) (fun _ _ _ h => h) (Or.inl ⟨by rfl, ?hk15⟩) (FC.old ((Old.refl wr).drew) HFC.out) ?rk15
        case hk15 => (intro wz hSw; (try dsimp only at hSw); go_simp; try with_reducible rfl)
        (try simp only [Act.put]); (try simp only [List.setIfInBounds_toArray]); (try simp only [List.set_cons_succ]); (try simp only [List.set_cons_zero])
        refine wpAnyH_take (i := 1) (oi := { dst := some 15, op := Op.nilCheck (Operand.tmp 14), type := 0, pos := "file.go:37", after := #[{ on := 0, ground := Ground.data }], guard := none }) (v := ?vk16) rfl (by kernel_rfl) (by kernel_rfl) (by kernel_rfl) (fun _ _ _ h => h) (Or.inl ⟨by rfl, ?hk16⟩) (FC.old ((Old.refl wr).drew) HFC.out) ?rk16
        case hk16 => (intro wz hSw; (try dsimp only at hSw); go_simp; try with_reducible rfl)
        (try simp only [Act.put]); (try simp only [List.setIfInBounds_toArray]); (try simp only [List.set_cons_succ]); (try simp only [List.set_cons_zero])
        refine wpAnyH_take (i := 2) (oi := { dst := some 16, op := Op.fieldAddr 103 (Operand.tmp 15) 0, type := 0, pos := "file.go:37", after := #[{ on := 1, ground := Ground.data }], guard := none }) (v := ?vk17) rfl (by kernel_rfl) (by kernel_rfl) (by kernel_rfl) (fun _ _ _ h => h) (Or.inl ⟨by rfl, ?hk17⟩) (FC.old ((Old.refl wr).drew) HFC.out) ?rk17
        case hk17 => (intro wz hSw; (try dsimp only at hSw); go_simp; try with_reducible rfl)
        (try simp only [Act.put]); (try simp only [List.setIfInBounds_toArray]); (try simp only [List.set_cons_succ]); (try simp only [List.set_cons_zero])
        refine wpAnyH_take (i := 3) (oi := { dst := some 17, op := Op.load 49 (Operand.tmp 16), type := 49, pos := "file.go:37", after := #[{ on := 2, ground := Ground.data }], guard := none }) (v := ?vk18) rfl (by kernel_rfl) (by kernel_rfl) (by kernel_rfl) (fun _ _ _ h => h) (Or.inl ⟨by rfl, ?hk18⟩) (FC.old ((Old.refl wr).drew) HFC.out) ?rk18
        case hk18 => (intro wz hSw; (try dsimp only at hSw); go_simp; try with_reducible rfl)
        (try simp only [Act.put]); (try simp only [List.setIfInBounds_toArray]); (try simp only [List.set_cons_succ]); (try simp only [List.set_cons_zero])
        refine wpAnyH_take (i := 4) (oi := { dst := some 18, op := Op.move (Operand.tmp 4), type := 3, pos := "file.go:37", after := #[], guard := none }) (v := ?vk19) rfl (by kernel_rfl) (by kernel_rfl) (by kernel_rfl) (fun _ _ _ h => h) (Or.inl ⟨by rfl, ?hk19⟩) (FC.old ((Old.refl wr).drew) HFC.out) ?rk19
        case hk19 => (intro wz hSw; (try dsimp only at hSw); go_simp; try with_reducible rfl)
        (try simp only [Act.put]); (try simp only [List.setIfInBounds_toArray]); (try simp only [List.set_cons_succ]); (try simp only [List.set_cons_zero])
        refine wpAnyH_take (i := 6) (oi := { dst := some 20, op := Op.move (Operand.tmp 0), type := 88, pos := "file.go:37", after := #[], guard := none }) (v := ?vk20) rfl (by kernel_rfl) (by kernel_rfl) (by kernel_rfl) (fun _ _ _ h => h) (Or.inl ⟨by rfl, ?hk20⟩) (FC.old ((Old.refl wr).drew) HFC.out) ?rk20
        case hk20 => (intro wz hSw; (try dsimp only at hSw); go_simp; try with_reducible rfl)
        (try simp only [Act.put]); (try simp only [List.setIfInBounds_toArray]); (try simp only [List.set_cons_succ]); (try simp only [List.set_cons_zero])
        refine wpAnyH_take (i := 7) (oi := { dst := some 21, op := Op.nilCheck (Operand.tmp 20), type := 0, pos := "file.go:37", after := #[{ on := 6, ground := Ground.data }], guard := none }) (v := ?vk21) rfl (by kernel_rfl) (by kernel_rfl) (by kernel_rfl) (fun _ _ _ h => h) (Or.inl ⟨by rfl, ?hk21⟩) (FC.old ((Old.refl wr).drew) HFC.out) ?rk21
        case hk21 => (intro wz hSw; (try dsimp only at hSw); go_simp; try with_reducible rfl)
        (try simp only [Act.put]); (try simp only [List.setIfInBounds_toArray]); (try simp only [List.set_cons_succ]); (try simp only [List.set_cons_zero])
        refine wpAnyH_take (i := 8) (oi := { dst := some 22, op := Op.fieldAddr 103 (Operand.tmp 21) 1, type := 0, pos := "file.go:37", after := #[{ on := 7, ground := Ground.data }], guard := none }) (v := ?vk22) rfl (by kernel_rfl) (by kernel_rfl) (by kernel_rfl) (fun _ _ _ h => h) (Or.inl ⟨by rfl, ?hk22⟩) (FC.old ((Old.refl wr).drew) HFC.out) ?rk22
        case hk22 => (intro wz hSw; (try dsimp only at hSw); go_simp; try with_reducible rfl)
        (try simp only [Act.put]); (try simp only [List.setIfInBounds_toArray]); (try simp only [List.set_cons_succ]); (try simp only [List.set_cons_zero])
        refine wpAnyH_take (i := 9) (oi := { dst := some 23, op := Op.load 49 (Operand.tmp 22), type := 49, pos := "file.go:37", after := #[{ on := 8, ground := Ground.data }], guard := none }) (v := ?vk23) rfl (by kernel_rfl) (by kernel_rfl) (by kernel_rfl) (fun _ _ _ h => h) (Or.inl ⟨by rfl, ?hk23⟩) (FC.old ((Old.refl wr).drew) HFC.out) ?rk23
        case hk23 => (intro wz hSw; (try dsimp only at hSw); go_simp; try with_reducible rfl)
        (try simp only [Act.put]); (try simp only [List.setIfInBounds_toArray]); (try simp only [List.set_cons_succ]); (try simp only [List.set_cons_zero])
        refine wpAnyH_take (i := 10) (oi := { dst := some 24, op := Op.move (Operand.tmp 4), type := 3, pos := "file.go:37", after := #[], guard := none }) (v := ?vk24) rfl (by kernel_rfl) (by kernel_rfl) (by kernel_rfl) (fun _ _ _ h => h) (Or.inl ⟨by rfl, ?hk24⟩) (FC.old ((Old.refl wr).drew) HFC.out) ?rk24
        case hk24 => (intro wz hSw; (try dsimp only at hSw); go_simp; try with_reducible rfl)
        (try simp only [Act.put]); (try simp only [List.setIfInBounds_toArray]); (try simp only [List.set_cons_succ]); (try simp only [List.set_cons_zero])
        refine wpAnyH_ready (rs := [5]) (by kernel_rfl) (by simp) ?_
        refine AllReadyH.cons (o := { dst := some 19, op := Op.call { callee := Callee.value (Operand.func 67), args := #[Operand.tmp 17, Operand.tmp 18], argTypes := #[49, 3] }, type := 49, pos := "file.go:37", after := #[{ on := 3, ground := Ground.data }, { on := 4, ground := Ground.data }], guard := none }) rfl (fun K hK => ?_) AllReadyH.nil
        refine wantCall2 ?_ 67 (.tmp 17) (.tmp 18) #[49, 3] ?_ (.slice na ln nc) (.int .i64 (at_ : Nat)) ?_ ?_ ?_ ((enters_of Tryz.func67 (by kernel_rfl) rfl) _ _) ?_
        · rfl
        · rfl
        · rfl
        · rfl
        · rfl
        refine (HSn.out _ ((Old.refl wr).drew)).mono ?_
        rintro o x25 ⟨v1, rfl, r1, _, hw⟩
        have R1 := hid r1
        have hw2 := hw.symm
        subst hw2
        clear r1 hw
        refine ⟨_, rfl, ?_⟩
        refine hK.out _ _ (FC.old ((Old.refl wr).drew) HFC.out) (fun _ => ?_)
        clear hK K
        (try simp only [Act.put]); (try simp only [List.setIfInBounds_toArray]); (try simp only [List.set_cons_succ]); (try simp only [List.set_cons_zero])
        refine wpAnyH_ready (rs := [11]) (by kernel_rfl) (by simp) ?_
        refine AllReadyH.cons (o := { dst := some 25, op := Op.call { callee := Callee.value (Operand.func 67), args := #[Operand.tmp 23, Operand.tmp 24], argTypes := #[49, 3] }, type := 49, pos := "file.go:37", after := #[{ on := 9, ground := Ground.data }, { on := 10, ground := Ground.data }, { on := 5, ground := Ground.chain }], guard := none }) rfl (fun K hK => ?_) AllReadyH.nil
        refine wantCall2 ?_ 67 (.tmp 23) (.tmp 24) #[49, 3] ?_ (.slice sa ls sc) (.int .i64 (at_ : Nat)) ?_ ?_ ?_ ((enters_of Tryz.func67 (by kernel_rfl) rfl) _ _) ?_
        · rfl
        · rfl
        · rfl
        · rfl
        · rfl
        refine (HSs.out _ ((Old.refl wr).drew)).mono ?_
        rintro o x26 ⟨v2, rfl, r2, _, hw⟩
        have R2 := hid r2
        have hw2 := hw.symm
        subst hw2
        clear r2 hw
        have HEq := hid (fun (W : World) (u : W = World.drew wr) => show Calls Tryz.prog 66 #[v1, v2] W fun e w' => e = .returned (.bool (decide (sec fnow at_ = sec fsafe at_))) ∧ w' = W from by subst u; exact bytesEq_any v1 v2 _ _ _ R1.out R2.out)
        refine ⟨_, rfl, ?_⟩
        refine hK.out _ _ (FC.old ((Old.refl wr).drew) HFC.out) (fun _ => ?_)
        clear hK K
        (try simp only [Act.put]); (try simp only [List.setIfInBounds_toArray]); (try simp only [List.set_cons_succ]); (try simp only [List.set_cons_zero])
        refine wpAnyH_ready (rs := [12]) (by kernel_rfl) (by simp) ?_
        refine AllReadyH.cons (o := { dst := some 26, op := Op.call { callee := Callee.value (Operand.func 66), args := #[Operand.tmp 19, Operand.tmp 25], argTypes := #[49, 49] }, type := 4, pos := "file.go:37", after := #[{ on := 5, ground := Ground.data }, { on := 11, ground := Ground.data }, { on := 11, ground := Ground.chain }], guard := none }) rfl (fun K hK => ?_) AllReadyH.nil
        refine wantCall2 ?_ 66 (.tmp 19) (.tmp 25) #[49, 49] ?_ (v1) (v2) ?_ ?_ ?_ ((enters_of Tryz.func66 (by kernel_rfl) rfl) _ _) ?_
        · rfl
        · rfl
        · rfl
        · rfl
        · rfl
        refine (HEq.out _ rfl).mono ?_
        rintro o x27 ⟨rfl, hw⟩
        have hw2 := hw.symm
        subst hw2
        clear hw
        refine ⟨_, rfl, ?_⟩
        refine hK.out _ _ (FC.old ((Old.refl wr).drew) HFC.out) (fun _ => ?_)
        clear hK K
        (try simp only [Act.put]); (try simp only [List.setIfInBounds_toArray]); (try simp only [List.set_cons_succ]); (try simp only [List.set_cons_zero])
        refine wpAnyH_take (i := 13) (oi := { dst := some 27, op := Op.unOp UnOp.not 4 (Operand.tmp 26), type := 4, pos := "file.go:37", after := #[{ on := 12, ground := Ground.data }], guard := none }) (v := ?vk28) rfl (by kernel_rfl) (by kernel_rfl) (by kernel_rfl) (fun _ _ _ h => h) (Or.inl ⟨by rfl, ?hk28⟩) (FC.old ((Old.refl wr).drew) HFC.out) ?rk28
        case hk28 => (intro wz hSw; (try dsimp only at hSw); go_simp; try with_reducible rfl)
        (try simp only [Act.put]); (try simp only [List.setIfInBounds_toArray]); (try simp only [List.set_cons_succ]); (try simp only [List.set_cons_zero])
        refine wpAnyH_done (by kernel_rfl) ?_ _
        refine NoPanic.normal ?_
        rw [HDe.out]
        have UX := hid (UU.out.trans ((Old.refl wr).drew))
        have HOX := hid (HO.out.up ((Old.refl wr).drew))
        clear UU HO
        generalize World.drew wr = wx at *
        go_wp2_with (at_builtin; refine wp_appI rfl (.tmp 28) (.tmp 30) rfl w.heap.size _ (nI (looK fnow fsafe i)) _ 1 (at_ : Int) rfl rfl (HOX.out.up ((Old.refl _).alloc _)) (cell_oneI _ _ _ rfl) (by rw [HLl.out]; omega) (by have := UX.out.size; simp; omega) ?_; intro v5 w5 o5 g5 n5; have O5 := hid o5; have U5 := hid (show Old w w5 from Below.grown (UX.out.alloc _) g5 (UX.out.alloc _).size (fun k e => (World.ownsRow.lt HOX.out k e).1)); clear o5 g5 n5)
        obtain ⟨p5, c5, e5⟩ := O5.out.len
        subst e5
        go_roundw
        case rel => exact ⟨i + 1, t2, HT2.out, hit, by go_num, by rw [HSt.out]; exact O5.out, U5.out⟩
        case measure => simp [intOf]; omega
    · obtain rfl : i = N := by omega
      have l0 : ¬ (at_ : Int) < (ln : Int) := by omega
      clear hN hat
      go_wp2
      go_ret
      exact ⟨_, rfl, HO.out, UU.out⟩
/-- A row of marks. -/
def BRow (w : World) (v : Value) (kp : List Bool) : Prop := kp.length ≤ 9223372036854775807 ∧ ∃ p c, v = .slice p kp.length c ∧ kp.length ≤ c ∧ c ≤ 9223372036854775807 ∧ ∀ i, i < kp.length → ∃ b off, p = some ⟨b, off, none⟩ ∧ w.cell? ⟨b, off + i, none⟩ = some (.bool (kp.getD i false))
theorem BRow.old {w w' : World} {v : Value} {kp : List Bool} (h : BRow w v kp) (u : Old w w') : BRow w' v kp := by
  obtain ⟨h1, p, c, e, h2, h3, hc⟩ := h
  exact ⟨h1, p, c, e, h2, h3, fun i hi => by obtain ⟨b, off, e, q⟩ := hc i hi; exact ⟨b, off, e, u.keep q⟩⟩
/-- What is left of a file's safe bytes when some of its loose sectors are kept. -/
def craK (now : List Nat) (st : List Nat) (kp : List Bool) : Nat → List Nat → List Nat
  | 0, s => s
  | i + 1, s => if kp.getD i false = true then overL (craK now st kp i s) (st.getD i 0) (sec now (st.getD i 0)) else craK now st kp i s
theorem craK_len {now : List Nat} {st : List Nat} {kp : List Bool} {s : List Nat} (hst : ∀ x ∈ st, x ≤ now.length) (hn : now.length ≤ 65536) (hs : s.length ≤ 65536) : ∀ i, (craK now st kp i s).length ≤ 65536
  | 0 => hs
  | i + 1 => by
    have ih := craK_len (kp := kp) hst hn hs i
    unfold craK
    split
    · rw [overL_len, sec_len]
      have : st.getD i 0 ≤ now.length := by
        by_cases c : i < st.length
        · rw [List.getD_eq_getElem?_getD, List.getElem?_eq_getElem c]; exact hst _ (List.getElem_mem c)
        · rw [List.getD_eq_getElem?_getD, List.getElem?_eq_none (by omega)]; exact Nat.zero_le _
      omega
    · exact ih
abbrev CS (fb : Nat) (v : Value) (sb so : Nat) (z : Int) : World → Prop := fun wz => wz.cell? ⟨fb, 0, none⟩ = some v ∧ wz.cell? ⟨sb, so, none⟩ = some (.int .i64 z)
theorem CS.old {fb sb so : Nat} {v : Value} {z : Int} {w w' : World} (o : Old w w') (h : CS fb v sb so z w) : CS fb v sb so z w' := ⟨o.keep h.1, o.keep h.2⟩
theorem CS.set {fb sb so : Nat} {v : Value} {z : Int} {w : World} (h : CS fb v sb so z w) (b k : Nat) (u : Value) (h1 : fb ≠ b ∨ 0 ≠ k) (h2 : sb ≠ b) : CS fb v sb so z (w.setCell ⟨b, k, none⟩ u) := by
  refine ⟨?_, ?_⟩
  · rw [World.cell?_setCell_other _ _ _ _ (by intro q; cases q; rcases h1 with c | c <;> exact c rfl)]; exact h.1
  · rw [World.cell?_setCell_other _ _ _ _ (by intro q; cases q; exact h2 rfl)]; exact h.2
def Fl.wis (f : Fl) (v : Value) (s : List Nat) : Fl := { f with vs := v, safe := s }
set_option maxHeartbeats 8000000 in
set_option maxRecDepth 20000 in
theorem crash_any (f : Fl) (vst vk : Value) (st : List Nat) (kp : List Bool) (base : Nat) (w : World) (h : FlAt w f) (hst : OwnI base w vst (nI st)) (hs1 : ∀ x ∈ st, x ≤ f.now.length) (hk : BRow w vk kp) (hlen : kp.length ≤ st.length) (hfs : ∀ g, vst.ownBlock = some g → g ∉ f.blocks) (hfk : 0 < kp.length → ∀ g, vk.ownBlock = some g → g ∉ f.blocks) (hsl : st.length ≤ 100000) :
    Calls Tryz.prog 31 #[.pointer (some ⟨f.fb, 0, none⟩), vst, vk] w fun e w' => ∃ f', e = .returned (.tuple #[]) ∧ FlAt w' f' ∧ f'.now = craK f.now st kp kp.length f.safe ∧ f'.safe = craK f.now st kp kp.length f.safe ∧ FMv w f w' f' := by
  have hln := h.ln
  have hls := h.ls
  have HLen := hid (craK_len (kp := kp) hs1 hln hls)
  have H0 := hid h
  obtain ⟨na, nc, en⟩ := h.now.len
  obtain ⟨hk0, kpa, kpc, rfl, hk1, hk2, hkc⟩ := hk
  have HKc := hid (show ∀ i, i < kp.length → ∃ b off, kpa = some ⟨b, off, none⟩ ∧ ∀ W, Chg f.blocks w W → W.cell? ⟨b, off + i, none⟩ = some (.bool (kp.getD i false)) from fun i hi => by
    obtain ⟨b, off, e, q⟩ := hkc i hi
    exact ⟨b, off, e, fun W u => u.cell q (hfk (by omega) b (by rw [e]; rfl))⟩)
  obtain ⟨sta, stc, est⟩ := hst.len
  have hnl : (nI st).length = st.length := by simp [nI]
  rw [hnl] at est
  have HSt := hid (show ∀ i, i < kp.length → ∃ b, sta = some ⟨b, 0, none⟩ ∧ (b ∉ f.blocks ∧ b < w.heap.size) ∧ ∀ W, Chg f.blocks w W → W.cell? ⟨b, i, none⟩ = some (.int .i64 ((st.getD i 0 : Nat) : Int)) from fun i hi => by
    have h2 := hst
    unfold OwnI at h2
    rcases h2.2 with ⟨_, e⟩ | ⟨g, cap, cur, e, hb, hg, hnc, hcm, hcs, htk⟩
    · rw [hnl] at e; omega
    · rw [est] at e
      injection e with e1 e2 e3
      have hgf := hfs g (by rw [est, e1]; rfl)
      refine ⟨g, e1, ⟨hgf, heap_lt hg⟩, fun W u => u.cell ?_ hgf⟩
      have h3 := h2
      rw [est, e1] at h3
      have q := World.ownsRow.cellAt (by rw [hnl] at h3; rw [hnl] at e2; exact h3) i (by rw [Nat.mul_one]; omega)
      rw [q]
      have hil : i < st.length := by omega
      simp [nI, ils, List.getD_eq_getElem?_getD, hil])
  subst est
  have HCr := hid (fun i => show craK f.now st kp (i + 1) f.safe = if kp.getD i false = true then overL (craK f.now st kp i f.safe) (st.getD i 0) (sec f.now (st.getD i 0)) else craK f.now st kp i f.safe from rfl)
  have HSb := hid (show ∀ i, i < kp.length → st.getD i 0 ≤ 65536 from fun i hi => by
    have : st.getD i 0 ≤ f.now.length := by
      rw [List.getD_eq_getElem?_getD, List.getElem?_eq_getElem (by omega)]; exact hs1 _ (List.getElem_mem (by omega))
    omega)
  have HG0 := hid (show FlAt w (f.wis f.vs (craK f.now st kp 0 f.safe)) ∧ FMv w f w (f.wis f.vs (craK f.now st kp 0 f.safe)) from ⟨h, FMv.refl w f⟩)
  clear h hst hkc hfs hfk hs1 hnl
  generalize kp.length = n at *
  generalize st.length = sn at *
  have l9 : (n : Int) ≤ 9223372036854775807 := by omega
  go_enter Tryz.func31, Tryz.ntmps31
  go_wp2
  go_loopw [10] (fun c wr => ∃ (i : Nat) (vs' : Value), i ≤ n ∧ c = .int .i64 (i : Nat) ∧ FlAt wr (f.wis vs' (craK f.now st kp i f.safe)) ∧ FMv w f wr (f.wis vs' (craK f.now st kp i f.safe))) (fun c _ => n - (intOf c).toNat)
  case atStart => exact ⟨0, f.vs, Nat.zero_le _, rfl, HG0.out.1, HG0.out.2⟩
  case round =>
    obtain ⟨i, vs', hi, rfl, hF, hM⟩ := hrel
    have HF := hid hF
    have HMv := hid hM
    clear hF hM HG0
    by_cases hit : i < n
    · obtain ⟨kb, koff, ek, hkcell⟩ := HKc.out i hit
      subst ek
      obtain ⟨stb, es, ⟨hsf, hslt⟩, hscell⟩ := HSt.out i hit
      subst es
      have kc := hkcell wr HMv.out.chg
      have scell := hscell wr HMv.out.chg
      have hsb := HSb.out i hit
      have l1 : (0 : Int) ≤ (i : Int) := by omega
      have l2 : (i : Int) < (n : Int) := by omega
      have l3 : (i : Int) < (sn : Int) := by omega
      clear hkcell hscell HKc HSt HSb
      have HCi := hid (HCr.out i)
      clear HCr
      generalize st.getD i 0 = at_ at *
      cases hb : kp.getD i false with
      | false =>
        rw [hb] at kc
        have HS1 := hid (show craK f.now st kp (i + 1) f.safe = craK f.now st kp i f.safe from by rw [HCi.out, hb, if_neg (by simp)])
        clear HCi hb scell
        go_wp2
        go_roundw
        case rel => exact ⟨i + 1, vs', hit, by go_num, by rw [HS1.out]; exact HF.out, by rw [HS1.out]; exact HMv.out⟩
        case measure => simp [intOf]; omega
      | true =>
        rw [hb] at kc
        have HS1 := hid (show craK f.now st kp (i + 1) f.safe = overL (craK f.now st kp i f.safe) at_ (sec f.now at_) from by rw [HCi.out, hb, if_pos rfl])
        have HLn := hid (HLen.out (i + 1))
        have HLi := hid (HLen.out i)
        clear HCi hb HLen
        obtain ⟨sa, sc, esv⟩ := HF.out.safe.len
        have esv' : vs' = .slice sa (craK f.now st kp i f.safe).length sc := esv
        have C1 := hid (show (World.drew wr).cell? ⟨f.fb, 1, none⟩ = some (.slice sa (craK f.now st kp i f.safe).length sc) from by rw [← esv']; exact HF.out.cells.2.1)
        have HCS := hid (show CS f.fb (.slice na f.now.length nc) stb i (at_ : Int) wr from ⟨by rw [← en]; exact HF.out.cells.1, scell⟩)
        have HSn := hid (fun (W : World) (u : Old wr W) => sector_any (.slice na f.now.length nc) f.now at_ W (by rw [← en]; exact (HF.out.now).old u) (by omega) (by omega))
        have hrsw := HLi.out
        have HOv0 := hid (fun (W : World) (u : Old wr W) (v1 : Value) (r1 : Rw W v1 (sec f.now at_)) (b1 : ∀ g, v1.ownBlock = some g → (Value.slice na f.now.length nc).ownBlock = some g) => overwrite_any (.slice sa (craK f.now st kp i f.safe).length sc) v1 (craK f.now st kp i f.safe) (sec f.now at_) at_ W (by rw [← esv']; exact HF.out.safe.old u) r1 (fun _ g e e2 => (HF.out.ap g (by show f.vn.ownBlock = some g; rw [en]; exact b1 g e2)).2 (by show vs'.ownBlock = some g; rw [esv']; exact e)) (by omega) (by omega) (by rw [sec_len]; omega))
        have HFin := hid (show ∀ (W : World) (v' : Value), Own W v' (overL (craK f.now st kp i f.safe) at_ (sec f.now at_)) → Grow (World.drew wr) (.slice sa (craK f.now st kp i f.safe).length sc) W v' → FlAt (W.setCell ⟨f.fb, 1, none⟩ v') (f.wis v' (craK f.now st kp (i + 1) f.safe)) ∧ FMv w f (W.setCell ⟨f.fb, 1, none⟩ v') (f.wis v' (craK f.now st kp (i + 1) f.safe)) from fun W v' o g => by
          have hD : FlAt (World.drew wr) (f.wis vs' (craK f.now st kp i f.safe)) := HF.out.chg (Chg.ofOld (S := []) ((Old.refl wr).drew)) (fun _ _ e => by cases e)
          have hDm : FMv w f (World.drew wr) (f.wis vs' (craK f.now st kp i f.safe)) := HMv.out.trans ⟨Chg.ofOld ((Old.refl wr).drew), fun b hb => .inl hb, rfl⟩
          obtain ⟨z1, z2⟩ := hD.setSafe (v' := v') (L' := overL (craK f.now st kp i f.safe) at_ (sec f.now at_)) (by show Grow _ vs' W v'; rw [esv']; exact g) o (by rw [← HS1.out]; exact HLn.out)
          rw [HS1.out]
          exact ⟨z1, hDm.trans z2⟩)
        have HB1 := hid (show ∀ (W : World) (v' : Value), Grow (World.drew wr) (.slice sa (craK f.now st kp i f.safe).length sc) W v' → W.heap[f.fb]? = some (.cells #[f.vn, vs'] 103 (0, 0)) from fun W v' g => g.1.heapAt (show (World.drew wr).heap[f.fb]? = _ from HF.out.blk) (fun e => by rw [Option.mem_toList] at e; exact HF.out.aq f.fb (by show vs'.ownBlock = _; rw [esv']; exact e) rfl))
        have HTh := hid (show ∀ (W : World) (v' : Value), Grow (World.drew wr) (.slice sa (craK f.now st kp i f.safe).length sc) W v' → (W.cell? ⟨f.fb, 1, none⟩).isSome = true ∧ W.frozen? ⟨f.fb, 1, none⟩ = false from fun W v' g => ⟨by rw [Go.Joins.cell_of_block (HB1.out W v' g)]; rfl, Go.Joins.unfrozen_of_block (HB1.out W v' g) 1⟩)
        have HSt2 := hid (show ∀ (W : World) (v' : Value), Grow (World.drew wr) (.slice sa (craK f.now st kp i f.safe).length sc) W v' → CS f.fb (.slice na f.now.length nc) stb i (at_ : Int) W from fun W v' g => ⟨by rw [Go.Joins.cell_of_block (HB1.out W v' g), ← en]; rfl, g.1.cell (show (World.drew wr).cell? _ = _ from scell) (fun e => by
          rw [Option.mem_toList] at e
          have hin : stb ∈ (f.wis vs' (craK f.now st kp i f.safe)).blocks := Fl.mem.2 (.inr (.inr (by show vs'.ownBlock = _; rw [esv']; exact e)))
          rcases HMv.out.new stb hin with z | z
          · exact hsf z
          · omega)⟩)
        have HNf := hid (show stb ≠ f.fb from fun e => hsf (Fl.mem.2 (.inl e)))
        clear esv esv' HB1
        go_upto_region 4 with (fail)
        clear kc scell hrsw
        generalize f.now.length = ln at *
        generalize (craK f.now st kp i f.safe).length = ls at *
        refine wp_region_noPanic ?_
        refine wp_region_held_drew (S := CS f.fb (.slice na ln nc) stb i (at_ : Int)) (by kernel_rfl) ?_ (fun hHeld => ?_)
        · exact CS.old ((Old.refl wr).drew) HCS.out
        (try simp only [Act.put]); (try simp only [List.setIfInBounds_toArray]); (try simp only [List.set_cons_succ]); (try simp only [List.set_cons_zero])
        clear hHeld
        refine wpAnyH_take (i := 0) (oi := { dst := some 16, op := Op.move (Operand.tmp 0), type := 88, pos := "file.go:53", after := #[], guard := none }) (v := ?vk29) rfl (by kernel_rfl) (by kernel_rfl) (by kernel_rfl) (fun _ _ _ h => h) (Or.inl ⟨by rfl, ?hk29⟩) (CS.old ((Old.refl wr).drew) HCS.out) ?rk29
        case hk29 => (intro wz hSw; (try dsimp only at hSw); go_simp; try with_reducible rfl)
        (try simp only [Act.put]); (try simp only [List.setIfInBounds_toArray]); (try simp only [List.set_cons_succ]); (try simp only [List.set_cons_zero])
        refine wpAnyH_take (i := 1) (oi := { dst := some 17, op := Op.move (Operand.tmp 0), type := 88, pos := "file.go:53", after := #[], guard := none }) (v := ?vk30) rfl (by kernel_rfl) (by kernel_rfl) (by kernel_rfl) (fun _ _ _ h => h) (Or.inl ⟨by rfl, ?hk30⟩) (CS.old ((Old.refl wr).drew) HCS.out) ?rk30
        case hk30 => (intro wz hSw; (try dsimp only at hSw); go_simp; try with_reducible rfl)
        (try simp only [Act.put]); (try simp only [List.setIfInBounds_toArray]); (try simp only [List.set_cons_succ]); (try simp only [List.set_cons_zero])
        refine wpAnyH_take (i := 2) (oi := { dst := some 18, op := Op.nilCheck (Operand.tmp 17), type := 0, pos := "file.go:53", after := #[{ on := 1, ground := Ground.data }], guard := none }) (v := ?vk31) rfl (by kernel_rfl) (by kernel_rfl) (by kernel_rfl) (fun _ _ _ h => h) (Or.inl ⟨by rfl, ?hk31⟩) (CS.old ((Old.refl wr).drew) HCS.out) ?rk31
        case hk31 => (intro wz hSw; (try dsimp only at hSw); go_simp; try with_reducible rfl)
        (try simp only [Act.put]); (try simp only [List.setIfInBounds_toArray]); (try simp only [List.set_cons_succ]); (try simp only [List.set_cons_zero])
        refine wpAnyH_take (i := 3) (oi := { dst := some 19, op := Op.fieldAddr 103 (Operand.tmp 18) 1, type := 0, pos := "file.go:53", after := #[{ on := 2, ground := Ground.data }], guard := none }) (v := ?vk32) rfl (by kernel_rfl) (by kernel_rfl) (by kernel_rfl) (fun _ _ _ h => h) (Or.inl ⟨by rfl, ?hk32⟩) (CS.old ((Old.refl wr).drew) HCS.out) ?rk32
        case hk32 => (intro wz hSw; (try dsimp only at hSw); go_simp; try with_reducible rfl)
        (try simp only [Act.put]); (try simp only [List.setIfInBounds_toArray]); (try simp only [List.set_cons_succ]); (try simp only [List.set_cons_zero])
        refine wpAnyH_take (i := 5) (oi := { dst := some 21, op := Op.move (Operand.tmp 1), type := 78, pos := "file.go:53", after := #[], guard := none }) (v := ?vk33) rfl (by kernel_rfl) (by kernel_rfl) (by kernel_rfl) (fun _ _ _ h => h) (Or.inl ⟨by rfl, ?hk33⟩) (CS.old ((Old.refl wr).drew) HCS.out) ?rk33
        case hk33 => (intro wz hSw; (try dsimp only at hSw); go_simp; try with_reducible rfl)
        (try simp only [Act.put]); (try simp only [List.setIfInBounds_toArray]); (try simp only [List.set_cons_succ]); (try simp only [List.set_cons_zero])
        refine wpAnyH_take (i := 6) (oi := { dst := some 22, op := Op.move (Operand.tmp 6), type := 3, pos := "file.go:53", after := #[], guard := none }) (v := ?vk34) rfl (by kernel_rfl) (by kernel_rfl) (by kernel_rfl) (fun _ _ _ h => h) (Or.inl ⟨by rfl, ?hk34⟩) (CS.old ((Old.refl wr).drew) HCS.out) ?rk34
        case hk34 => (intro wz hSw; (try dsimp only at hSw); go_simp; try with_reducible rfl)
        (try simp only [Act.put]); (try simp only [List.setIfInBounds_toArray]); (try simp only [List.set_cons_succ]); (try simp only [List.set_cons_zero])
        refine wpAnyH_take (i := 7) (oi := { dst := some 23, op := Op.indexAddr 78 (Operand.tmp 21) (Operand.tmp 22), type := 0, pos := "file.go:53", after := #[{ on := 5, ground := Ground.data }, { on := 6, ground := Ground.data }], guard := none }) (v := ?vk35) rfl (by kernel_rfl) (by kernel_rfl) (by kernel_rfl) (fun _ _ _ h => h) (Or.inl ⟨by rfl, ?hk35⟩) (CS.old ((Old.refl wr).drew) HCS.out) ?rk35
        case hk35 => (intro wz hSw; (try dsimp only at hSw); go_simp; try with_reducible rfl)
        (try simp only [Act.put]); (try simp only [List.setIfInBounds_toArray]); (try simp only [List.set_cons_succ]); (try simp only [List.set_cons_zero])
        refine wpAnyH_take (i := 8) (oi := { dst := some 24, op := Op.load 3 (Operand.tmp 23), type := 3, pos := "file.go:53", after := #[{ on := 7, ground := Ground.data }], guard := none }) (v := ?vk36) rfl (by kernel_rfl) (by kernel_rfl) (by kernel_rfl) (fun _ _ _ h => h) (Or.inl ⟨by rfl, ?hk36⟩) (CS.old ((Old.refl wr).drew) HCS.out) ?rk36
        case hk36 => (intro wz hSw; (try dsimp only at hSw); go_simp; try with_reducible rfl)
        (try simp only [Act.put]); (try simp only [List.setIfInBounds_toArray]); (try simp only [List.set_cons_succ]); (try simp only [List.set_cons_zero])
        refine wpAnyH_take (i := 9) (oi := { dst := some 25, op := Op.move (Operand.tmp 0), type := 88, pos := "file.go:53", after := #[], guard := none }) (v := ?vk37) rfl (by kernel_rfl) (by kernel_rfl) (by kernel_rfl) (fun _ _ _ h => h) (Or.inl ⟨by rfl, ?hk37⟩) (CS.old ((Old.refl wr).drew) HCS.out) ?rk37
        case hk37 => (intro wz hSw; (try dsimp only at hSw); go_simp; try with_reducible rfl)
        (try simp only [Act.put]); (try simp only [List.setIfInBounds_toArray]); (try simp only [List.set_cons_succ]); (try simp only [List.set_cons_zero])
        refine wpAnyH_take (i := 10) (oi := { dst := some 26, op := Op.nilCheck (Operand.tmp 25), type := 0, pos := "file.go:53", after := #[{ on := 9, ground := Ground.data }], guard := none }) (v := ?vk38) rfl (by kernel_rfl) (by kernel_rfl) (by kernel_rfl) (fun _ _ _ h => h) (Or.inl ⟨by rfl, ?hk38⟩) (CS.old ((Old.refl wr).drew) HCS.out) ?rk38
        case hk38 => (intro wz hSw; (try dsimp only at hSw); go_simp; try with_reducible rfl)
        (try simp only [Act.put]); (try simp only [List.setIfInBounds_toArray]); (try simp only [List.set_cons_succ]); (try simp only [List.set_cons_zero])
        refine wpAnyH_take (i := 11) (oi := { dst := some 27, op := Op.fieldAddr 103 (Operand.tmp 26) 0, type := 0, pos := "file.go:53", after := #[{ on := 10, ground := Ground.data }], guard := none }) (v := ?vk39) rfl (by kernel_rfl) (by kernel_rfl) (by kernel_rfl) (fun _ _ _ h => h) (Or.inl ⟨by rfl, ?hk39⟩) (CS.old ((Old.refl wr).drew) HCS.out) ?rk39
        case hk39 => (intro wz hSw; (try dsimp only at hSw); go_simp; try with_reducible rfl)
        (try simp only [Act.put]); (try simp only [List.setIfInBounds_toArray]); (try simp only [List.set_cons_succ]); (try simp only [List.set_cons_zero])
        refine wpAnyH_take (i := 12) (oi := { dst := some 28, op := Op.load 49 (Operand.tmp 27), type := 49, pos := "file.go:53", after := #[{ on := 11, ground := Ground.data }], guard := none }) (v := ?vk40) rfl (by kernel_rfl) (by kernel_rfl) (by kernel_rfl) (fun _ _ _ h => h) (Or.inl ⟨by rfl, ?hk40⟩) (CS.old ((Old.refl wr).drew) HCS.out) ?rk40
        case hk40 => (intro wz hSw; (try dsimp only at hSw); go_simp; try with_reducible rfl)
        (try simp only [Act.put]); (try simp only [List.setIfInBounds_toArray]); (try simp only [List.set_cons_succ]); (try simp only [List.set_cons_zero])
        refine wpAnyH_take (i := 13) (oi := { dst := some 29, op := Op.move (Operand.tmp 1), type := 78, pos := "file.go:53", after := #[], guard := none }) (v := ?vk41) rfl (by kernel_rfl) (by kernel_rfl) (by kernel_rfl) (fun _ _ _ h => h) (Or.inl ⟨by rfl, ?hk41⟩) (CS.old ((Old.refl wr).drew) HCS.out) ?rk41
        case hk41 => (intro wz hSw; (try dsimp only at hSw); go_simp; try with_reducible rfl)
        (try simp only [Act.put]); (try simp only [List.setIfInBounds_toArray]); (try simp only [List.set_cons_succ]); (try simp only [List.set_cons_zero])
        refine wpAnyH_take (i := 14) (oi := { dst := some 30, op := Op.move (Operand.tmp 6), type := 3, pos := "file.go:53", after := #[], guard := none }) (v := ?vk42) rfl (by kernel_rfl) (by kernel_rfl) (by kernel_rfl) (fun _ _ _ h => h) (Or.inl ⟨by rfl, ?hk42⟩) (CS.old ((Old.refl wr).drew) HCS.out) ?rk42
        case hk42 => (intro wz hSw; (try dsimp only at hSw); go_simp; try with_reducible rfl)
        (try simp only [Act.put]); (try simp only [List.setIfInBounds_toArray]); (try simp only [List.set_cons_succ]); (try simp only [List.set_cons_zero])
        refine wpAnyH_take (i := 15) (oi := { dst := some 31, op := Op.indexAddr 78 (Operand.tmp 29) (Operand.tmp 30), type := 0, pos := "file.go:53", after := #[{ on := 13, ground := Ground.data }, { on := 14, ground := Ground.data }], guard := none }) (v := ?vk43) rfl (by kernel_rfl) (by kernel_rfl) (by kernel_rfl) (fun _ _ _ h => h) (Or.inl ⟨by rfl, ?hk43⟩) (CS.old ((Old.refl wr).drew) HCS.out) ?rk43
        case hk43 => (intro wz hSw; (try dsimp only at hSw); go_simp; try with_reducible rfl)
        (try simp only [Act.put]); (try simp only [List.setIfInBounds_toArray]); (try simp only [List.set_cons_succ]); (try simp only [List.set_cons_zero])
        refine wpAnyH_take (i := 16) (oi := { dst := some 32, op := Op.load 3 (Operand.tmp 31), type := 3, pos := "file.go:53", after := #[{ on := 15, ground := Ground.data }], guard := none }) (v := ?vk44) rfl (by kernel_rfl) (by kernel_rfl) (by kernel_rfl) (fun _ _ _ h => h) (Or.inl ⟨by rfl, ?hk44⟩) (CS.old ((Old.refl wr).drew) HCS.out) ?rk44
        case hk44 => (intro wz hSw; (try dsimp only at hSw); go_simp; try with_reducible rfl)
        (try simp only [Act.put]); (try simp only [List.setIfInBounds_toArray]); (try simp only [List.set_cons_succ]); (try simp only [List.set_cons_zero])
        refine wpAnyH_ready (rs := [4, 17]) (by kernel_rfl) (by simp) ?_
        refine AllReadyH.cons (o := { dst := some 20, op := Op.load 49 (Operand.tmp 19), type := 49, pos := "file.go:53", after := #[{ on := 3, ground := Ground.data }], guard := none }) rfl (fun K hK => ?_) (AllReadyH.cons (o := { dst := some 33, op := Op.call { callee := Callee.value (Operand.func 67), args := #[Operand.tmp 28, Operand.tmp 32], argTypes := #[49, 3] }, type := 49, pos := "file.go:53", after := #[{ on := 12, ground := Ground.data }, { on := 16, ground := Ground.data }], guard := none }) rfl (fun K hK => ?_) AllReadyH.nil)
        · skip
          refine stepLoadB ?_ (.tmp 19) ?_ f.fb 1 sa ls sc ?_ C1.out ?_
          · rfl
          · rfl
          · rfl
          refine hK.out _ _ (CS.old ((Old.refl wr).drew) HCS.out) (fun _ => ?_)
          clear hK K
          (try simp only [Act.put]); (try simp only [List.setIfInBounds_toArray]); (try simp only [List.set_cons_succ]); (try simp only [List.set_cons_zero])
          refine wpAnyH_ready (rs := [17]) (by kernel_rfl) (by simp) ?_
          refine AllReadyH.cons (o := { dst := some 33, op := Op.call { callee := Callee.value (Operand.func 67), args := #[Operand.tmp 28, Operand.tmp 32], argTypes := #[49, 3] }, type := 49, pos := "file.go:53", after := #[{ on := 12, ground := Ground.data }, { on := 16, ground := Ground.data }], guard := none }) rfl (fun K hK => ?_) AllReadyH.nil
          · skip
            refine wantCall2 ?_ 67 (.tmp 28) (.tmp 32) #[49, 3] ?_ (.slice na ln nc) (.int .i64 (at_ : Nat)) ?_ ?_ ?_ ((enters_of Tryz.func67 (by kernel_rfl) rfl) _ _) ?_
            · rfl
            · rfl
            · rfl
            · rfl
            · rfl
            refine (HSn.out _ ((Old.refl wr).drew)).mono ?_
            rintro o x45 ⟨v1, rfl, r1, b1, hw⟩
            have R1 := hid r1
            have B1 := hid b1
            have hw2 := hw.symm
            subst hw2
            clear r1 b1 hw
            refine ⟨_, rfl, ?_⟩
            refine hK.out _ _ (CS.old ((Old.refl wr).drew) HCS.out) (fun _ => ?_)
            clear hK K
            (try simp only [Act.put]); (try simp only [List.setIfInBounds_toArray]); (try simp only [List.set_cons_succ]); (try simp only [List.set_cons_zero])
            refine wpAnyH_ready (rs := [18]) (by kernel_rfl) (by simp) ?_
            refine AllReadyH.cons (o := { dst := some 34, op := Op.call { callee := Callee.value (Operand.func 68), args := #[Operand.tmp 20, Operand.tmp 24, Operand.tmp 33], argTypes := #[49, 3, 49] }, type := 49, pos := "file.go:53", after := #[{ on := 4, ground := Ground.data }, { on := 8, ground := Ground.data }, { on := 17, ground := Ground.data }, { on := 17, ground := Ground.chain }], guard := none }) rfl (fun K hK => ?_) AllReadyH.nil
            · skip
              have HOv := hid (show Calls Tryz.prog 68 #[.slice sa ls sc, .int .i64 (at_ : Nat), v1] (World.drew wr) fun e w' => ∃ v', e = .returned v' ∧ Own w' v' (overL (craK f.now st kp i f.safe) at_ (sec f.now at_)) ∧ Grow (World.drew wr) (.slice sa ls sc) w' v' from HOv0.out _ ((Old.refl wr).drew) v1 R1.out B1.out)
              refine wantCall3 ?_ 68 (.tmp 20) (.tmp 24) (.tmp 33) #[49, 3, 49] ?_ (.slice sa ls sc) (.int .i64 (at_ : Nat)) v1 ?_ ?_ ?_ ?_ ((enters_of Tryz.func68 (by kernel_rfl) rfl) _ _) ?_
              · rfl
              · rfl
              · rfl
              · rfl
              · rfl
              · rfl
              refine HOv.out.mono ?_
              rintro o x46 ⟨v', rfl, o2, g2⟩
              have FIN := hid (HFin.out _ v' o2 g2)
              have TH := hid (HTh.out _ v' g2)
              have HC2 := hid (HSt2.out _ v' g2)
              obtain ⟨pa, pc, ev⟩ := o2.len
              obtain ⟨pn, hpn⟩ : ∃ pn, (overL (craK f.now st kp i f.safe) at_ (sec f.now at_)).length = pn := ⟨_, rfl⟩
              rw [hpn] at ev
              rw [ev] at FIN
              subst ev
              clear o2 g2 hpn HOv
              refine ⟨_, rfl, ?_⟩
              refine hK.out _ _ HC2.out (fun _ => ?_)
              clear hK K
              (try simp only [Act.put]); (try simp only [List.setIfInBounds_toArray]); (try simp only [List.set_cons_succ]); (try simp only [List.set_cons_zero])
              refine wpAnyH_take (i := 19) (oi := { dst := some 35, op := Op.nilCheck (Operand.tmp 16), type := 0, pos := "file.go:53", after := #[{ on := 0, ground := Ground.data }, { on := 0, ground := Ground.phase }, { on := 1, ground := Ground.phase }, { on := 2, ground := Ground.phase }, { on := 3, ground := Ground.phase }, { on := 4, ground := Ground.phase }, { on := 5, ground := Ground.phase }, { on := 6, ground := Ground.phase }, { on := 7, ground := Ground.phase }, { on := 8, ground := Ground.phase }, { on := 9, ground := Ground.phase }, { on := 10, ground := Ground.phase }, { on := 11, ground := Ground.phase }, { on := 12, ground := Ground.phase }, { on := 13, ground := Ground.phase }, { on := 14, ground := Ground.phase }, { on := 15, ground := Ground.phase }, { on := 16, ground := Ground.phase }, { on := 17, ground := Ground.phase }, { on := 18, ground := Ground.phase }], guard := none }) (v := ?vk47) rfl (by kernel_rfl) (by kernel_rfl) (by kernel_rfl) (fun _ _ _ h => h) (Or.inl ⟨by rfl, ?hk47⟩) HC2.out ?rk47
              case hk47 => (intro wz hSw; (try dsimp only at hSw); go_simp; try with_reducible rfl)
              (try simp only [Act.put]); (try simp only [List.setIfInBounds_toArray]); (try simp only [List.set_cons_succ]); (try simp only [List.set_cons_zero])
              refine wpAnyH_take (i := 20) (oi := { dst := some 36, op := Op.fieldAddr 103 (Operand.tmp 35) 1, type := 0, pos := "file.go:53", after := #[{ on := 19, ground := Ground.data }, { on := 0, ground := Ground.phase }, { on := 1, ground := Ground.phase }, { on := 2, ground := Ground.phase }, { on := 3, ground := Ground.phase }, { on := 4, ground := Ground.phase }, { on := 5, ground := Ground.phase }, { on := 6, ground := Ground.phase }, { on := 7, ground := Ground.phase }, { on := 8, ground := Ground.phase }, { on := 9, ground := Ground.phase }, { on := 10, ground := Ground.phase }, { on := 11, ground := Ground.phase }, { on := 12, ground := Ground.phase }, { on := 13, ground := Ground.phase }, { on := 14, ground := Ground.phase }, { on := 15, ground := Ground.phase }, { on := 16, ground := Ground.phase }, { on := 17, ground := Ground.phase }, { on := 18, ground := Ground.phase }], guard := none }) (v := ?vk48) rfl (by kernel_rfl) (by kernel_rfl) (by kernel_rfl) (fun _ _ _ h => h) (Or.inl ⟨by rfl, ?hk48⟩) HC2.out ?rk48
              case hk48 => (intro wz hSw; (try dsimp only at hSw); go_simp; try with_reducible rfl)
              (try simp only [Act.put]); (try simp only [List.setIfInBounds_toArray]); (try simp only [List.set_cons_succ]); (try simp only [List.set_cons_zero])
              refine wpAnyH_ready (rs := [21]) (by kernel_rfl) (by simp) ?_
              refine AllReadyH.cons (o := { dst := none, op := Op.store 49 (Operand.tmp 36) (Operand.tmp 34), type := 0, pos := "file.go:53", after := #[{ on := 20, ground := Ground.data }, { on := 18, ground := Ground.data }, { on := 18, ground := Ground.chain }, { on := 0, ground := Ground.phase }, { on := 1, ground := Ground.phase }, { on := 2, ground := Ground.phase }, { on := 3, ground := Ground.phase }, { on := 4, ground := Ground.phase }, { on := 5, ground := Ground.phase }, { on := 6, ground := Ground.phase }, { on := 7, ground := Ground.phase }, { on := 8, ground := Ground.phase }, { on := 9, ground := Ground.phase }, { on := 10, ground := Ground.phase }, { on := 11, ground := Ground.phase }, { on := 12, ground := Ground.phase }, { on := 13, ground := Ground.phase }, { on := 14, ground := Ground.phase }, { on := 15, ground := Ground.phase }, { on := 16, ground := Ground.phase }, { on := 17, ground := Ground.phase }, { on := 18, ground := Ground.phase }], guard := none }) rfl (fun K hK => ?_) AllReadyH.nil
              · skip
                refine stepStoreB ?_ (.tmp 36) (.tmp 34) ?_ f.fb 1 pa pn pc ?_ ?_ TH.out ?_
                · rfl
                · rfl
                · rfl
                · rfl
                refine hK.out _ _ (CS.set HC2.out f.fb 1 _ (.inr (by simp)) HNf.out) (fun _ => ?_)
                clear hK K
                (try simp only [Act.put]); (try simp only [List.setIfInBounds_toArray]); (try simp only [List.set_cons_succ]); (try simp only [List.set_cons_zero])
                refine wpAnyH_done (by kernel_rfl) ?_ _
                refine NoPanic.normal ?_
                generalize hwz : World.setCell _ _ _ = wz at *
                clear hwz
                go_wp2
                go_roundw
                case rel => exact ⟨i + 1, _, hit, by go_num, FIN.out.1, FIN.out.2⟩
                case measure => simp [intOf]; omega
        · skip
          refine wantCall2 ?_ 67 (.tmp 28) (.tmp 32) #[49, 3] ?_ (.slice na ln nc) (.int .i64 (at_ : Nat)) ?_ ?_ ?_ ((enters_of Tryz.func67 (by kernel_rfl) rfl) _ _) ?_
          · rfl
          · rfl
          · rfl
          · rfl
          · rfl
          refine (HSn.out _ ((Old.refl wr).drew)).mono ?_
          rintro o x49 ⟨v1, rfl, r1, b1, hw⟩
          have R1 := hid r1
          have B1 := hid b1
          have hw2 := hw.symm
          subst hw2
          clear r1 b1 hw
          refine ⟨_, rfl, ?_⟩
          refine hK.out _ _ (CS.old ((Old.refl wr).drew) HCS.out) (fun _ => ?_)
          clear hK K
          (try simp only [Act.put]); (try simp only [List.setIfInBounds_toArray]); (try simp only [List.set_cons_succ]); (try simp only [List.set_cons_zero])
          refine wpAnyH_ready (rs := [4]) (by kernel_rfl) (by simp) ?_
          refine AllReadyH.cons (o := { dst := some 20, op := Op.load 49 (Operand.tmp 19), type := 49, pos := "file.go:53", after := #[{ on := 3, ground := Ground.data }], guard := none }) rfl (fun K hK => ?_) AllReadyH.nil
          · skip
            refine stepLoadB ?_ (.tmp 19) ?_ f.fb 1 sa ls sc ?_ C1.out ?_
            · rfl
            · rfl
            · rfl
            refine hK.out _ _ (CS.old ((Old.refl wr).drew) HCS.out) (fun _ => ?_)
            clear hK K
            (try simp only [Act.put]); (try simp only [List.setIfInBounds_toArray]); (try simp only [List.set_cons_succ]); (try simp only [List.set_cons_zero])
            refine wpAnyH_ready (rs := [18]) (by kernel_rfl) (by simp) ?_
            refine AllReadyH.cons (o := { dst := some 34, op := Op.call { callee := Callee.value (Operand.func 68), args := #[Operand.tmp 20, Operand.tmp 24, Operand.tmp 33], argTypes := #[49, 3, 49] }, type := 49, pos := "file.go:53", after := #[{ on := 4, ground := Ground.data }, { on := 8, ground := Ground.data }, { on := 17, ground := Ground.data }, { on := 17, ground := Ground.chain }], guard := none }) rfl (fun K hK => ?_) AllReadyH.nil
            · skip
              have HOv := hid (show Calls Tryz.prog 68 #[.slice sa ls sc, .int .i64 (at_ : Nat), v1] (World.drew wr) fun e w' => ∃ v', e = .returned v' ∧ Own w' v' (overL (craK f.now st kp i f.safe) at_ (sec f.now at_)) ∧ Grow (World.drew wr) (.slice sa ls sc) w' v' from HOv0.out _ ((Old.refl wr).drew) v1 R1.out B1.out)
              refine wantCall3 ?_ 68 (.tmp 20) (.tmp 24) (.tmp 33) #[49, 3, 49] ?_ (.slice sa ls sc) (.int .i64 (at_ : Nat)) v1 ?_ ?_ ?_ ?_ ((enters_of Tryz.func68 (by kernel_rfl) rfl) _ _) ?_
              · rfl
              · rfl
              · rfl
              · rfl
              · rfl
              · rfl
              refine HOv.out.mono ?_
              rintro o x50 ⟨v', rfl, o2, g2⟩
              have FIN := hid (HFin.out _ v' o2 g2)
              have TH := hid (HTh.out _ v' g2)
              have HC2 := hid (HSt2.out _ v' g2)
              obtain ⟨pa, pc, ev⟩ := o2.len
              obtain ⟨pn, hpn⟩ : ∃ pn, (overL (craK f.now st kp i f.safe) at_ (sec f.now at_)).length = pn := ⟨_, rfl⟩
              rw [hpn] at ev
              rw [ev] at FIN
              subst ev
              clear o2 g2 hpn HOv
              refine ⟨_, rfl, ?_⟩
              refine hK.out _ _ HC2.out (fun _ => ?_)
              clear hK K
              (try simp only [Act.put]); (try simp only [List.setIfInBounds_toArray]); (try simp only [List.set_cons_succ]); (try simp only [List.set_cons_zero])
              refine wpAnyH_take (i := 19) (oi := { dst := some 35, op := Op.nilCheck (Operand.tmp 16), type := 0, pos := "file.go:53", after := #[{ on := 0, ground := Ground.data }, { on := 0, ground := Ground.phase }, { on := 1, ground := Ground.phase }, { on := 2, ground := Ground.phase }, { on := 3, ground := Ground.phase }, { on := 4, ground := Ground.phase }, { on := 5, ground := Ground.phase }, { on := 6, ground := Ground.phase }, { on := 7, ground := Ground.phase }, { on := 8, ground := Ground.phase }, { on := 9, ground := Ground.phase }, { on := 10, ground := Ground.phase }, { on := 11, ground := Ground.phase }, { on := 12, ground := Ground.phase }, { on := 13, ground := Ground.phase }, { on := 14, ground := Ground.phase }, { on := 15, ground := Ground.phase }, { on := 16, ground := Ground.phase }, { on := 17, ground := Ground.phase }, { on := 18, ground := Ground.phase }], guard := none }) (v := ?vk51) rfl (by kernel_rfl) (by kernel_rfl) (by kernel_rfl) (fun _ _ _ h => h) (Or.inl ⟨by rfl, ?hk51⟩) HC2.out ?rk51
              case hk51 => (intro wz hSw; (try dsimp only at hSw); go_simp; try with_reducible rfl)
              (try simp only [Act.put]); (try simp only [List.setIfInBounds_toArray]); (try simp only [List.set_cons_succ]); (try simp only [List.set_cons_zero])
              refine wpAnyH_take (i := 20) (oi := { dst := some 36, op := Op.fieldAddr 103 (Operand.tmp 35) 1, type := 0, pos := "file.go:53", after := #[{ on := 19, ground := Ground.data }, { on := 0, ground := Ground.phase }, { on := 1, ground := Ground.phase }, { on := 2, ground := Ground.phase }, { on := 3, ground := Ground.phase }, { on := 4, ground := Ground.phase }, { on := 5, ground := Ground.phase }, { on := 6, ground := Ground.phase }, { on := 7, ground := Ground.phase }, { on := 8, ground := Ground.phase }, { on := 9, ground := Ground.phase }, { on := 10, ground := Ground.phase }, { on := 11, ground := Ground.phase }, { on := 12, ground := Ground.phase }, { on := 13, ground := Ground.phase }, { on := 14, ground := Ground.phase }, { on := 15, ground := Ground.phase }, { on := 16, ground := Ground.phase }, { on := 17, ground := Ground.phase }, { on := 18, ground := Ground.phase }], guard := none }) (v := ?vk52) rfl (by kernel_rfl) (by kernel_rfl) (by kernel_rfl) (fun _ _ _ h => h) (Or.inl ⟨by rfl, ?hk52⟩) HC2.out ?rk52
              case hk52 => (intro wz hSw; (try dsimp only at hSw); go_simp; try with_reducible rfl)
              (try simp only [Act.put]); (try simp only [List.setIfInBounds_toArray]); (try simp only [List.set_cons_succ]); (try simp only [List.set_cons_zero])
              refine wpAnyH_ready (rs := [21]) (by kernel_rfl) (by simp) ?_
              refine AllReadyH.cons (o := { dst := none, op := Op.store 49 (Operand.tmp 36) (Operand.tmp 34), type := 0, pos := "file.go:53", after := #[{ on := 20, ground := Ground.data }, { on := 18, ground := Ground.data }, { on := 18, ground := Ground.chain }, { on := 0, ground := Ground.phase }, { on := 1, ground := Ground.phase }, { on := 2, ground := Ground.phase }, { on := 3, ground := Ground.phase }, { on := 4, ground := Ground.phase }, { on := 5, ground := Ground.phase }, { on := 6, ground := Ground.phase }, { on := 7, ground := Ground.phase }, { on := 8, ground := Ground.phase }, { on := 9, ground := Ground.phase }, { on := 10, ground := Ground.phase }, { on := 11, ground := Ground.phase }, { on := 12, ground := Ground.phase }, { on := 13, ground := Ground.phase }, { on := 14, ground := Ground.phase }, { on := 15, ground := Ground.phase }, { on := 16, ground := Ground.phase }, { on := 17, ground := Ground.phase }, { on := 18, ground := Ground.phase }], guard := none }) rfl (fun K hK => ?_) AllReadyH.nil
              · skip
                refine stepStoreB ?_ (.tmp 36) (.tmp 34) ?_ f.fb 1 pa pn pc ?_ ?_ TH.out ?_
                · rfl
                · rfl
                · rfl
                · rfl
                refine hK.out _ _ (CS.set HC2.out f.fb 1 _ (.inr (by simp)) HNf.out) (fun _ => ?_)
                clear hK K
                (try simp only [Act.put]); (try simp only [List.setIfInBounds_toArray]); (try simp only [List.set_cons_succ]); (try simp only [List.set_cons_zero])
                refine wpAnyH_done (by kernel_rfl) ?_ _
                refine NoPanic.normal ?_
                generalize hwz : World.setCell _ _ _ = wz at *
                clear hwz
                go_wp2
                go_roundw
                case rel => exact ⟨i + 1, _, hit, by go_num, FIN.out.1, FIN.out.2⟩
                case measure => simp [intOf]; omega
    · obtain rfl : i = n := by omega
      obtain ⟨sa, sc, esv⟩ := HF.out.safe.len
      have esv' : vs' = .slice sa (craK f.now st kp i f.safe).length sc := esv
      obtain ⟨c0, c1, f0, f1⟩ := HF.out.cells
      have c1' : wr.cell? ⟨f.fb, 1, none⟩ = some (.slice sa (craK f.now st kp i f.safe).length sc) := by rw [← esv']; exact c1
      have c0' : wr.cell? ⟨f.fb, 0, none⟩ = some f.vn := c0
      have f0' : wr.frozen? ⟨f.fb, 0, none⟩ = false := f0
      have hl2 := HLen.out i
      have HCl := hid (clone_ok (.slice sa (craK f.now st kp i f.safe).length sc) (craK f.now st kp i f.safe) wr (by rw [← esv']; exact HF.out.safe.row) (by omega))
      have HFin := hid (show ∀ (W : World) (v' : Value), Own W v' (craK f.now st kp i f.safe) → Old wr W → (∀ g, v'.ownBlock = some g → wr.heap.size ≤ g ∧ g < W.heap.size) → ∃ f', Ending.returned (.tuple #[]) = Ending.returned (.tuple #[]) ∧ FlAt (W.setCell ⟨f.fb, 0, none⟩ v') f' ∧ f'.now = craK f.now st kp i f.safe ∧ f'.safe = craK f.now st kp i f.safe ∧ FMv w f (W.setCell ⟨f.fb, 0, none⟩ v') f' from fun W v' o u g => by
        obtain ⟨z1, z2⟩ := HF.out.setNow (v' := v') (L' := craK f.now st kp i f.safe) ⟨Chg.ofOld u, fun b e => .inr (g b e)⟩ o hl2 (fun b e => .inr (g b e).1)
        exact ⟨_, rfl, z1, rfl, rfl, HMv.out.trans z2⟩)
      have l8 : ¬ (i : Int) < (i : Int) := by omega
      clear esv esv' c0 c1 f0 f1 HF HMv HKc HSt HCr HSb HLen hl2
      rw [en] at c0'
      generalize (craK f.now st kp i f.safe).length = ls at *
      generalize f.now.length = ln at *
      go_wp2_with (go_at_call 69; refine HCl.out.mono ?_; rintro e w1 ⟨v', rfl, o1, u1, g1⟩; have FIN := hid (HFin.out w1 v' o1 u1 g1); have c0'' := u1.keep c0'; have f0'' := u1.keepF c0' f0'; obtain ⟨va', vc', ev⟩ := o1.len; rw [ev] at FIN; rw [ev]; clear o1 g1 ev u1)
      exact bodyPost_end (v := .tuple #[]) (by simp [results, Tryz.results31, go_sem]) rfl (by obtain ⟨f', _, q⟩ := FIN.out; exact ⟨f', rfl, q⟩)
end Go.Proofs.YtfphopleniidfaaGreatDoor
