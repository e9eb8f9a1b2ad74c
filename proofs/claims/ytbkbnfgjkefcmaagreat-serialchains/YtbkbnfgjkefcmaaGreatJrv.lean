/- The document's joining of two ranges; conditions: the codes are fewer than 2^64. -/
import Derived.Test.YtbkbnfgjkefcmaaGreatMv
namespace Go.Proofs.YtbkbnfgjkefcmaaGreat
open Go.RowKit
set_option linter.unusedVariables false
abbrev D3 (x l1 h1 y l2 h2 k : Nat) (w : World) : Prop := RgAt x l1 h1 w ∧ RgAt y l2 h2 w ∧ RgAt k 0 0 w
theorem D3.up {x l1 h1 y l2 h2 k : Nat} {W w' : World} (u : Up W w') (h : D3 x l1 h1 y l2 h2 k W) : D3 x l1 h1 y l2 h2 k w' := ⟨RgAt.up u h.1, RgAt.up u h.2.1, RgAt.up u h.2.2⟩
theorem ent_next (args : Array Value) (w : World) : (callFunc 89 args).run Tryz.prog w = .ok (.enter 89 args) w := by kernel_rfl
def Fl.rn (u : Nat) : Nat := if Fl.isCode (u + 1) = true then u + 1 else u + 2
set_option maxHeartbeats 400000 in
set_option maxRecDepth 20000 in
theorem rnext_any (u : Nat) (hu : u ≤ 18442240474082181120) (w : World) :
    Calls Tryz.prog 89 #[.int .u64 (u : Nat)] w fun o w' => o = .returned (.int .u64 (Fl.rn u : Nat)) ∧ Up w w' := by
  have HI := hid (fun w => isCode_any (u + 1) (by unfold Fl.W; omega) w)
  unfold Fl.rn
  cases h : Fl.isCode (u + 1)
  · rw [h] at HI
    go_enter Tryz.func89, Tryz.ntmps89
    go_wp2_with (go_at_call 66; refine (HI.out _).mono ?_; rintro o w' ⟨rfl, rfl⟩)
    go_ret
    exact ⟨ret_i (by simp), Up.refl _⟩
  · rw [h] at HI
    go_enter Tryz.func89, Tryz.ntmps89
    go_wp2_with (go_at_call 66; refine (HI.out _).mono ?_; rintro o w' ⟨rfl, rfl⟩)
    go_ret
    exact ⟨ret_i (by simp), Up.refl _⟩
set_option maxHeartbeats 2000000 in
set_option maxRecDepth 20000 in
theorem rJoin_t (L1 H1 L2 H2 N1 N2 : Nat) (w1 : Fl.W L1) (w2 : Fl.W H1) (w3 : Fl.W L2) (w4 : Fl.W H2) (w5 : Fl.W N1) (w6 : Fl.W N2) (e2 : Bool) (HE1 : Hid (∀ w, Calls Tryz.prog 38 #[.agg #[.int .u64 (L1 : Nat), .int .u64 (H1 : Nat)]] w fun o w' => o = .returned (.bool true) ∧ Up w w')) (HE2 : Hid (∀ w, Calls Tryz.prog 38 #[.agg #[.int .u64 (L2 : Nat), .int .u64 (H2 : Nat)]] w fun o w' => o = .returned (.bool e2) ∧ Up w w')) (HN1 : Hid (∀ w, Calls Tryz.prog 89 #[.int .u64 (H1 : Nat)] w fun o w' => o = .returned (.int .u64 (N1 : Nat)) ∧ Up w w')) (HN2 : Hid (∀ w, Calls Tryz.prog 89 #[.int .u64 (H2 : Nat)] w fun o w' => o = .returned (.int .u64 (N2 : Nat)) ∧ Up w w')) (w : World) :
    Calls Tryz.prog 72 #[.agg #[.int .u64 (L1 : Nat), .int .u64 (H1 : Nat)], .agg #[.int .u64 (L2 : Nat), .int .u64 (H2 : Nat)]] w fun o w' => o = .returned (.tuple #[.agg #[.int .u64 (L2 : Nat), .int .u64 (H2 : Nat)], .bool true]) ∧ Up w w' := by
  clear w1 w2 w3 w4 w5 w6
  go_enter Tryz.func72, Tryz.ntmps72
  go_wp2_with (first | (go_at_call_of 38 (Value.int IntKind.u64 (H1 : Nat)); refine (HE1.out _).mono ?_; rintro o w5 ⟨rfl, hb5⟩; have d5 : D3 w.heap.size L1 H1 (w.heap.size + 1) L2 H2 (w.heap.size + 2) w5 := D3.up hb5 (by first | assumption | (simp [D3, RgAt, go_sem]; done))) | (go_at_call_of 38 (Value.int IntKind.u64 (H2 : Nat)); refine (HE2.out _).mono ?_; rintro o w6 ⟨rfl, hb6⟩; have d6 : D3 w.heap.size L1 H1 (w.heap.size + 1) L2 H2 (w.heap.size + 2) w6 := D3.up hb6 (by first | assumption | (simp [D3, RgAt, go_sem]; done))) | (go_at_call 64; refine (rnone_any _).mono ?_; rintro o w7 ⟨rfl, hb7⟩; have d7 : D3 w.heap.size L1 H1 (w.heap.size + 1) L2 H2 (w.heap.size + 2) w7 := D3.up hb7 (by assumption)))
  all_goals exact bodyPost_ret (v := .tuple #[.agg #[.int .u64 (L2 : Nat), .int .u64 (H2 : Nat)], .bool true]) (by simp [results, Tryz.results72, go_sem, *]) rfl ⟨rfl, (by repeat (first | exact Up.refl _ | assumption | refine Up.drew ?_ | refine Up.drewN ?_ _ | refine Up.alloc ?_ _ | refine Up.setCell ?_ ?_ _ | exact Nat.le_refl _ | exact Nat.le_add_right _ _ | (dsimp only; omega) | refine Up.trans ?_ ‹Up _ _›))⟩
set_option maxHeartbeats 2000000 in
set_option maxRecDepth 20000 in
theorem rJoin_ft (L1 H1 L2 H2 N1 N2 : Nat) (w1 : Fl.W L1) (w2 : Fl.W H1) (w3 : Fl.W L2) (w4 : Fl.W H2) (w5 : Fl.W N1) (w6 : Fl.W N2)  (HE1 : Hid (∀ w, Calls Tryz.prog 38 #[.agg #[.int .u64 (L1 : Nat), .int .u64 (H1 : Nat)]] w fun o w' => o = .returned (.bool false) ∧ Up w w')) (HE2 : Hid (∀ w, Calls Tryz.prog 38 #[.agg #[.int .u64 (L2 : Nat), .int .u64 (H2 : Nat)]] w fun o w' => o = .returned (.bool true) ∧ Up w w')) (HN1 : Hid (∀ w, Calls Tryz.prog 89 #[.int .u64 (H1 : Nat)] w fun o w' => o = .returned (.int .u64 (N1 : Nat)) ∧ Up w w')) (HN2 : Hid (∀ w, Calls Tryz.prog 89 #[.int .u64 (H2 : Nat)] w fun o w' => o = .returned (.int .u64 (N2 : Nat)) ∧ Up w w')) (w : World) :
    Calls Tryz.prog 72 #[.agg #[.int .u64 (L1 : Nat), .int .u64 (H1 : Nat)], .agg #[.int .u64 (L2 : Nat), .int .u64 (H2 : Nat)]] w fun o w' => o = .returned (.tuple #[.agg #[.int .u64 (L1 : Nat), .int .u64 (H1 : Nat)], .bool true]) ∧ Up w w' := by
  clear w1 w2 w3 w4 w5 w6
  go_enter Tryz.func72, Tryz.ntmps72
  go_wp2_with (first | (go_at_call_of 38 (Value.int IntKind.u64 (H1 : Nat)); refine (HE1.out _).mono ?_; rintro o w5 ⟨rfl, hb5⟩; have d5 : D3 w.heap.size L1 H1 (w.heap.size + 1) L2 H2 (w.heap.size + 2) w5 := D3.up hb5 (by first | assumption | (simp [D3, RgAt, go_sem]; done))) | (go_at_call_of 38 (Value.int IntKind.u64 (H2 : Nat)); refine (HE2.out _).mono ?_; rintro o w6 ⟨rfl, hb6⟩; have d6 : D3 w.heap.size L1 H1 (w.heap.size + 1) L2 H2 (w.heap.size + 2) w6 := D3.up hb6 (by first | assumption | (simp [D3, RgAt, go_sem]; done))) | (go_at_call 64; refine (rnone_any _).mono ?_; rintro o w7 ⟨rfl, hb7⟩; have d7 : D3 w.heap.size L1 H1 (w.heap.size + 1) L2 H2 (w.heap.size + 2) w7 := D3.up hb7 (by assumption)))
  all_goals exact bodyPost_ret (v := .tuple #[.agg #[.int .u64 (L1 : Nat), .int .u64 (H1 : Nat)], .bool true]) (by simp [results, Tryz.results72, go_sem, *]) rfl ⟨rfl, (by repeat (first | exact Up.refl _ | assumption | refine Up.drew ?_ | refine Up.drewN ?_ _ | refine Up.alloc ?_ _ | refine Up.setCell ?_ ?_ _ | exact Nat.le_refl _ | exact Nat.le_add_right _ _ | (dsimp only; omega) | refine Up.trans ?_ ‹Up _ _›))⟩
set_option maxHeartbeats 2000000 in
set_option maxRecDepth 20000 in
theorem rJoin_g1 (L1 H1 L2 H2 N1 N2 : Nat) (w1 : Fl.W L1) (w2 : Fl.W H1) (w3 : Fl.W L2) (w4 : Fl.W H2) (w5 : Fl.W N1) (w6 : Fl.W N2) (h1 : N1 < L2) (HE1 : Hid (∀ w, Calls Tryz.prog 38 #[.agg #[.int .u64 (L1 : Nat), .int .u64 (H1 : Nat)]] w fun o w' => o = .returned (.bool false) ∧ Up w w')) (HE2 : Hid (∀ w, Calls Tryz.prog 38 #[.agg #[.int .u64 (L2 : Nat), .int .u64 (H2 : Nat)]] w fun o w' => o = .returned (.bool false) ∧ Up w w')) (HN1 : Hid (∀ w, Calls Tryz.prog 89 #[.int .u64 (H1 : Nat)] w fun o w' => o = .returned (.int .u64 (N1 : Nat)) ∧ Up w w')) (HN2 : Hid (∀ w, Calls Tryz.prog 89 #[.int .u64 (H2 : Nat)] w fun o w' => o = .returned (.int .u64 (N2 : Nat)) ∧ Up w w')) (w : World) :
    Calls Tryz.prog 72 #[.agg #[.int .u64 (L1 : Nat), .int .u64 (H1 : Nat)], .agg #[.int .u64 (L2 : Nat), .int .u64 (H2 : Nat)]] w fun o w' => o = .returned (.tuple #[.agg #[.int .u64 1, .int .u64 0], .bool false]) ∧ Up w w' := by
  have aN1L2 : decide (N1 < L2) = true := by simp; omega
  have bN1L2 : decide ((N1 : Int) < (L2 : Int)) = true := by simp; omega
  clear w1 w2 w3 w4 w5 w6
  go_enter Tryz.func72, Tryz.ntmps72
  go_upto_region 5 with (first | (go_at_call_of 38 (Value.int IntKind.u64 (H1 : Nat)); refine (HE1.out _).mono ?_; rintro o w5 ⟨rfl, hb5⟩; have d5 : D3 w.heap.size L1 H1 (w.heap.size + 1) L2 H2 (w.heap.size + 2) w5 := D3.up hb5 (by first | assumption | (simp [D3, RgAt, go_sem]; done))) | (go_at_call_of 38 (Value.int IntKind.u64 (H2 : Nat)); refine (HE2.out _).mono ?_; rintro o w6 ⟨rfl, hb6⟩; have d6 : D3 w.heap.size L1 H1 (w.heap.size + 1) L2 H2 (w.heap.size + 2) w6 := D3.up hb6 (by first | assumption | (simp [D3, RgAt, go_sem]; done))) | (go_at_call 64; refine (rnone_any _).mono ?_; rintro o w7 ⟨rfl, hb7⟩; have d7 : D3 w.heap.size L1 H1 (w.heap.size + 1) L2 H2 (w.heap.size + 2) w7 := D3.up hb7 (by assumption)))
  have UB : Up w w6 := (by repeat (first | exact Up.refl _ | assumption | refine Up.drew ?_ | refine Up.drewN ?_ _ | refine Up.alloc ?_ _ | refine Up.setCell ?_ ?_ _ | exact Nat.le_refl _ | exact Nat.le_add_right _ _ | (dsimp only; omega) | refine Up.trans ?_ ‹Up _ _›))
  have hS : D3 w.heap.size L1 H1 (w.heap.size + 1) L2 H2 (w.heap.size + 2) w6 := by assumption
  clear d5 d6 hb5 hb6
  refine wp_region_noPanic ?_
  refine wp_region_held_drew (S := D3 w.heap.size L1 H1 (w.heap.size + 1) L2 H2 (w.heap.size + 2)) (by kernel_rfl) ?_ (fun hHeld => ?_)
  · exact D3.up ((Up.refl _).drew) hS
  (try simp only [Act.put]); (try simp only [List.setIfInBounds_toArray]); (try simp only [List.set_cons_succ]); (try simp only [List.set_cons_zero])
  clear hHeld
  refine wpAnyH_take (i := 0) (oi := { dst := some 12, op := Op.fieldAddr 64 (Operand.tmp 2) 1, type := 0, pos := "ref.go:88", after := #[], guard := none }) (v := ?vk61) rfl (by kernel_rfl) (by kernel_rfl) (by kernel_rfl) (fun _ _ _ h => h) (Or.inl ⟨by rfl, ?hk61⟩) (D3.up ((Up.refl w6).drew) hS) ?rk61
  case hk61 => (intro wz hSw; (try dsimp only at hSw); go_simp; try with_reducible rfl)
  (try simp only [Act.put]); (try simp only [List.setIfInBounds_toArray]); (try simp only [List.set_cons_succ]); (try simp only [List.set_cons_zero])
  refine wpAnyH_take (i := 1) (oi := { dst := some 13, op := Op.load 62 (Operand.tmp 12), type := 62, pos := "ref.go:88", after := #[{ on := 0, ground := Ground.data }], guard := none }) (v := ?vk62) rfl (by kernel_rfl) (by kernel_rfl) (by kernel_rfl) (fun _ _ _ h => h) (Or.inl ⟨by rfl, ?hk62⟩) (D3.up ((Up.refl w6).drew) hS) ?rk62
  case hk62 => (intro wz hSw; (try dsimp only at hSw); go_simp; try with_reducible rfl)
  (try simp only [Act.put]); (try simp only [List.setIfInBounds_toArray]); (try simp only [List.set_cons_succ]); (try simp only [List.set_cons_zero])
  refine wpAnyH_take (i := 3) (oi := { dst := some 15, op := Op.fieldAddr 64 (Operand.tmp 3) 0, type := 0, pos := "ref.go:88", after := #[], guard := none }) (v := ?vk63) rfl (by kernel_rfl) (by kernel_rfl) (by kernel_rfl) (fun _ _ _ h => h) (Or.inl ⟨by rfl, ?hk63⟩) (D3.up ((Up.refl w6).drew) hS) ?rk63
  case hk63 => (intro wz hSw; (try dsimp only at hSw); go_simp; try with_reducible rfl)
  (try simp only [Act.put]); (try simp only [List.setIfInBounds_toArray]); (try simp only [List.set_cons_succ]); (try simp only [List.set_cons_zero])
  refine wpAnyH_take (i := 4) (oi := { dst := some 16, op := Op.load 62 (Operand.tmp 15), type := 62, pos := "ref.go:88", after := #[{ on := 3, ground := Ground.data }], guard := none }) (v := ?vk64) rfl (by kernel_rfl) (by kernel_rfl) (by kernel_rfl) (fun _ _ _ h => h) (Or.inl ⟨by rfl, ?hk64⟩) (D3.up ((Up.refl w6).drew) hS) ?rk64
  case hk64 => (intro wz hSw; (try dsimp only at hSw); go_simp; try with_reducible rfl)
  (try simp only [Act.put]); (try simp only [List.setIfInBounds_toArray]); (try simp only [List.set_cons_succ]); (try simp only [List.set_cons_zero])
  refine wpAnyH_ready (rs := [2]) (by kernel_rfl) (by simp) ?_
  refine AllReadyH.cons (o := { dst := some 14, op := Op.call { callee := Callee.value (Operand.func 89), args := #[Operand.tmp 13], argTypes := #[62] }, type := 62, pos := "ref.go:88", after := #[{ on := 1, ground := Ground.data }], guard := none }) rfl (fun K hK => ?_) AllReadyH.nil
  refine wantCall1 ?_ 89 (.tmp 13) #[62] ?_ (.int .u64 (H1 : Nat)) ?_ ?_ (ent_next _ _) ?_
  · rfl
  · rfl
  · rfl
  · rfl
  refine (HN1.out _).mono ?_
  rintro o x65 ⟨rfl, b65⟩
  refine ⟨_, rfl, ?_⟩
  have U65 := ((Up.refl w6).drew).trans b65
  refine hK.out _ _ (D3.up U65 hS) (fun _ => ?_)
  clear hK K
  (try simp only [Act.put]); (try simp only [List.setIfInBounds_toArray]); (try simp only [List.set_cons_succ]); (try simp only [List.set_cons_zero])
  refine wpAnyH_take (i := 5) (oi := { dst := some 17, op := Op.binOp BinOp.lss 62 (Operand.tmp 14) (Operand.tmp 16) 62, type := 4, pos := "ref.go:88", after := #[{ on := 2, ground := Ground.data }, { on := 4, ground := Ground.data }], guard := none }) (v := ?vk66) rfl (by kernel_rfl) (by kernel_rfl) (by kernel_rfl) (fun _ _ _ h => h) (Or.inl ⟨by rfl, ?hk66⟩) (D3.up U65 hS) ?rk66
  case hk66 => (intro wz hSw; (try dsimp only at hSw); go_simp; try with_reducible rfl)
  (try simp only [Act.put]); (try simp only [List.setIfInBounds_toArray]); (try simp only [List.set_cons_succ]); (try simp only [List.set_cons_zero])
  refine wpAnyH_take (i := 6) (oi := { dst := some 18, op := Op.move (Operand.tmp 17), type := 4, pos := "ref.go:88", after := #[{ on := 5, ground := Ground.data }, { on := 2, ground := Ground.chain }], guard := none }) (v := ?vk67) rfl (by kernel_rfl) (by kernel_rfl) (by kernel_rfl) (fun _ _ _ h => h) (Or.inl ⟨by rfl, ?hk67⟩) (D3.up U65 hS) ?rk67
  case hk67 => (intro wz hSw; (try dsimp only at hSw); go_simp; try with_reducible rfl)
  (try simp only [Act.put]); (try simp only [List.setIfInBounds_toArray]); (try simp only [List.set_cons_succ]); (try simp only [List.set_cons_zero])
  refine wpAnyH_take (i := 7) (oi := { dst := some 19, op := Op.fieldAddr 64 (Operand.tmp 3) 1, type := 0, pos := "ref.go:88", after := #[{ on := 6, ground := Ground.guard }], guard := some (6, false) }) (v := undef) rfl (by kernel_rfl) (by kernel_rfl) (by kernel_rfl) (fun _ _ _ h => h) (Or.inr ⟨by rfl, rfl⟩) (D3.up U65 hS) ?_
  (try simp only [Act.put]); (try simp only [List.setIfInBounds_toArray]); (try simp only [List.set_cons_succ]); (try simp only [List.set_cons_zero])
  refine wpAnyH_take (i := 8) (oi := { dst := some 20, op := Op.load 62 (Operand.tmp 19), type := 62, pos := "ref.go:88", after := #[{ on := 7, ground := Ground.data }, { on := 6, ground := Ground.guard }], guard := some (6, false) }) (v := undef) rfl (by kernel_rfl) (by kernel_rfl) (by kernel_rfl) (fun _ _ _ h => h) (Or.inr ⟨by rfl, rfl⟩) (D3.up U65 hS) ?_
  (try simp only [Act.put]); (try simp only [List.setIfInBounds_toArray]); (try simp only [List.set_cons_succ]); (try simp only [List.set_cons_zero])
  refine wpAnyH_take (i := 9) (oi := { dst := some 21, op := Op.call { callee := Callee.value (Operand.func 89), args := #[Operand.tmp 20], argTypes := #[62] }, type := 62, pos := "ref.go:88", after := #[{ on := 8, ground := Ground.data }, { on := 6, ground := Ground.chain }, { on := 6, ground := Ground.guard }], guard := some (6, false) }) (v := undef) rfl (by kernel_rfl) (by kernel_rfl) (by kernel_rfl) (fun _ _ _ h => h) (Or.inr ⟨by rfl, rfl⟩) (D3.up U65 hS) ?_
  (try simp only [Act.put]); (try simp only [List.setIfInBounds_toArray]); (try simp only [List.set_cons_succ]); (try simp only [List.set_cons_zero])
  refine wpAnyH_take (i := 10) (oi := { dst := some 22, op := Op.fieldAddr 64 (Operand.tmp 2) 0, type := 0, pos := "ref.go:88", after := #[{ on := 6, ground := Ground.guard }], guard := some (6, false) }) (v := undef) rfl (by kernel_rfl) (by kernel_rfl) (by kernel_rfl) (fun _ _ _ h => h) (Or.inr ⟨by rfl, rfl⟩) (D3.up U65 hS) ?_
  (try simp only [Act.put]); (try simp only [List.setIfInBounds_toArray]); (try simp only [List.set_cons_succ]); (try simp only [List.set_cons_zero])
  refine wpAnyH_take (i := 11) (oi := { dst := some 23, op := Op.load 62 (Operand.tmp 22), type := 62, pos := "ref.go:88", after := #[{ on := 10, ground := Ground.data }, { on := 6, ground := Ground.guard }], guard := some (6, false) }) (v := undef) rfl (by kernel_rfl) (by kernel_rfl) (by kernel_rfl) (fun _ _ _ h => h) (Or.inr ⟨by rfl, rfl⟩) (D3.up U65 hS) ?_
  (try simp only [Act.put]); (try simp only [List.setIfInBounds_toArray]); (try simp only [List.set_cons_succ]); (try simp only [List.set_cons_zero])
  refine wpAnyH_take (i := 12) (oi := { dst := some 24, op := Op.binOp BinOp.lss 62 (Operand.tmp 21) (Operand.tmp 23) 62, type := 4, pos := "ref.go:88", after := #[{ on := 9, ground := Ground.data }, { on := 11, ground := Ground.data }, { on := 6, ground := Ground.guard }], guard := some (6, false) }) (v := undef) rfl (by kernel_rfl) (by kernel_rfl) (by kernel_rfl) (fun _ _ _ h => h) (Or.inr ⟨by rfl, rfl⟩) (D3.up U65 hS) ?_
  (try simp only [Act.put]); (try simp only [List.setIfInBounds_toArray]); (try simp only [List.set_cons_succ]); (try simp only [List.set_cons_zero])
  refine wpAnyH_take (i := 13) (oi := { dst := some 25, op := Op.pick (Operand.tmp 18) (Operand.const (Value.bool true)) (Operand.tmp 24), type := 4, pos := "ref.go:88", after := #[{ on := 6, ground := Ground.data }, { on := 12, ground := Ground.data }], guard := none }) (v := ?vk68) rfl (by kernel_rfl) (by kernel_rfl) (by kernel_rfl) (fun _ _ _ h => h) (Or.inl ⟨by rfl, ?hk68⟩) (D3.up U65 hS) ?rk68
  case hk68 => (intro wz hSw; (try dsimp only at hSw); go_simp; try with_reducible rfl)
  (try simp only [Act.put]); (try simp only [List.setIfInBounds_toArray]); (try simp only [List.set_cons_succ]); (try simp only [List.set_cons_zero])
  refine wpAnyH_done (by kernel_rfl) ?_ _
  refine NoPanic.normal ?_
  have UX : Up w x65 := UB.trans U65
  have hX : D3 w.heap.size L1 H1 (w.heap.size + 1) L2 H2 (w.heap.size + 2) x65 := D3.up U65 hS
  generalize x65 = wx at UX hX ⊢
  go_wp2_with (first | (go_at_call_of 38 (Value.int IntKind.u64 (H1 : Nat)); refine (HE1.out _).mono ?_; rintro o w5 ⟨rfl, hb5⟩; have d5 : D3 w.heap.size L1 H1 (w.heap.size + 1) L2 H2 (w.heap.size + 2) w5 := D3.up hb5 (by first | assumption | (simp [D3, RgAt, go_sem]; done))) | (go_at_call_of 38 (Value.int IntKind.u64 (H2 : Nat)); refine (HE2.out _).mono ?_; rintro o w6 ⟨rfl, hb6⟩; have d6 : D3 w.heap.size L1 H1 (w.heap.size + 1) L2 H2 (w.heap.size + 2) w6 := D3.up hb6 (by first | assumption | (simp [D3, RgAt, go_sem]; done))) | (go_at_call 64; refine (rnone_any _).mono ?_; rintro o w7 ⟨rfl, hb7⟩; have d7 : D3 w.heap.size L1 H1 (w.heap.size + 1) L2 H2 (w.heap.size + 2) w7 := D3.up hb7 (by assumption)))
  all_goals exact bodyPost_ret (v := .tuple #[.agg #[.int .u64 1, .int .u64 0], .bool false]) (by simp [results, Tryz.results72, go_sem, *]) rfl ⟨rfl, (by repeat (first | exact Up.refl _ | assumption | refine Up.drew ?_ | refine Up.drewN ?_ _ | refine Up.alloc ?_ _ | refine Up.setCell ?_ ?_ _ | exact Nat.le_refl _ | exact Nat.le_add_right _ _ | (dsimp only; omega) | refine Up.trans ?_ ‹Up _ _›))⟩
set_option maxHeartbeats 2000000 in
set_option maxRecDepth 20000 in
theorem rJoin_g2 (L1 H1 L2 H2 N1 N2 : Nat) (w1 : Fl.W L1) (w2 : Fl.W H1) (w3 : Fl.W L2) (w4 : Fl.W H2) (w5 : Fl.W N1) (w6 : Fl.W N2) (h1 : ¬ N1 < L2) (h2 : N2 < L1) (HE1 : Hid (∀ w, Calls Tryz.prog 38 #[.agg #[.int .u64 (L1 : Nat), .int .u64 (H1 : Nat)]] w fun o w' => o = .returned (.bool false) ∧ Up w w')) (HE2 : Hid (∀ w, Calls Tryz.prog 38 #[.agg #[.int .u64 (L2 : Nat), .int .u64 (H2 : Nat)]] w fun o w' => o = .returned (.bool false) ∧ Up w w')) (HN1 : Hid (∀ w, Calls Tryz.prog 89 #[.int .u64 (H1 : Nat)] w fun o w' => o = .returned (.int .u64 (N1 : Nat)) ∧ Up w w')) (HN2 : Hid (∀ w, Calls Tryz.prog 89 #[.int .u64 (H2 : Nat)] w fun o w' => o = .returned (.int .u64 (N2 : Nat)) ∧ Up w w')) (w : World) :
    Calls Tryz.prog 72 #[.agg #[.int .u64 (L1 : Nat), .int .u64 (H1 : Nat)], .agg #[.int .u64 (L2 : Nat), .int .u64 (H2 : Nat)]] w fun o w' => o = .returned (.tuple #[.agg #[.int .u64 1, .int .u64 0], .bool false]) ∧ Up w w' := by
  have aN1L2 : decide (N1 < L2) = false := by simp; omega
  have bN1L2 : decide ((N1 : Int) < (L2 : Int)) = false := by simp; omega
  have aN2L1 : decide (N2 < L1) = true := by simp; omega
  have bN2L1 : decide ((N2 : Int) < (L1 : Int)) = true := by simp; omega
  clear w1 w2 w3 w4 w5 w6
  go_enter Tryz.func72, Tryz.ntmps72
  go_upto_region 5 with (first | (go_at_call_of 38 (Value.int IntKind.u64 (H1 : Nat)); refine (HE1.out _).mono ?_; rintro o w5 ⟨rfl, hb5⟩; have d5 : D3 w.heap.size L1 H1 (w.heap.size + 1) L2 H2 (w.heap.size + 2) w5 := D3.up hb5 (by first | assumption | (simp [D3, RgAt, go_sem]; done))) | (go_at_call_of 38 (Value.int IntKind.u64 (H2 : Nat)); refine (HE2.out _).mono ?_; rintro o w6 ⟨rfl, hb6⟩; have d6 : D3 w.heap.size L1 H1 (w.heap.size + 1) L2 H2 (w.heap.size + 2) w6 := D3.up hb6 (by first | assumption | (simp [D3, RgAt, go_sem]; done))) | (go_at_call 64; refine (rnone_any _).mono ?_; rintro o w7 ⟨rfl, hb7⟩; have d7 : D3 w.heap.size L1 H1 (w.heap.size + 1) L2 H2 (w.heap.size + 2) w7 := D3.up hb7 (by assumption)))
  have UB : Up w w6 := (by repeat (first | exact Up.refl _ | assumption | refine Up.drew ?_ | refine Up.drewN ?_ _ | refine Up.alloc ?_ _ | refine Up.setCell ?_ ?_ _ | exact Nat.le_refl _ | exact Nat.le_add_right _ _ | (dsimp only; omega) | refine Up.trans ?_ ‹Up _ _›))
  have hS : D3 w.heap.size L1 H1 (w.heap.size + 1) L2 H2 (w.heap.size + 2) w6 := by assumption
  clear d5 d6 hb5 hb6
  refine wp_region_noPanic ?_
  refine wp_region_held_drew (S := D3 w.heap.size L1 H1 (w.heap.size + 1) L2 H2 (w.heap.size + 2)) (by kernel_rfl) ?_ (fun hHeld => ?_)
  · exact D3.up ((Up.refl _).drew) hS
  (try simp only [Act.put]); (try simp only [List.setIfInBounds_toArray]); (try simp only [List.set_cons_succ]); (try simp only [List.set_cons_zero])
  clear hHeld
  refine wpAnyH_take (i := 0) (oi := { dst := some 12, op := Op.fieldAddr 64 (Operand.tmp 2) 1, type := 0, pos := "ref.go:88", after := #[], guard := none }) (v := ?vk69) rfl (by kernel_rfl) (by kernel_rfl) (by kernel_rfl) (fun _ _ _ h => h) (Or.inl ⟨by rfl, ?hk69⟩) (D3.up ((Up.refl w6).drew) hS) ?rk69
  case hk69 => (intro wz hSw; (try dsimp only at hSw); go_simp; try with_reducible rfl)
  (try simp only [Act.put]); (try simp only [List.setIfInBounds_toArray]); (try simp only [List.set_cons_succ]); (try simp only [List.set_cons_zero])
  refine wpAnyH_take (i := 1) (oi := { dst := some 13, op := Op.load 62 (Operand.tmp 12), type := 62, pos := "ref.go:88", after := #[{ on := 0, ground := Ground.data }], guard := none }) (v := ?vk70) rfl (by kernel_rfl) (by kernel_rfl) (by kernel_rfl) (fun _ _ _ h => h) (Or.inl ⟨by rfl, ?hk70⟩) (D3.up ((Up.refl w6).drew) hS) ?rk70
  case hk70 => (intro wz hSw; (try dsimp only at hSw); go_simp; try with_reducible rfl)
  (try simp only [Act.put]); (try simp only [List.setIfInBounds_toArray]); (try simp only [List.set_cons_succ]); (try simp only [List.set_cons_zero])
  refine wpAnyH_take (i := 3) (oi := { dst := some 15, op := Op.fieldAddr 64 (Operand.tmp 3) 0, type := 0, pos := "ref.go:88", after := #[], guard := none }) (v := ?vk71) rfl (by kernel_rfl) (by kernel_rfl) (by kernel_rfl) (fun _ _ _ h => h) (Or.inl ⟨by rfl, ?hk71⟩) (D3.up ((Up.refl w6).drew) hS) ?rk71
  case hk71 => (intro wz hSw; (try dsimp only at hSw); go_simp; try with_reducible rfl)
  (try simp only [Act.put]); (try simp only [List.setIfInBounds_toArray]); (try simp only [List.set_cons_succ]); (try simp only [List.set_cons_zero])
  refine wpAnyH_take (i := 4) (oi := { dst := some 16, op := Op.load 62 (Operand.tmp 15), type := 62, pos := "ref.go:88", after := #[{ on := 3, ground := Ground.data }], guard := none }) (v := ?vk72) rfl (by kernel_rfl) (by kernel_rfl) (by kernel_rfl) (fun _ _ _ h => h) (Or.inl ⟨by rfl, ?hk72⟩) (D3.up ((Up.refl w6).drew) hS) ?rk72
  case hk72 => (intro wz hSw; (try dsimp only at hSw); go_simp; try with_reducible rfl)
  (try simp only [Act.put]); (try simp only [List.setIfInBounds_toArray]); (try simp only [List.set_cons_succ]); (try simp only [List.set_cons_zero])
  refine wpAnyH_ready (rs := [2]) (by kernel_rfl) (by simp) ?_
  refine AllReadyH.cons (o := { dst := some 14, op := Op.call { callee := Callee.value (Operand.func 89), args := #[Operand.tmp 13], argTypes := #[62] }, type := 62, pos := "ref.go:88", after := #[{ on := 1, ground := Ground.data }], guard := none }) rfl (fun K hK => ?_) AllReadyH.nil
  refine wantCall1 ?_ 89 (.tmp 13) #[62] ?_ (.int .u64 (H1 : Nat)) ?_ ?_ (ent_next _ _) ?_
  · rfl
  · rfl
  · rfl
  · rfl
  refine (HN1.out _).mono ?_
  rintro o x73 ⟨rfl, b73⟩
  refine ⟨_, rfl, ?_⟩
  have U73 := ((Up.refl w6).drew).trans b73
  refine hK.out _ _ (D3.up U73 hS) (fun _ => ?_)
  clear hK K
  (try simp only [Act.put]); (try simp only [List.setIfInBounds_toArray]); (try simp only [List.set_cons_succ]); (try simp only [List.set_cons_zero])
  refine wpAnyH_take (i := 5) (oi := { dst := some 17, op := Op.binOp BinOp.lss 62 (Operand.tmp 14) (Operand.tmp 16) 62, type := 4, pos := "ref.go:88", after := #[{ on := 2, ground := Ground.data }, { on := 4, ground := Ground.data }], guard := none }) (v := ?vk74) rfl (by kernel_rfl) (by kernel_rfl) (by kernel_rfl) (fun _ _ _ h => h) (Or.inl ⟨by rfl, ?hk74⟩) (D3.up U73 hS) ?rk74
  case hk74 => (intro wz hSw; (try dsimp only at hSw); go_simp; try with_reducible rfl)
  (try simp only [Act.put]); (try simp only [List.setIfInBounds_toArray]); (try simp only [List.set_cons_succ]); (try simp only [List.set_cons_zero])
  refine wpAnyH_take (i := 6) (oi := { dst := some 18, op := Op.move (Operand.tmp 17), type := 4, pos := "ref.go:88", after := #[{ on := 5, ground := Ground.data }, { on := 2, ground := Ground.chain }], guard := none }) (v := ?vk75) rfl (by kernel_rfl) (by kernel_rfl) (by kernel_rfl) (fun _ _ _ h => h) (Or.inl ⟨by rfl, ?hk75⟩) (D3.up U73 hS) ?rk75
  case hk75 => (intro wz hSw; (try dsimp only at hSw); go_simp; try with_reducible rfl)
  (try simp only [Act.put]); (try simp only [List.setIfInBounds_toArray]); (try simp only [List.set_cons_succ]); (try simp only [List.set_cons_zero])
  refine wpAnyH_take (i := 7) (oi := { dst := some 19, op := Op.fieldAddr 64 (Operand.tmp 3) 1, type := 0, pos := "ref.go:88", after := #[{ on := 6, ground := Ground.guard }], guard := some (6, false) }) (v := ?vk76) rfl (by kernel_rfl) (by kernel_rfl) (by kernel_rfl) (fun _ _ _ h => h) (Or.inl ⟨by rfl, ?hk76⟩) (D3.up U73 hS) ?rk76
  case hk76 => (intro wz hSw; (try dsimp only at hSw); go_simp; try with_reducible rfl)
  (try simp only [Act.put]); (try simp only [List.setIfInBounds_toArray]); (try simp only [List.set_cons_succ]); (try simp only [List.set_cons_zero])
  refine wpAnyH_take (i := 8) (oi := { dst := some 20, op := Op.load 62 (Operand.tmp 19), type := 62, pos := "ref.go:88", after := #[{ on := 7, ground := Ground.data }, { on := 6, ground := Ground.guard }], guard := some (6, false) }) (v := ?vk77) rfl (by kernel_rfl) (by kernel_rfl) (by kernel_rfl) (fun _ _ _ h => h) (Or.inl ⟨by rfl, ?hk77⟩) (D3.up U73 hS) ?rk77
  case hk77 => (intro wz hSw; (try dsimp only at hSw); go_simp; try with_reducible rfl)
  (try simp only [Act.put]); (try simp only [List.setIfInBounds_toArray]); (try simp only [List.set_cons_succ]); (try simp only [List.set_cons_zero])
  refine wpAnyH_take (i := 10) (oi := { dst := some 22, op := Op.fieldAddr 64 (Operand.tmp 2) 0, type := 0, pos := "ref.go:88", after := #[{ on := 6, ground := Ground.guard }], guard := some (6, false) }) (v := ?vk78) rfl (by kernel_rfl) (by kernel_rfl) (by kernel_rfl) (fun _ _ _ h => h) (Or.inl ⟨by rfl, ?hk78⟩) (D3.up U73 hS) ?rk78
  case hk78 => (intro wz hSw; (try dsimp only at hSw); go_simp; try with_reducible rfl)
  (try simp only [Act.put]); (try simp only [List.setIfInBounds_toArray]); (try simp only [List.set_cons_succ]); (try simp only [List.set_cons_zero])
  refine wpAnyH_take (i := 11) (oi := { dst := some 23, op := Op.load 62 (Operand.tmp 22), type := 62, pos := "ref.go:88", after := #[{ on := 10, ground := Ground.data }, { on := 6, ground := Ground.guard }], guard := some (6, false) }) (v := ?vk79) rfl (by kernel_rfl) (by kernel_rfl) (by kernel_rfl) (fun _ _ _ h => h) (Or.inl ⟨by rfl, ?hk79⟩) (D3.up U73 hS) ?rk79
  case hk79 => (intro wz hSw; (try dsimp only at hSw); go_simp; try with_reducible rfl)
  (try simp only [Act.put]); (try simp only [List.setIfInBounds_toArray]); (try simp only [List.set_cons_succ]); (try simp only [List.set_cons_zero])
  refine wpAnyH_ready (rs := [9]) (by kernel_rfl) (by simp) ?_
  refine AllReadyH.cons (o := { dst := some 21, op := Op.call { callee := Callee.value (Operand.func 89), args := #[Operand.tmp 20], argTypes := #[62] }, type := 62, pos := "ref.go:88", after := #[{ on := 8, ground := Ground.data }, { on := 6, ground := Ground.chain }, { on := 6, ground := Ground.guard }], guard := some (6, false) }) rfl (fun K hK => ?_) AllReadyH.nil
  refine wantCall1 ?_ 89 (.tmp 20) #[62] ?_ (.int .u64 (H2 : Nat)) ?_ ?_ (ent_next _ _) ?_
  · rfl
  · rfl
  · rfl
  · rfl
  refine (HN2.out _).mono ?_
  rintro o x80 ⟨rfl, b80⟩
  refine ⟨_, rfl, ?_⟩
  have U80 := U73.trans b80
  refine hK.out _ _ (D3.up U80 hS) (fun _ => ?_)
  clear hK K
  (try simp only [Act.put]); (try simp only [List.setIfInBounds_toArray]); (try simp only [List.set_cons_succ]); (try simp only [List.set_cons_zero])
  refine wpAnyH_take (i := 12) (oi := { dst := some 24, op := Op.binOp BinOp.lss 62 (Operand.tmp 21) (Operand.tmp 23) 62, type := 4, pos := "ref.go:88", after := #[{ on := 9, ground := Ground.data }, { on := 11, ground := Ground.data }, { on := 6, ground := Ground.guard }], guard := some (6, false) }) (v := ?vk81) rfl (by kernel_rfl) (by kernel_rfl) (by kernel_rfl) (fun _ _ _ h => h) (Or.inl ⟨by rfl, ?hk81⟩) (D3.up U80 hS) ?rk81
  case hk81 => (intro wz hSw; (try dsimp only at hSw); go_simp; try with_reducible rfl)
  (try simp only [Act.put]); (try simp only [List.setIfInBounds_toArray]); (try simp only [List.set_cons_succ]); (try simp only [List.set_cons_zero])
  refine wpAnyH_take (i := 13) (oi := { dst := some 25, op := Op.pick (Operand.tmp 18) (Operand.const (Value.bool true)) (Operand.tmp 24), type := 4, pos := "ref.go:88", after := #[{ on := 6, ground := Ground.data }, { on := 12, ground := Ground.data }], guard := none }) (v := ?vk82) rfl (by kernel_rfl) (by kernel_rfl) (by kernel_rfl) (fun _ _ _ h => h) (Or.inl ⟨by rfl, ?hk82⟩) (D3.up U80 hS) ?rk82
  case hk82 => (intro wz hSw; (try dsimp only at hSw); go_simp; try with_reducible rfl)
  (try simp only [Act.put]); (try simp only [List.setIfInBounds_toArray]); (try simp only [List.set_cons_succ]); (try simp only [List.set_cons_zero])
  refine wpAnyH_done (by kernel_rfl) ?_ _
  refine NoPanic.normal ?_
  have UX : Up w x80 := UB.trans U80
  have hX : D3 w.heap.size L1 H1 (w.heap.size + 1) L2 H2 (w.heap.size + 2) x80 := D3.up U80 hS
  generalize x80 = wx at UX hX ⊢
  go_wp2_with (first | (go_at_call_of 38 (Value.int IntKind.u64 (H1 : Nat)); refine (HE1.out _).mono ?_; rintro o w5 ⟨rfl, hb5⟩; have d5 : D3 w.heap.size L1 H1 (w.heap.size + 1) L2 H2 (w.heap.size + 2) w5 := D3.up hb5 (by first | assumption | (simp [D3, RgAt, go_sem]; done))) | (go_at_call_of 38 (Value.int IntKind.u64 (H2 : Nat)); refine (HE2.out _).mono ?_; rintro o w6 ⟨rfl, hb6⟩; have d6 : D3 w.heap.size L1 H1 (w.heap.size + 1) L2 H2 (w.heap.size + 2) w6 := D3.up hb6 (by first | assumption | (simp [D3, RgAt, go_sem]; done))) | (go_at_call 64; refine (rnone_any _).mono ?_; rintro o w7 ⟨rfl, hb7⟩; have d7 : D3 w.heap.size L1 H1 (w.heap.size + 1) L2 H2 (w.heap.size + 2) w7 := D3.up hb7 (by assumption)))
  all_goals exact bodyPost_ret (v := .tuple #[.agg #[.int .u64 1, .int .u64 0], .bool false]) (by simp [results, Tryz.results72, go_sem, *]) rfl ⟨rfl, (by repeat (first | exact Up.refl _ | assumption | refine Up.drew ?_ | refine Up.drewN ?_ _ | refine Up.alloc ?_ _ | refine Up.setCell ?_ ?_ _ | exact Nat.le_refl _ | exact Nat.le_add_right _ _ | (dsimp only; omega) | refine Up.trans ?_ ‹Up _ _›))⟩
set_option maxHeartbeats 2000000 in
set_option maxRecDepth 20000 in
theorem rJoin_k11 (L1 H1 L2 H2 N1 N2 : Nat) (w1 : Fl.W L1) (w2 : Fl.W H1) (w3 : Fl.W L2) (w4 : Fl.W H2) (w5 : Fl.W N1) (w6 : Fl.W N2) (h1 : ¬ N1 < L2) (h2 : ¬ N2 < L1) (h3 : L2 < L1) (h4 : H1 < H2) (HE1 : Hid (∀ w, Calls Tryz.prog 38 #[.agg #[.int .u64 (L1 : Nat), .int .u64 (H1 : Nat)]] w fun o w' => o = .returned (.bool false) ∧ Up w w')) (HE2 : Hid (∀ w, Calls Tryz.prog 38 #[.agg #[.int .u64 (L2 : Nat), .int .u64 (H2 : Nat)]] w fun o w' => o = .returned (.bool false) ∧ Up w w')) (HN1 : Hid (∀ w, Calls Tryz.prog 89 #[.int .u64 (H1 : Nat)] w fun o w' => o = .returned (.int .u64 (N1 : Nat)) ∧ Up w w')) (HN2 : Hid (∀ w, Calls Tryz.prog 89 #[.int .u64 (H2 : Nat)] w fun o w' => o = .returned (.int .u64 (N2 : Nat)) ∧ Up w w')) (w : World) :
    Calls Tryz.prog 72 #[.agg #[.int .u64 (L1 : Nat), .int .u64 (H1 : Nat)], .agg #[.int .u64 (L2 : Nat), .int .u64 (H2 : Nat)]] w fun o w' => o = .returned (.tuple #[.agg #[.int .u64 (L2 : Nat), .int .u64 (H2 : Nat)], .bool true]) ∧ Up w w' := by
  have aN1L2 : decide (N1 < L2) = false := by simp; omega
  have bN1L2 : decide ((N1 : Int) < (L2 : Int)) = false := by simp; omega
  have aN2L1 : decide (N2 < L1) = false := by simp; omega
  have bN2L1 : decide ((N2 : Int) < (L1 : Int)) = false := by simp; omega
  have aL2L1 : decide (L2 < L1) = true := by simp; omega
  have bL2L1 : decide ((L2 : Int) < (L1 : Int)) = true := by simp; omega
  have aH1H2 : decide (H1 < H2) = true := by simp; omega
  have bH1H2 : decide ((H1 : Int) < (H2 : Int)) = true := by simp; omega
  clear w1 w2 w3 w4 w5 w6
  go_enter Tryz.func72, Tryz.ntmps72
  go_upto_region 5 with (first | (go_at_call_of 38 (Value.int IntKind.u64 (H1 : Nat)); refine (HE1.out _).mono ?_; rintro o w5 ⟨rfl, hb5⟩; have d5 : D3 w.heap.size L1 H1 (w.heap.size + 1) L2 H2 (w.heap.size + 2) w5 := D3.up hb5 (by first | assumption | (simp [D3, RgAt, go_sem]; done))) | (go_at_call_of 38 (Value.int IntKind.u64 (H2 : Nat)); refine (HE2.out _).mono ?_; rintro o w6 ⟨rfl, hb6⟩; have d6 : D3 w.heap.size L1 H1 (w.heap.size + 1) L2 H2 (w.heap.size + 2) w6 := D3.up hb6 (by first | assumption | (simp [D3, RgAt, go_sem]; done))) | (go_at_call 64; refine (rnone_any _).mono ?_; rintro o w7 ⟨rfl, hb7⟩; have d7 : D3 w.heap.size L1 H1 (w.heap.size + 1) L2 H2 (w.heap.size + 2) w7 := D3.up hb7 (by assumption)))
  have UB : Up w w6 := (by repeat (first | exact Up.refl _ | assumption | refine Up.drew ?_ | refine Up.drewN ?_ _ | refine Up.alloc ?_ _ | refine Up.setCell ?_ ?_ _ | exact Nat.le_refl _ | exact Nat.le_add_right _ _ | (dsimp only; omega) | refine Up.trans ?_ ‹Up _ _›))
  have hS : D3 w.heap.size L1 H1 (w.heap.size + 1) L2 H2 (w.heap.size + 2) w6 := by assumption
  clear d5 d6 hb5 hb6
  refine wp_region_noPanic ?_
  refine wp_region_held_drew (S := D3 w.heap.size L1 H1 (w.heap.size + 1) L2 H2 (w.heap.size + 2)) (by kernel_rfl) ?_ (fun hHeld => ?_)
  · exact D3.up ((Up.refl _).drew) hS
  (try simp only [Act.put]); (try simp only [List.setIfInBounds_toArray]); (try simp only [List.set_cons_succ]); (try simp only [List.set_cons_zero])
  clear hHeld
  refine wpAnyH_take (i := 0) (oi := { dst := some 12, op := Op.fieldAddr 64 (Operand.tmp 2) 1, type := 0, pos := "ref.go:88", after := #[], guard := none }) (v := ?vk83) rfl (by kernel_rfl) (by kernel_rfl) (by kernel_rfl) (fun _ _ _ h => h) (Or.inl ⟨by rfl, ?hk83⟩) (D3.up ((Up.refl w6).drew) hS) ?rk83
  case hk83 => (intro wz hSw; (try dsimp only at hSw); go_simp; try with_reducible rfl)
  (try simp only [Act.put]); (try simp only [List.setIfInBounds_toArray]); (try simp only [List.set_cons_succ]); (try simp only [List.set_cons_zero])
  refine wpAnyH_take (i := 1) (oi := { dst := some 13, op := Op.load 62 (Operand.tmp 12), type := 62, pos := "ref.go:88", after := #[{ on := 0, ground := Ground.data }], guard := none }) (v := ?vk84) rfl (by kernel_rfl) (by kernel_rfl) (by kernel_rfl) (fun _ _ _ h => h) (Or.inl ⟨by rfl, ?hk84⟩) (D3.up ((Up.refl w6).drew) hS) ?rk84
  case hk84 => (intro wz hSw; (try dsimp only at hSw); go_simp; try with_reducible rfl)
  (try simp only [Act.put]); (try simp only [List.setIfInBounds_toArray]); (try simp only [List.set_cons_succ]); (try simp only [List.set_cons_zero])
  refine wpAnyH_take (i := 3) (oi := { dst := some 15, op := Op.fieldAddr 64 (Operand.tmp 3) 0, type := 0, pos := "ref.go:88", after := #[], guard := none }) (v := ?vk85) rfl (by kernel_rfl) (by kernel_rfl) (by kernel_rfl) (fun _ _ _ h => h) (Or.inl ⟨by rfl, ?hk85⟩) (D3.up ((Up.refl w6).drew) hS) ?rk85
  case hk85 => (intro wz hSw; (try dsimp only at hSw); go_simp; try with_reducible rfl)
  (try simp only [Act.put]); (try simp only [List.setIfInBounds_toArray]); (try simp only [List.set_cons_succ]); (try simp only [List.set_cons_zero])
  refine wpAnyH_take (i := 4) (oi := { dst := some 16, op := Op.load 62 (Operand.tmp 15), type := 62, pos := "ref.go:88", after := #[{ on := 3, ground := Ground.data }], guard := none }) (v := ?vk86) rfl (by kernel_rfl) (by kernel_rfl) (by kernel_rfl) (fun _ _ _ h => h) (Or.inl ⟨by rfl, ?hk86⟩) (D3.up ((Up.refl w6).drew) hS) ?rk86
  case hk86 => (intro wz hSw; (try dsimp only at hSw); go_simp; try with_reducible rfl)
  (try simp only [Act.put]); (try simp only [List.setIfInBounds_toArray]); (try simp only [List.set_cons_succ]); (try simp only [List.set_cons_zero])
  refine wpAnyH_ready (rs := [2]) (by kernel_rfl) (by simp) ?_
  refine AllReadyH.cons (o := { dst := some 14, op := Op.call { callee := Callee.value (Operand.func 89), args := #[Operand.tmp 13], argTypes := #[62] }, type := 62, pos := "ref.go:88", after := #[{ on := 1, ground := Ground.data }], guard := none }) rfl (fun K hK => ?_) AllReadyH.nil
  refine wantCall1 ?_ 89 (.tmp 13) #[62] ?_ (.int .u64 (H1 : Nat)) ?_ ?_ (ent_next _ _) ?_
  · rfl
  · rfl
  · rfl
  · rfl
  refine (HN1.out _).mono ?_
  rintro o x87 ⟨rfl, b87⟩
  refine ⟨_, rfl, ?_⟩
  have U87 := ((Up.refl w6).drew).trans b87
  refine hK.out _ _ (D3.up U87 hS) (fun _ => ?_)
  clear hK K
  (try simp only [Act.put]); (try simp only [List.setIfInBounds_toArray]); (try simp only [List.set_cons_succ]); (try simp only [List.set_cons_zero])
  refine wpAnyH_take (i := 5) (oi := { dst := some 17, op := Op.binOp BinOp.lss 62 (Operand.tmp 14) (Operand.tmp 16) 62, type := 4, pos := "ref.go:88", after := #[{ on := 2, ground := Ground.data }, { on := 4, ground := Ground.data }], guard := none }) (v := ?vk88) rfl (by kernel_rfl) (by kernel_rfl) (by kernel_rfl) (fun _ _ _ h => h) (Or.inl ⟨by rfl, ?hk88⟩) (D3.up U87 hS) ?rk88
  case hk88 => (intro wz hSw; (try dsimp only at hSw); go_simp; try with_reducible rfl)
  (try simp only [Act.put]); (try simp only [List.setIfInBounds_toArray]); (try simp only [List.set_cons_succ]); (try simp only [List.set_cons_zero])
  refine wpAnyH_take (i := 6) (oi := { dst := some 18, op := Op.move (Operand.tmp 17), type := 4, pos := "ref.go:88", after := #[{ on := 5, ground := Ground.data }, { on := 2, ground := Ground.chain }], guard := none }) (v := ?vk89) rfl (by kernel_rfl) (by kernel_rfl) (by kernel_rfl) (fun _ _ _ h => h) (Or.inl ⟨by rfl, ?hk89⟩) (D3.up U87 hS) ?rk89
  case hk89 => (intro wz hSw; (try dsimp only at hSw); go_simp; try with_reducible rfl)
  (try simp only [Act.put]); (try simp only [List.setIfInBounds_toArray]); (try simp only [List.set_cons_succ]); (try simp only [List.set_cons_zero])
  refine wpAnyH_take (i := 7) (oi := { dst := some 19, op := Op.fieldAddr 64 (Operand.tmp 3) 1, type := 0, pos := "ref.go:88", after := #[{ on := 6, ground := Ground.guard }], guard := some (6, false) }) (v := ?vk90) rfl (by kernel_rfl) (by kernel_rfl) (by kernel_rfl) (fun _ _ _ h => h) (Or.inl ⟨by rfl, ?hk90⟩) (D3.up U87 hS) ?rk90
  case hk90 => (intro wz hSw; (try dsimp only at hSw); go_simp; try with_reducible rfl)
  (try simp only [Act.put]); (try simp only [List.setIfInBounds_toArray]); (try simp only [List.set_cons_succ]); (try simp only [List.set_cons_zero])
  refine wpAnyH_take (i := 8) (oi := { dst := some 20, op := Op.load 62 (Operand.tmp 19), type := 62, pos := "ref.go:88", after := #[{ on := 7, ground := Ground.data }, { on := 6, ground := Ground.guard }], guard := some (6, false) }) (v := ?vk91) rfl (by kernel_rfl) (by kernel_rfl) (by kernel_rfl) (fun _ _ _ h => h) (Or.inl ⟨by rfl, ?hk91⟩) (D3.up U87 hS) ?rk91
  case hk91 => (intro wz hSw; (try dsimp only at hSw); go_simp; try with_reducible rfl)
  (try simp only [Act.put]); (try simp only [List.setIfInBounds_toArray]); (try simp only [List.set_cons_succ]); (try simp only [List.set_cons_zero])
  refine wpAnyH_take (i := 10) (oi := { dst := some 22, op := Op.fieldAddr 64 (Operand.tmp 2) 0, type := 0, pos := "ref.go:88", after := #[{ on := 6, ground := Ground.guard }], guard := some (6, false) }) (v := ?vk92) rfl (by kernel_rfl) (by kernel_rfl) (by kernel_rfl) (fun _ _ _ h => h) (Or.inl ⟨by rfl, ?hk92⟩) (D3.up U87 hS) ?rk92
  case hk92 => (intro wz hSw; (try dsimp only at hSw); go_simp; try with_reducible rfl)
  (try simp only [Act.put]); (try simp only [List.setIfInBounds_toArray]); (try simp only [List.set_cons_succ]); (try simp only [List.set_cons_zero])
  refine wpAnyH_take (i := 11) (oi := { dst := some 23, op := Op.load 62 (Operand.tmp 22), type := 62, pos := "ref.go:88", after := #[{ on := 10, ground := Ground.data }, { on := 6, ground := Ground.guard }], guard := some (6, false) }) (v := ?vk93) rfl (by kernel_rfl) (by kernel_rfl) (by kernel_rfl) (fun _ _ _ h => h) (Or.inl ⟨by rfl, ?hk93⟩) (D3.up U87 hS) ?rk93
  case hk93 => (intro wz hSw; (try dsimp only at hSw); go_simp; try with_reducible rfl)
  (try simp only [Act.put]); (try simp only [List.setIfInBounds_toArray]); (try simp only [List.set_cons_succ]); (try simp only [List.set_cons_zero])
  refine wpAnyH_ready (rs := [9]) (by kernel_rfl) (by simp) ?_
  refine AllReadyH.cons (o := { dst := some 21, op := Op.call { callee := Callee.value (Operand.func 89), args := #[Operand.tmp 20], argTypes := #[62] }, type := 62, pos := "ref.go:88", after := #[{ on := 8, ground := Ground.data }, { on := 6, ground := Ground.chain }, { on := 6, ground := Ground.guard }], guard := some (6, false) }) rfl (fun K hK => ?_) AllReadyH.nil
  refine wantCall1 ?_ 89 (.tmp 20) #[62] ?_ (.int .u64 (H2 : Nat)) ?_ ?_ (ent_next _ _) ?_
  · rfl
  · rfl
  · rfl
  · rfl
  refine (HN2.out _).mono ?_
  rintro o x94 ⟨rfl, b94⟩
  refine ⟨_, rfl, ?_⟩
  have U94 := U87.trans b94
  refine hK.out _ _ (D3.up U94 hS) (fun _ => ?_)
  clear hK K
  (try simp only [Act.put]); (try simp only [List.setIfInBounds_toArray]); (try simp only [List.set_cons_succ]); (try simp only [List.set_cons_zero])
  refine wpAnyH_take (i := 12) (oi := { dst := some 24, op := Op.binOp BinOp.lss 62 (Operand.tmp 21) (Operand.tmp 23) 62, type := 4, pos := "ref.go:88", after := #[{ on := 9, ground := Ground.data }, { on := 11, ground := Ground.data }, { on := 6, ground := Ground.guard }], guard := some (6, false) }) (v := ?vk95) rfl (by kernel_rfl) (by kernel_rfl) (by kernel_rfl) (fun _ _ _ h => h) (Or.inl ⟨by rfl, ?hk95⟩) (D3.up U94 hS) ?rk95
  case hk95 => (intro wz hSw; (try dsimp only at hSw); go_simp; try with_reducible rfl)
  (try simp only [Act.put]); (try simp only [List.setIfInBounds_toArray]); (try simp only [List.set_cons_succ]); (try simp only [List.set_cons_zero])
  refine wpAnyH_take (i := 13) (oi := { dst := some 25, op := Op.pick (Operand.tmp 18) (Operand.const (Value.bool true)) (Operand.tmp 24), type := 4, pos := "ref.go:88", after := #[{ on := 6, ground := Ground.data }, { on := 12, ground := Ground.data }], guard := none }) (v := ?vk96) rfl (by kernel_rfl) (by kernel_rfl) (by kernel_rfl) (fun _ _ _ h => h) (Or.inl ⟨by rfl, ?hk96⟩) (D3.up U94 hS) ?rk96
  case hk96 => (intro wz hSw; (try dsimp only at hSw); go_simp; try with_reducible rfl)
  (try simp only [Act.put]); (try simp only [List.setIfInBounds_toArray]); (try simp only [List.set_cons_succ]); (try simp only [List.set_cons_zero])
  refine wpAnyH_done (by kernel_rfl) ?_ _
  refine NoPanic.normal ?_
  have UX : Up w x94 := UB.trans U94
  have hX : D3 w.heap.size L1 H1 (w.heap.size + 1) L2 H2 (w.heap.size + 2) x94 := D3.up U94 hS
  generalize x94 = wx at UX hX ⊢
  go_wp2_with (first | (go_at_call_of 38 (Value.int IntKind.u64 (H1 : Nat)); refine (HE1.out _).mono ?_; rintro o w5 ⟨rfl, hb5⟩; have d5 : D3 w.heap.size L1 H1 (w.heap.size + 1) L2 H2 (w.heap.size + 2) w5 := D3.up hb5 (by first | assumption | (simp [D3, RgAt, go_sem]; done))) | (go_at_call_of 38 (Value.int IntKind.u64 (H2 : Nat)); refine (HE2.out _).mono ?_; rintro o w6 ⟨rfl, hb6⟩; have d6 : D3 w.heap.size L1 H1 (w.heap.size + 1) L2 H2 (w.heap.size + 2) w6 := D3.up hb6 (by first | assumption | (simp [D3, RgAt, go_sem]; done))) | (go_at_call 64; refine (rnone_any _).mono ?_; rintro o w7 ⟨rfl, hb7⟩; have d7 : D3 w.heap.size L1 H1 (w.heap.size + 1) L2 H2 (w.heap.size + 2) w7 := D3.up hb7 (by assumption)))
  all_goals exact bodyPost_ret (v := .tuple #[.agg #[.int .u64 (L2 : Nat), .int .u64 (H2 : Nat)], .bool true]) (by simp [results, Tryz.results72, go_sem, *]) rfl ⟨rfl, (by repeat (first | exact Up.refl _ | assumption | refine Up.drew ?_ | refine Up.drewN ?_ _ | refine Up.alloc ?_ _ | refine Up.setCell ?_ ?_ _ | exact Nat.le_refl _ | exact Nat.le_add_right _ _ | (dsimp only; omega) | refine Up.trans ?_ ‹Up _ _›))⟩
set_option maxHeartbeats 2000000 in
set_option maxRecDepth 20000 in
theorem rJoin_k10 (L1 H1 L2 H2 N1 N2 : Nat) (w1 : Fl.W L1) (w2 : Fl.W H1) (w3 : Fl.W L2) (w4 : Fl.W H2) (w5 : Fl.W N1) (w6 : Fl.W N2) (h1 : ¬ N1 < L2) (h2 : ¬ N2 < L1) (h3 : L2 < L1) (h4 : ¬ H1 < H2) (HE1 : Hid (∀ w, Calls Tryz.prog 38 #[.agg #[.int .u64 (L1 : Nat), .int .u64 (H1 : Nat)]] w fun o w' => o = .returned (.bool false) ∧ Up w w')) (HE2 : Hid (∀ w, Calls Tryz.prog 38 #[.agg #[.int .u64 (L2 : Nat), .int .u64 (H2 : Nat)]] w fun o w' => o = .returned (.bool false) ∧ Up w w')) (HN1 : Hid (∀ w, Calls Tryz.prog 89 #[.int .u64 (H1 : Nat)] w fun o w' => o = .returned (.int .u64 (N1 : Nat)) ∧ Up w w')) (HN2 : Hid (∀ w, Calls Tryz.prog 89 #[.int .u64 (H2 : Nat)] w fun o w' => o = .returned (.int .u64 (N2 : Nat)) ∧ Up w w')) (w : World) :
    Calls Tryz.prog 72 #[.agg #[.int .u64 (L1 : Nat), .int .u64 (H1 : Nat)], .agg #[.int .u64 (L2 : Nat), .int .u64 (H2 : Nat)]] w fun o w' => o = .returned (.tuple #[.agg #[.int .u64 (L2 : Nat), .int .u64 (H1 : Nat)], .bool true]) ∧ Up w w' := by
  have aN1L2 : decide (N1 < L2) = false := by simp; omega
  have bN1L2 : decide ((N1 : Int) < (L2 : Int)) = false := by simp; omega
  have aN2L1 : decide (N2 < L1) = false := by simp; omega
  have bN2L1 : decide ((N2 : Int) < (L1 : Int)) = false := by simp; omega
  have aL2L1 : decide (L2 < L1) = true := by simp; omega
  have bL2L1 : decide ((L2 : Int) < (L1 : Int)) = true := by simp; omega
  have aH1H2 : decide (H1 < H2) = false := by simp; omega
  have bH1H2 : decide ((H1 : Int) < (H2 : Int)) = false := by simp; omega
  clear w1 w2 w3 w4 w5 w6
  go_enter Tryz.func72, Tryz.ntmps72
  go_upto_region 5 with (first | (go_at_call_of 38 (Value.int IntKind.u64 (H1 : Nat)); refine (HE1.out _).mono ?_; rintro o w5 ⟨rfl, hb5⟩; have d5 : D3 w.heap.size L1 H1 (w.heap.size + 1) L2 H2 (w.heap.size + 2) w5 := D3.up hb5 (by first | assumption | (simp [D3, RgAt, go_sem]; done))) | (go_at_call_of 38 (Value.int IntKind.u64 (H2 : Nat)); refine (HE2.out _).mono ?_; rintro o w6 ⟨rfl, hb6⟩; have d6 : D3 w.heap.size L1 H1 (w.heap.size + 1) L2 H2 (w.heap.size + 2) w6 := D3.up hb6 (by first | assumption | (simp [D3, RgAt, go_sem]; done))) | (go_at_call 64; refine (rnone_any _).mono ?_; rintro o w7 ⟨rfl, hb7⟩; have d7 : D3 w.heap.size L1 H1 (w.heap.size + 1) L2 H2 (w.heap.size + 2) w7 := D3.up hb7 (by assumption)))
  have UB : Up w w6 := (by repeat (first | exact Up.refl _ | assumption | refine Up.drew ?_ | refine Up.drewN ?_ _ | refine Up.alloc ?_ _ | refine Up.setCell ?_ ?_ _ | exact Nat.le_refl _ | exact Nat.le_add_right _ _ | (dsimp only; omega) | refine Up.trans ?_ ‹Up _ _›))
  have hS : D3 w.heap.size L1 H1 (w.heap.size + 1) L2 H2 (w.heap.size + 2) w6 := by assumption
  clear d5 d6 hb5 hb6
  refine wp_region_noPanic ?_
  refine wp_region_held_drew (S := D3 w.heap.size L1 H1 (w.heap.size + 1) L2 H2 (w.heap.size + 2)) (by kernel_rfl) ?_ (fun hHeld => ?_)
  · exact D3.up ((Up.refl _).drew) hS
  (try simp only [Act.put]); (try simp only [List.setIfInBounds_toArray]); (try simp only [List.set_cons_succ]); (try simp only [List.set_cons_zero])
  clear hHeld
  refine wpAnyH_take (i := 0) (oi := { dst := some 12, op := Op.fieldAddr 64 (Operand.tmp 2) 1, type := 0, pos := "ref.go:88", after := #[], guard := none }) (v := ?vk97) rfl (by kernel_rfl) (by kernel_rfl) (by kernel_rfl) (fun _ _ _ h => h) (Or.inl ⟨by rfl, ?hk97⟩) (D3.up ((Up.refl w6).drew) hS) ?rk97
  case hk97 => (intro wz hSw; (try dsimp only at hSw); go_simp; try with_reducible rfl)
  (try simp only [Act.put]); (try simp only [List.setIfInBounds_toArray]); (try simp only [List.set_cons_succ]); (try simp only [List.set_cons_zero])
  refine wpAnyH_take (i := 1) (oi := { dst := some 13, op := Op.load 62 (Operand.tmp 12), type := 62, pos := "ref.go:88", after := #[{ on := 0, ground := Ground.data }], guard := none }) (v := ?vk98) rfl (by kernel_rfl) (by kernel_rfl) (by kernel_rfl) (fun _ _ _ h => h) (Or.inl ⟨by rfl, ?hk98⟩) (D3.up ((Up.refl w6).drew) hS) ?rk98
  case hk98 => (intro wz hSw; (try dsimp only at hSw); go_simp; try with_reducible rfl)
  (try simp only [Act.put]); (try simp only [List.setIfInBounds_toArray]); (try simp only [List.set_cons_succ]); (try simp only [List.set_cons_zero])
  refine wpAnyH_take (i := 3) (oi := { dst := some 15, op := Op.fieldAddr 64 (Operand.tmp 3) 0, type := 0, pos := "ref.go:88", after := #[], guard := none }) (v := ?vk99) rfl (by kernel_rfl) (by kernel_rfl) (by kernel_rfl) (fun _ _ _ h => h) (Or.inl ⟨by rfl, ?hk99⟩) (D3.up ((Up.refl w6).drew) hS) ?rk99
  case hk99 => (intro wz hSw; (try dsimp only at hSw); go_simp; try with_reducible rfl)
  (try simp only [Act.put]); (try simp only [List.setIfInBounds_toArray]); (try simp only [List.set_cons_succ]); (try simp only [List.set_cons_zero])
  refine wpAnyH_take (i := 4) (oi := { dst := some 16, op := Op.load 62 (Operand.tmp 15), type := 62, pos := "ref.go:88", after := #[{ on := 3, ground := Ground.data }], guard := none }) (v := ?vk100) rfl (by kernel_rfl) (by kernel_rfl) (by kernel_rfl) (fun _ _ _ h => h) (Or.inl ⟨by rfl, ?hk100⟩) (D3.up ((Up.refl w6).drew) hS) ?rk100
  case hk100 => (intro wz hSw; (try dsimp only at hSw); go_simp; try with_reducible rfl)
  (try simp only [Act.put]); (try simp only [List.setIfInBounds_toArray]); (try simp only [List.set_cons_succ]); (try simp only [List.set_cons_zero])
  refine wpAnyH_ready (rs := [2]) (by kernel_rfl) (by simp) ?_
  refine AllReadyH.cons (o := { dst := some 14, op := Op.call { callee := Callee.value (Operand.func 89), args := #[Operand.tmp 13], argTypes := #[62] }, type := 62, pos := "ref.go:88", after := #[{ on := 1, ground := Ground.data }], guard := none }) rfl (fun K hK => ?_) AllReadyH.nil
  refine wantCall1 ?_ 89 (.tmp 13) #[62] ?_ (.int .u64 (H1 : Nat)) ?_ ?_ (ent_next _ _) ?_
  · rfl
  · rfl
  · rfl
  · rfl
  refine (HN1.out _).mono ?_
  rintro o x101 ⟨rfl, b101⟩
  refine ⟨_, rfl, ?_⟩
  have U101 := ((Up.refl w6).drew).trans b101
  refine hK.out _ _ (D3.up U101 hS) (fun _ => ?_)
  clear hK K
  (try simp only [Act.put]); (try simp only [List.setIfInBounds_toArray]); (try simp only [List.set_cons_succ]); (try simp only [List.set_cons_zero])
  refine wpAnyH_take (i := 5) (oi := { dst := some 17, op := Op.binOp BinOp.lss 62 (Operand.tmp 14) (Operand.tmp 16) 62, type := 4, pos := "ref.go:88", after := #[{ on := 2, ground := Ground.data }, { on := 4, ground := Ground.data }], guard := none }) (v := ?vk102) rfl (by kernel_rfl) (by kernel_rfl) (by kernel_rfl) (fun _ _ _ h => h) (Or.inl ⟨by rfl, ?hk102⟩) (D3.up U101 hS) ?rk102
  case hk102 => (intro wz hSw; (try dsimp only at hSw); go_simp; try with_reducible rfl)
  (try simp only [Act.put]); (try simp only [List.setIfInBounds_toArray]); (try simp only [List.set_cons_succ]); (try simp only [List.set_cons_zero])
  refine wpAnyH_take (i := 6) (oi := { dst := some 18, op := Op.move (Operand.tmp 17), type := 4, pos := "ref.go:88", after := #[{ on := 5, ground := Ground.data }, { on := 2, ground := Ground.chain }], guard := none }) (v := ?vk103) rfl (by kernel_rfl) (by kernel_rfl) (by kernel_rfl) (fun _ _ _ h => h) (Or.inl ⟨by rfl, ?hk103⟩) (D3.up U101 hS) ?rk103
  case hk103 => (intro wz hSw; (try dsimp only at hSw); go_simp; try with_reducible rfl)
  (try simp only [Act.put]); (try simp only [List.setIfInBounds_toArray]); (try simp only [List.set_cons_succ]); (try simp only [List.set_cons_zero])
  refine wpAnyH_take (i := 7) (oi := { dst := some 19, op := Op.fieldAddr 64 (Operand.tmp 3) 1, type := 0, pos := "ref.go:88", after := #[{ on := 6, ground := Ground.guard }], guard := some (6, false) }) (v := ?vk104) rfl (by kernel_rfl) (by kernel_rfl) (by kernel_rfl) (fun _ _ _ h => h) (Or.inl ⟨by rfl, ?hk104⟩) (D3.up U101 hS) ?rk104
  case hk104 => (intro wz hSw; (try dsimp only at hSw); go_simp; try with_reducible rfl)
  (try simp only [Act.put]); (try simp only [List.setIfInBounds_toArray]); (try simp only [List.set_cons_succ]); (try simp only [List.set_cons_zero])
  refine wpAnyH_take (i := 8) (oi := { dst := some 20, op := Op.load 62 (Operand.tmp 19), type := 62, pos := "ref.go:88", after := #[{ on := 7, ground := Ground.data }, { on := 6, ground := Ground.guard }], guard := some (6, false) }) (v := ?vk105) rfl (by kernel_rfl) (by kernel_rfl) (by kernel_rfl) (fun _ _ _ h => h) (Or.inl ⟨by rfl, ?hk105⟩) (D3.up U101 hS) ?rk105
  case hk105 => (intro wz hSw; (try dsimp only at hSw); go_simp; try with_reducible rfl)
  (try simp only [Act.put]); (try simp only [List.setIfInBounds_toArray]); (try simp only [List.set_cons_succ]); (try simp only [List.set_cons_zero])
  refine wpAnyH_take (i := 10) (oi := { dst := some 22, op := Op.fieldAddr 64 (Operand.tmp 2) 0, type := 0, pos := "ref.go:88", after := #[{ on := 6, ground := Ground.guard }], guard := some (6, false) }) (v := ?vk106) rfl (by kernel_rfl) (by kernel_rfl) (by kernel_rfl) (fun _ _ _ h => h) (Or.inl ⟨by rfl, ?hk106⟩) (D3.up U101 hS) ?rk106
  case hk106 => (intro wz hSw; (try dsimp only at hSw); go_simp; try with_reducible rfl)
  (try simp only [Act.put]); (try simp only [List.setIfInBounds_toArray]); (try simp only [List.set_cons_succ]); (try simp only [List.set_cons_zero])
  refine wpAnyH_take (i := 11) (oi := { dst := some 23, op := Op.load 62 (Operand.tmp 22), type := 62, pos := "ref.go:88", after := #[{ on := 10, ground := Ground.data }, { on := 6, ground := Ground.guard }], guard := some (6, false) }) (v := ?vk107) rfl (by kernel_rfl) (by kernel_rfl) (by kernel_rfl) (fun _ _ _ h => h) (Or.inl ⟨by rfl, ?hk107⟩) (D3.up U101 hS) ?rk107
  case hk107 => (intro wz hSw; (try dsimp only at hSw); go_simp; try with_reducible rfl)
  (try simp only [Act.put]); (try simp only [List.setIfInBounds_toArray]); (try simp only [List.set_cons_succ]); (try simp only [List.set_cons_zero])
  refine wpAnyH_ready (rs := [9]) (by kernel_rfl) (by simp) ?_
  refine AllReadyH.cons (o := { dst := some 21, op := Op.call { callee := Callee.value (Operand.func 89), args := #[Operand.tmp 20], argTypes := #[62] }, type := 62, pos := "ref.go:88", after := #[{ on := 8, ground := Ground.data }, { on := 6, ground := Ground.chain }, { on := 6, ground := Ground.guard }], guard := some (6, false) }) rfl (fun K hK => ?_) AllReadyH.nil
  refine wantCall1 ?_ 89 (.tmp 20) #[62] ?_ (.int .u64 (H2 : Nat)) ?_ ?_ (ent_next _ _) ?_
  · rfl
  · rfl
  · rfl
  · rfl
  refine (HN2.out _).mono ?_
  rintro o x108 ⟨rfl, b108⟩
  refine ⟨_, rfl, ?_⟩
  have U108 := U101.trans b108
  refine hK.out _ _ (D3.up U108 hS) (fun _ => ?_)
  clear hK K
  (try simp only [Act.put]); (try simp only [List.setIfInBounds_toArray]); (try simp only [List.set_cons_succ]); (try simp only [List.set_cons_zero])
  refine wpAnyH_take (i := 12) (oi := { dst := some 24, op := Op.binOp BinOp.lss 62 (Operand.tmp 21) (Operand.tmp 23) 62, type := 4, pos := "ref.go:88", after := #[{ on := 9, ground := Ground.data }, { on := 11, ground := Ground.data }, { on := 6, ground := Ground.guard }], guard := some (6, false) }) (v := ?vk109) rfl (by kernel_rfl) (by kernel_rfl) (by kernel_rfl) (fun _ _ _ h => h) (Or.inl ⟨by rfl, ?hk109⟩) (D3.up U108 hS) ?rk109
  case hk109 => (intro wz hSw; (try dsimp only at hSw); go_simp; try with_reducible rfl)
  (try simp only [Act.put]); (try simp only [List.setIfInBounds_toArray]); (try simp only [List.set_cons_succ]); (try simp only [List.set_cons_zero])
  refine wpAnyH_take (i := 13) (oi := { dst := some 25, op := Op.pick (Operand.tmp 18) (Operand.const (Value.bool true)) (Operand.tmp 24), type := 4, pos := "ref.go:88", after := #[{ on := 6, ground := Ground.data }, { on := 12, ground := Ground.data }], guard := none }) (v := ?vk110) rfl (by kernel_rfl) (by kernel_rfl) (by kernel_rfl) (fun _ _ _ h => h) (Or.inl ⟨by rfl, ?hk110⟩) (D3.up U108 hS) ?rk110
  case hk110 => (intro wz hSw; (try dsimp only at hSw); go_simp; try with_reducible rfl)
  (try simp only [Act.put]); (try simp only [List.setIfInBounds_toArray]); (try simp only [List.set_cons_succ]); (try simp only [List.set_cons_zero])
  refine wpAnyH_done (by kernel_rfl) ?_ _
  refine NoPanic.normal ?_
  have UX : Up w x108 := UB.trans U108
  have hX : D3 w.heap.size L1 H1 (w.heap.size + 1) L2 H2 (w.heap.size + 2) x108 := D3.up U108 hS
  generalize x108 = wx at UX hX ⊢
  go_wp2_with (first | (go_at_call_of 38 (Value.int IntKind.u64 (H1 : Nat)); refine (HE1.out _).mono ?_; rintro o w5 ⟨rfl, hb5⟩; have d5 : D3 w.heap.size L1 H1 (w.heap.size + 1) L2 H2 (w.heap.size + 2) w5 := D3.up hb5 (by first | assumption | (simp [D3, RgAt, go_sem]; done))) | (go_at_call_of 38 (Value.int IntKind.u64 (H2 : Nat)); refine (HE2.out _).mono ?_; rintro o w6 ⟨rfl, hb6⟩; have d6 : D3 w.heap.size L1 H1 (w.heap.size + 1) L2 H2 (w.heap.size + 2) w6 := D3.up hb6 (by first | assumption | (simp [D3, RgAt, go_sem]; done))) | (go_at_call 64; refine (rnone_any _).mono ?_; rintro o w7 ⟨rfl, hb7⟩; have d7 : D3 w.heap.size L1 H1 (w.heap.size + 1) L2 H2 (w.heap.size + 2) w7 := D3.up hb7 (by assumption)))
  all_goals exact bodyPost_ret (v := .tuple #[.agg #[.int .u64 (L2 : Nat), .int .u64 (H1 : Nat)], .bool true]) (by simp [results, Tryz.results72, go_sem, *]) rfl ⟨rfl, (by repeat (first | exact Up.refl _ | assumption | refine Up.drew ?_ | refine Up.drewN ?_ _ | refine Up.alloc ?_ _ | refine Up.setCell ?_ ?_ _ | exact Nat.le_refl _ | exact Nat.le_add_right _ _ | (dsimp only; omega) | refine Up.trans ?_ ‹Up _ _›))⟩
set_option maxHeartbeats 2000000 in
set_option maxRecDepth 20000 in
theorem rJoin_k01 (L1 H1 L2 H2 N1 N2 : Nat) (w1 : Fl.W L1) (w2 : Fl.W H1) (w3 : Fl.W L2) (w4 : Fl.W H2) (w5 : Fl.W N1) (w6 : Fl.W N2) (h1 : ¬ N1 < L2) (h2 : ¬ N2 < L1) (h3 : ¬ L2 < L1) (h4 : H1 < H2) (HE1 : Hid (∀ w, Calls Tryz.prog 38 #[.agg #[.int .u64 (L1 : Nat), .int .u64 (H1 : Nat)]] w fun o w' => o = .returned (.bool false) ∧ Up w w')) (HE2 : Hid (∀ w, Calls Tryz.prog 38 #[.agg #[.int .u64 (L2 : Nat), .int .u64 (H2 : Nat)]] w fun o w' => o = .returned (.bool false) ∧ Up w w')) (HN1 : Hid (∀ w, Calls Tryz.prog 89 #[.int .u64 (H1 : Nat)] w fun o w' => o = .returned (.int .u64 (N1 : Nat)) ∧ Up w w')) (HN2 : Hid (∀ w, Calls Tryz.prog 89 #[.int .u64 (H2 : Nat)] w fun o w' => o = .returned (.int .u64 (N2 : Nat)) ∧ Up w w')) (w : World) :
    Calls Tryz.prog 72 #[.agg #[.int .u64 (L1 : Nat), .int .u64 (H1 : Nat)], .agg #[.int .u64 (L2 : Nat), .int .u64 (H2 : Nat)]] w fun o w' => o = .returned (.tuple #[.agg #[.int .u64 (L1 : Nat), .int .u64 (H2 : Nat)], .bool true]) ∧ Up w w' := by
  have aN1L2 : decide (N1 < L2) = false := by simp; omega
  have bN1L2 : decide ((N1 : Int) < (L2 : Int)) = false := by simp; omega
  have aN2L1 : decide (N2 < L1) = false := by simp; omega
  have bN2L1 : decide ((N2 : Int) < (L1 : Int)) = false := by simp; omega
  have aL2L1 : decide (L2 < L1) = false := by simp; omega
  have bL2L1 : decide ((L2 : Int) < (L1 : Int)) = false := by simp; omega
  have aH1H2 : decide (H1 < H2) = true := by simp; omega
  have bH1H2 : decide ((H1 : Int) < (H2 : Int)) = true := by simp; omega
  clear w1 w2 w3 w4 w5 w6
  go_enter Tryz.func72, Tryz.ntmps72
  go_upto_region 5 with (first | (go_at_call_of 38 (Value.int IntKind.u64 (H1 : Nat)); refine (HE1.out _).mono ?_; rintro o w5 ⟨rfl, hb5⟩; have d5 : D3 w.heap.size L1 H1 (w.heap.size + 1) L2 H2 (w.heap.size + 2) w5 := D3.up hb5 (by first | assumption | (simp [D3, RgAt, go_sem]; done))) | (go_at_call_of 38 (Value.int IntKind.u64 (H2 : Nat)); refine (HE2.out _).mono ?_; rintro o w6 ⟨rfl, hb6⟩; have d6 : D3 w.heap.size L1 H1 (w.heap.size + 1) L2 H2 (w.heap.size + 2) w6 := D3.up hb6 (by first | assumption | (simp [D3, RgAt, go_sem]; done))) | (go_at_call 64; refine (rnone_any _).mono ?_; rintro o w7 ⟨rfl, hb7⟩; have d7 : D3 w.heap.size L1 H1 (w.heap.size + 1) L2 H2 (w.heap.size + 2) w7 := D3.up hb7 (by assumption)))
  have UB : Up w w6 := (by repeat (first | exact Up.refl _ | assumption | refine Up.drew ?_ | refine Up.drewN ?_ _ | refine Up.alloc ?_ _ | refine Up.setCell ?_ ?_ _ | exact Nat.le_refl _ | exact Nat.le_add_right _ _ | (dsimp only; omega) | refine Up.trans ?_ ‹Up _ _›))
  have hS : D3 w.heap.size L1 H1 (w.heap.size + 1) L2 H2 (w.heap.size + 2) w6 := by assumption
  clear d5 d6 hb5 hb6
  refine wp_region_noPanic ?_
  refine wp_region_held_drew (S := D3 w.heap.size L1 H1 (w.heap.size + 1) L2 H2 (w.heap.size + 2)) (by kernel_rfl) ?_ (fun hHeld => ?_)
  · exact D3.up ((Up.refl _).drew) hS
  (try simp only [Act.put]); (try simp only [List.setIfInBounds_toArray]); (try simp only [List.set_cons_succ]); (try simp only [List.set_cons_zero])
  clear hHeld
  refine wpAnyH_take (i := 0) (oi := { dst := some 12, op := Op.fieldAddr 64 (Operand.tmp 2) 1, type := 0, pos := "ref.go:88", after := #[], guard := none }) (v := ?vk111) rfl (by kernel_rfl) (by kernel_rfl) (by kernel_rfl) (fun _ _ _ h => h) (Or.inl ⟨by rfl, ?hk111⟩) (D3.up ((Up.refl w6).drew) hS) ?rk111
  case hk111 => (intro wz hSw; (try dsimp only at hSw); go_simp; try with_reducible rfl)
  (try simp only [Act.put]); (try simp only [List.setIfInBounds_toArray]); (try simp only [List.set_cons_succ]); (try simp only [List.set_cons_zero])
  refine wpAnyH_take (i := 1) (oi := { dst := some 13, op := Op.load 62 (Operand.tmp 12), type := 62, pos := "ref.go:88", after := #[{ on := 0, ground := Ground.data }], guard := none }) (v := ?vk112) rfl (by kernel_rfl) (by kernel_rfl) (by kernel_rfl) (fun _ _ _ h => h) (Or.inl ⟨by rfl, ?hk112⟩) (D3.up ((Up.refl w6).drew) hS) ?rk112
  case hk112 => (intro wz hSw; (try dsimp only at hSw); go_simp; try with_reducible rfl)
  (try simp only [Act.put]); (try simp only [List.setIfInBounds_toArray]); (try simp only [List.set_cons_succ]); (try simp only [List.set_cons_zero])
  refine wpAnyH_take (i := 3) (oi := { dst := some 15, op := Op.fieldAddr 64 (Operand.tmp 3) 0, type := 0, pos := "ref.go:88", after := #[], guard := none }) (v := ?vk113) rfl (by kernel_rfl) (by kernel_rfl) (by kernel_rfl) (fun _ _ _ h => h) (Or.inl ⟨by rfl, ?hk113⟩) (D3.up ((Up.refl w6).drew) hS) ?rk113
  case hk113 => (intro wz hSw; (try dsimp only at hSw); go_simp; try with_reducible rfl)
  (try simp only [Act.put]); (try simp only [List.setIfInBounds_toArray]); (try simp only [List.set_cons_succ]); (try simp only [List.set_cons_zero])
  refine wpAnyH_take (i := 4) (oi := { dst := some 16, op := Op.load 62 (Operand.tmp 15), type := 62, pos := "ref.go:88", after := #[{ on := 3, ground := Ground.data }], guard := none }) (v := ?vk114) rfl (by kernel_rfl) (by kernel_rfl) (by kernel_rfl) (fun _ _ _ h => h) (Or.inl ⟨by rfl, ?hk114⟩) (D3.up ((Up.refl w6).drew) hS) ?rk114
  case hk114 => (intro wz hSw; (try dsimp only at hSw); go_simp; try with_reducible rfl)
  (try simp only [Act.put]); (try simp only [List.setIfInBounds_toArray]); (try simp only [List.set_cons_succ]); (try simp only [List.set_cons_zero])
  refine wpAnyH_ready (rs := [2]) (by kernel_rfl) (by simp) ?_
  refine AllReadyH.cons (o := { dst := some 14, op := Op.call { callee := Callee.value (Operand.func 89), args := #[Operand.tmp 13], argTypes := #[62] }, type := 62, pos := "ref.go:88", after := #[{ on := 1, ground := Ground.data }], guard := none }) rfl (fun K hK => ?_) AllReadyH.nil
  refine wantCall1 ?_ 89 (.tmp 13) #[62] ?_ (.int .u64 (H1 : Nat)) ?_ ?_ (ent_next _ _) ?_
  · rfl
  · rfl
  · rfl
  · rfl
  refine (HN1.out _).mono ?_
  rintro o x115 ⟨rfl, b115⟩
  refine ⟨_, rfl, ?_⟩
  have U115 := ((Up.refl w6).drew).trans b115
  refine hK.out _ _ (D3.up U115 hS) (fun _ => ?_)
  clear hK K
  (try simp only [Act.put]); (try simp only [List.setIfInBounds_toArray]); (try simp only [List.set_cons_succ]); (try simp only [List.set_cons_zero])
  refine wpAnyH_take (i := 5) (oi := { dst := some 17, op := Op.binOp BinOp.lss 62 (Operand.tmp 14) (Operand.tmp 16) 62, type := 4, pos := "ref.go:88", after := #[{ on := 2, ground := Ground.data }, { on := 4, ground := Ground.data }], guard := none }) (v := ?vk116) rfl (by kernel_rfl) (by kernel_rfl) (by kernel_rfl) (fun _ _ _ h => h) (Or.inl ⟨by rfl, ?hk116⟩) (D3.up U115 hS) ?rk116
  case hk116 => (intro wz hSw; (try dsimp only at hSw); go_simp; try with_reducible rfl)
  (try simp only [Act.put]); (try simp only [List.setIfInBounds_toArray]); (try simp only [List.set_cons_succ]); (try simp only [List.set_cons_zero])
  refine wpAnyH_take (i := 6) (oi := { dst := some 18, op := Op.move (Operand.tmp 17), type := 4, pos := "ref.go:88", after := #[{ on := 5, ground := Ground.data }, { on := 2, ground := Ground.chain }], guard := none }) (v := ?vk117) rfl (by kernel_rfl) (by kernel_rfl) (by kernel_rfl) (fun _ _ _ h => h) (Or.inl ⟨by rfl, ?hk117⟩) (D3.up U115 hS) ?rk117
  case hk117 => (intro wz hSw; (try dsimp only at hSw); go_simp; try with_reducible rfl)
  (try simp only [Act.put]); (try simp only [List.setIfInBounds_toArray]); (try simp only [List.set_cons_succ]); (try simp only [List.set_cons_zero])
  refine wpAnyH_take (i := 7) (oi := { dst := some 19, op := Op.fieldAddr 64 (Operand.tmp 3) 1, type := 0, pos := "ref.go:88", after := #[{ on := 6, ground := Ground.guard }], guard := some (6, false) }) (v := ?vk118) rfl (by kernel_rfl) (by kernel_rfl) (by kernel_rfl) (fun _ _ _ h => h) (Or.inl ⟨by rfl, ?hk118⟩) (D3.up U115 hS) ?rk118
  case hk118 => (intro wz hSw; (try dsimp only at hSw); go_simp; try with_reducible rfl)
  (try simp only [Act.put]); (try simp only [List.setIfInBounds_toArray]); (try simp only [List.set_cons_succ]); (try simp only [List.set_cons_zero])
  refine wpAnyH_take (i := 8) (oi := { dst := some 20, op := Op.load 62 (Operand.tmp 19), type := 62, pos := "ref.go:88", after := #[{ on := 7, ground := Ground.data }, { on := 6, ground := Ground.guard }], guard := some (6, false) }) (v := ?vk119) rfl (by kernel_rfl) (by kernel_rfl) (by kernel_rfl) (fun _ _ _ h => h) (Or.inl ⟨by rfl, ?hk119⟩) (D3.up U115 hS) ?rk119
  case hk119 => (intro wz hSw; (try dsimp only at hSw); go_simp; try with_reducible rfl)
  (try simp only [Act.put]); (try simp only [List.setIfInBounds_toArray]); (try simp only [List.set_cons_succ]); (try simp only [List.set_cons_zero])
  refine wpAnyH_take (i := 10) (oi := { dst := some 22, op := Op.fieldAddr 64 (Operand.tmp 2) 0, type := 0, pos := "ref.go:88", after := #[{ on := 6, ground := Ground.guard }], guard := some (6, false) }) (v := ?vk120) rfl (by kernel_rfl) (by kernel_rfl) (by kernel_rfl) (fun _ _ _ h => h) (Or.inl ⟨by rfl, ?hk120⟩) (D3.up U115 hS) ?rk120
  case hk120 => (intro wz hSw; (try dsimp only at hSw); go_simp; try with_reducible rfl)
  (try simp only [Act.put]); (try simp only [List.setIfInBounds_toArray]); (try simp only [List.set_cons_succ]); (try simp only [List.set_cons_zero])
  refine wpAnyH_take (i := 11) (oi := { dst := some 23, op := Op.load 62 (Operand.tmp 22), type := 62, pos := "ref.go:88", after := #[{ on := 10, ground := Ground.data }, { on := 6, ground := Ground.guard }], guard := some (6, false) }) (v := ?vk121) rfl (by kernel_rfl) (by kernel_rfl) (by kernel_rfl) (fun _ _ _ h => h) (Or.inl ⟨by rfl, ?hk121⟩) (D3.up U115 hS) ?rk121
  case hk121 => (intro wz hSw; (try dsimp only at hSw); go_simp; try with_reducible rfl)
  (try simp only [Act.put]); (try simp only [List.setIfInBounds_toArray]); (try simp only [List.set_cons_succ]); (try simp only [List.set_cons_zero])
  refine wpAnyH_ready (rs := [9]) (by kernel_rfl) (by simp) ?_
  refine AllReadyH.cons (o := { dst := some 21, op := Op.call { callee := Callee.value (Operand.func 89), args := #[Operand.tmp 20], argTypes := #[62] }, type := 62, pos := "ref.go:88", after := #[{ on := 8, ground := Ground.data }, { on := 6, ground := Ground.chain }, { on := 6, ground := Ground.guard }], guard := some (6, false) }) rfl (fun K hK => ?_) AllReadyH.nil
  refine wantCall1 ?_ 89 (.tmp 20) #[62] ?_ (.int .u64 (H2 : Nat)) ?_ ?_ (ent_next _ _) ?_
  · rfl
  · rfl
  · rfl
  · rfl
  refine (HN2.out _).mono ?_
  rintro o x122 ⟨rfl, b122⟩
  refine ⟨_, rfl, ?_⟩
  have U122 := U115.trans b122
  refine hK.out _ _ (D3.up U122 hS) (fun _ => ?_)
  clear hK K
  (try simp only [Act.put]); (try simp only [List.setIfInBounds_toArray]); (try simp only [List.set_cons_succ]); (try simp only [List.set_cons_zero])
  refine wpAnyH_take (i := 12) (oi := { dst := some 24, op := Op.binOp BinOp.lss 62 (Operand.tmp 21) (Operand.tmp 23) 62, type := 4, pos := "ref.go:88", after := #[{ on := 9, ground := Ground.data }, { on := 11, ground := Ground.data }, { on := 6, ground := Ground.guard }], guard := some (6, false) }) (v := ?vk123) rfl (by kernel_rfl) (by kernel_rfl) (by kernel_rfl) (fun _ _ _ h => h) (Or.inl ⟨by rfl, ?hk123⟩) (D3.up U122 hS) ?rk123
  case hk123 => (intro wz hSw; (try dsimp only at hSw); go_simp; try with_reducible rfl)
  (try simp only [Act.put]); (try simp only [List.setIfInBounds_toArray]); (try simp only [List.set_cons_succ]); (try simp only [List.set_cons_zero])
  refine wpAnyH_take (i := 13) (oi := { dst := some 25, op := Op.pick (Operand.tmp 18) (Operand.const (Value.bool true)) (Operand.tmp 24), type := 4, pos := "ref.go:88", after := #[{ on := 6, ground := Ground.data }, { on := 12, ground := Ground.data }], guard := none }) (v := ?vk124) rfl (by kernel_rfl) (by kernel_rfl) (by kernel_rfl) (fun _ _ _ h => h) (Or.inl ⟨by rfl, ?hk124⟩) (D3.up U122 hS) ?rk124
  case hk124 => (intro wz hSw; (try dsimp only at hSw); go_simp; try with_reducible rfl)
  (try simp only [Act.put]); (try simp only [List.setIfInBounds_toArray]); (try simp only [List.set_cons_succ]); (try simp only [List.set_cons_zero])
  refine wpAnyH_done (by kernel_rfl) ?_ _
  refine NoPanic.normal ?_
  have UX : Up w x122 := UB.trans U122
  have hX : D3 w.heap.size L1 H1 (w.heap.size + 1) L2 H2 (w.heap.size + 2) x122 := D3.up U122 hS
  generalize x122 = wx at UX hX ⊢
  go_wp2_with (first | (go_at_call_of 38 (Value.int IntKind.u64 (H1 : Nat)); refine (HE1.out _).mono ?_; rintro o w5 ⟨rfl, hb5⟩; have d5 : D3 w.heap.size L1 H1 (w.heap.size + 1) L2 H2 (w.heap.size + 2) w5 := D3.up hb5 (by first | assumption | (simp [D3, RgAt, go_sem]; done))) | (go_at_call_of 38 (Value.int IntKind.u64 (H2 : Nat)); refine (HE2.out _).mono ?_; rintro o w6 ⟨rfl, hb6⟩; have d6 : D3 w.heap.size L1 H1 (w.heap.size + 1) L2 H2 (w.heap.size + 2) w6 := D3.up hb6 (by first | assumption | (simp [D3, RgAt, go_sem]; done))) | (go_at_call 64; refine (rnone_any _).mono ?_; rintro o w7 ⟨rfl, hb7⟩; have d7 : D3 w.heap.size L1 H1 (w.heap.size + 1) L2 H2 (w.heap.size + 2) w7 := D3.up hb7 (by assumption)))
  all_goals exact bodyPost_ret (v := .tuple #[.agg #[.int .u64 (L1 : Nat), .int .u64 (H2 : Nat)], .bool true]) (by simp [results, Tryz.results72, go_sem, *]) rfl ⟨rfl, (by repeat (first | exact Up.refl _ | assumption | refine Up.drew ?_ | refine Up.drewN ?_ _ | refine Up.alloc ?_ _ | refine Up.setCell ?_ ?_ _ | exact Nat.le_refl _ | exact Nat.le_add_right _ _ | (dsimp only; omega) | refine Up.trans ?_ ‹Up _ _›))⟩
set_option maxHeartbeats 2000000 in
set_option maxRecDepth 20000 in
theorem rJoin_k00 (L1 H1 L2 H2 N1 N2 : Nat) (w1 : Fl.W L1) (w2 : Fl.W H1) (w3 : Fl.W L2) (w4 : Fl.W H2) (w5 : Fl.W N1) (w6 : Fl.W N2) (h1 : ¬ N1 < L2) (h2 : ¬ N2 < L1) (h3 : ¬ L2 < L1) (h4 : ¬ H1 < H2) (HE1 : Hid (∀ w, Calls Tryz.prog 38 #[.agg #[.int .u64 (L1 : Nat), .int .u64 (H1 : Nat)]] w fun o w' => o = .returned (.bool false) ∧ Up w w')) (HE2 : Hid (∀ w, Calls Tryz.prog 38 #[.agg #[.int .u64 (L2 : Nat), .int .u64 (H2 : Nat)]] w fun o w' => o = .returned (.bool false) ∧ Up w w')) (HN1 : Hid (∀ w, Calls Tryz.prog 89 #[.int .u64 (H1 : Nat)] w fun o w' => o = .returned (.int .u64 (N1 : Nat)) ∧ Up w w')) (HN2 : Hid (∀ w, Calls Tryz.prog 89 #[.int .u64 (H2 : Nat)] w fun o w' => o = .returned (.int .u64 (N2 : Nat)) ∧ Up w w')) (w : World) :
    Calls Tryz.prog 72 #[.agg #[.int .u64 (L1 : Nat), .int .u64 (H1 : Nat)], .agg #[.int .u64 (L2 : Nat), .int .u64 (H2 : Nat)]] w fun o w' => o = .returned (.tuple #[.agg #[.int .u64 (L1 : Nat), .int .u64 (H1 : Nat)], .bool true]) ∧ Up w w' := by
  have aN1L2 : decide (N1 < L2) = false := by simp; omega
  have bN1L2 : decide ((N1 : Int) < (L2 : Int)) = false := by simp; omega
  have aN2L1 : decide (N2 < L1) = false := by simp; omega
  have bN2L1 : decide ((N2 : Int) < (L1 : Int)) = false := by simp; omega
  have aL2L1 : decide (L2 < L1) = false := by simp; omega
  have bL2L1 : decide ((L2 : Int) < (L1 : Int)) = false := by simp; omega
  have aH1H2 : decide (H1 < H2) = false := by simp; omega
  have bH1H2 : decide ((H1 : Int) < (H2 : Int)) = false := by simp; omega
  clear w1 w2 w3 w4 w5 w6
  go_enter Tryz.func72, Tryz.ntmps72
  go_upto_region 5 with (first | (go_at_call_of 38 (Value.int IntKind.u64 (H1 : Nat)); refine (HE1.out _).mono ?_; rintro o w5 ⟨rfl, hb5⟩; have d5 : D3 w.heap.size L1 H1 (w.heap.size + 1) L2 H2 (w.heap.size + 2) w5 := D3.up hb5 (by first | assumption | (simp [D3, RgAt, go_sem]; done))) | (go_at_call_of 38 (Value.int IntKind.u64 (H2 : Nat)); refine (HE2.out _).mono ?_; rintro o w6 ⟨rfl, hb6⟩; have d6 : D3 w.heap.size L1 H1 (w.heap.size + 1) L2 H2 (w.heap.size + 2) w6 := D3.up hb6 (by first | assumption | (simp [D3, RgAt, go_sem]; done))) | (go_at_call 64; refine (rnone_any _).mono ?_; rintro o w7 ⟨rfl, hb7⟩; have d7 : D3 w.heap.size L1 H1 (w.heap.size + 1) L2 H2 (w.heap.size + 2) w7 := D3.up hb7 (by assumption)))
  have UB : Up w w6 := (by repeat (first | exact Up.refl _ | assumption | refine Up.drew ?_ | refine Up.drewN ?_ _ | refine Up.alloc ?_ _ | refine Up.setCell ?_ ?_ _ | exact Nat.le_refl _ | exact Nat.le_add_right _ _ | (dsimp only; omega) | refine Up.trans ?_ ‹Up _ _›))
  have hS : D3 w.heap.size L1 H1 (w.heap.size + 1) L2 H2 (w.heap.size + 2) w6 := by assumption
  clear d5 d6 hb5 hb6
  refine wp_region_noPanic ?_
  refine wp_region_held_drew (S := D3 w.heap.size L1 H1 (w.heap.size + 1) L2 H2 (w.heap.size + 2)) (by kernel_rfl) ?_ (fun hHeld => ?_)
  · exact D3.up ((Up.refl _).drew) hS
  (try simp only [Act.put]); (try simp only [List.setIfInBounds_toArray]); (try simp only [List.set_cons_succ]); (try simp only [List.set_cons_zero])
  clear hHeld
  refine wpAnyH_take (i := 0) (oi := { dst := some 12, op := Op.fieldAddr 64 (Operand.tmp 2) 1, type := 0, pos := "ref.go:88", after := #[], guard := none }) (v := ?vk125) rfl (by kernel_rfl) (by kernel_rfl) (by kernel_rfl) (fun _ _ _ h => h) (Or.inl ⟨by rfl, ?hk125⟩) (D3.up ((Up.refl w6).drew) hS) ?rk125
  case hk125 => (intro wz hSw; (try dsimp only at hSw); go_simp; try with_reducible rfl)
  (try simp only [Act.put]); (try simp only [List.setIfInBounds_toArray]); (try simp only [List.set_cons_succ]); (try simp only [List.set_cons_zero])
  refine wpAnyH_take (i := 1) (oi := { dst := some 13, op := Op.load 62 (Operand.tmp 12), type := 62, pos := "ref.go:88", after := #[{ on := 0, ground := Ground.data }], guard := none }) (v := ?vk126) rfl (by kernel_rfl) (by kernel_rfl) (by kernel_rfl) (fun _ _ _ h => h) (Or.inl ⟨by rfl, ?hk126⟩) (D3.up ((Up.refl w6).drew) hS) ?rk126
  case hk126 => (intro wz hSw; (try dsimp only at hSw); go_simp; try with_reducible rfl)
  (try simp only [Act.put]); (try simp only [List.setIfInBounds_toArray]); (try simp only [List.set_cons_succ]); (try simp only [List.set_cons_zero])
  refine wpAnyH_take (i := 3) (oi := { dst := some 15, op := Op.fieldAddr 64 (Operand.tmp 3) 0, type := 0, pos := "ref.go:88", after := #[], guard := none }) (v := ?vk127) rfl (by kernel_rfl) (by kernel_rfl) (by kernel_rfl) (fun _ _ _ h => h) (Or.inl ⟨by rfl, ?hk127⟩) (D3.up ((Up.refl w6).drew) hS) ?rk127
  case hk127 => (intro wz hSw; (try dsimp only at hSw); go_simp; try with_reducible rfl)
  (try simp only [Act.put]); (try simp only [List.setIfInBounds_toArray]); (try simp only [List.set_cons_succ]); (try simp only [List.set_cons_zero])
  refine wpAnyH_take (i := 4) (oi := { dst := some 16, op := Op.load 62 (Operand.tmp 15), type := 62, pos := "ref.go:88", after := #[{ on := 3, ground := Ground.data }], guard := none }) (v := ?vk128) rfl (by kernel_rfl) (by kernel_rfl) (by kernel_rfl) (fun _ _ _ h => h) (Or.inl ⟨by rfl, ?hk128⟩) (D3.up ((Up.refl w6).drew) hS) ?rk128
  case hk128 => (intro wz hSw; (try dsimp only at hSw); go_simp; try with_reducible rfl)
  (try simp only [Act.put]); (try simp only [List.setIfInBounds_toArray]); (try simp only [List.set_cons_succ]); (try simp only [List.set_cons_zero])
  refine wpAnyH_ready (rs := [2]) (by kernel_rfl) (by simp) ?_
  refine AllReadyH.cons (o := { dst := some 14, op := Op.call { callee := Callee.value (Operand.func 89), args := #[Operand.tmp 13], argTypes := #[62] }, type := 62, pos := "ref.go:88", after := #[{ on := 1, ground := Ground.data }], guard := none }) rfl (fun K hK => ?_) AllReadyH.nil
  refine wantCall1 ?_ 89 (.tmp 13) #[62] ?_ (.int .u64 (H1 : Nat)) ?_ ?_ (ent_next _ _) ?_
  · rfl
  · rfl
  · rfl
  · rfl
  refine (HN1.out _).mono ?_
  rintro o x129 ⟨rfl, b129⟩
  refine ⟨_, rfl, ?_⟩
  have U129 := ((Up.refl w6).drew).trans b129
  refine hK.out _ _ (D3.up U129 hS) (fun _ => ?_)
  clear hK K
  (try simp only [Act.put]); (try simp only [List.setIfInBounds_toArray]); (try simp only [List.set_cons_succ]); (try simp only [List.set_cons_zero])
  refine wpAnyH_take (i := 5) (oi := { dst := some 17, op := Op.binOp BinOp.lss 62 (Operand.tmp 14) (Operand.tmp 16) 62, type := 4, pos := "ref.go:88", after := #[{ on := 2, ground := Ground.data }, { on := 4, ground := Ground.data }], guard := none }) (v := ?vk130) rfl (by kernel_rfl) (by kernel_rfl) (by kernel_rfl) (fun _ _ _ h => h) (Or.inl ⟨by rfl, ?hk130⟩) (D3.up U129 hS) ?rk130
  case hk130 => (intro wz hSw; (try dsimp only at hSw); go_simp; try with_reducible rfl)
  (try simp only [Act.put]); (try simp only [List.setIfInBounds_toArray]); (try simp only [List.set_cons_succ]); (try simp only [List.set_cons_zero])
  refine wpAnyH_take (i := 6) (oi := { dst := some 18, op := Op.move (Operand.tmp 17), type := 4, pos := "ref.go:88", after := #[{ on := 5, ground := Ground.data }, { on := 2, ground := Ground.chain }], guard := none }) (v := ?vk131) rfl (by kernel_rfl) (by kernel_rfl) (by kernel_rfl) (fun _ _ _ h => h) (Or.inl ⟨by rfl, ?hk131⟩) (D3.up U129 hS) ?rk131
  case hk131 => (intro wz hSw; (try dsimp only at hSw); go_simp; try with_reducible rfl)
  (try simp only [Act.put]); (try simp only [List.setIfInBounds_toArray]); (try simp only [List.set_cons_succ]); (try simp only [List.set_cons_zero])
  refine wpAnyH_take (i := 7) (oi := { dst := some 19, op := Op.fieldAddr 64 (Operand.tmp 3) 1, type := 0, pos := "ref.go:88", after := #[{ on := 6, ground := Ground.guard }], guard := some (6, false) }) (v := ?vk132) rfl (by kernel_rfl) (by kernel_rfl) (by kernel_rfl) (fun _ _ _ h => h) (Or.inl ⟨by rfl, ?hk132⟩) (D3.up U129 hS) ?rk132
  case hk132 => (intro wz hSw; (try dsimp only at hSw); go_simp; try with_reducible rfl)
  (try simp only [Act.put]); (try simp only [List.setIfInBounds_toArray]); (try simp only [List.set_cons_succ]); (try simp only [List.set_cons_zero])
  refine wpAnyH_take (i := 8) (oi := { dst := some 20, op := Op.load 62 (Operand.tmp 19), type := 62, pos := "ref.go:88", after := #[{ on := 7, ground := Ground.data }, { on := 6, ground := Ground.guard }], guard := some (6, false) }) (v := ?vk133) rfl (by kernel_rfl) (by kernel_rfl) (by kernel_rfl) (fun _ _ _ h => h) (Or.inl ⟨by rfl, ?hk133⟩) (D3.up U129 hS) ?rk133
  case hk133 => (intro wz hSw; (try dsimp only at hSw); go_simp; try with_reducible rfl)
  (try simp only [Act.put]); (try simp only [List.setIfInBounds_toArray]); (try simp only [List.set_cons_succ]); (try simp only [List.set_cons_zero])
  refine wpAnyH_take (i := 10) (oi := { dst := some 22, op := Op.fieldAddr 64 (Operand.tmp 2) 0, type := 0, pos := "ref.go:88", after := #[{ on := 6, ground := Ground.guard }], guard := some (6, false) }) (v := ?vk134) rfl (by kernel_rfl) (by kernel_rfl) (by kernel_rfl) (fun _ _ _ h => h) (Or.inl ⟨by rfl, ?hk134⟩) (D3.up U129 hS) ?rk134
  case hk134 => (intro wz hSw; (try dsimp only at hSw); go_simp; try with_reducible rfl)
  (try simp only [Act.put]); (try simp only [List.setIfInBounds_toArray]); (try simp only [List.set_cons_succ]); (try simp only [List.set_cons_zero])
  refine wpAnyH_take (i := 11) (oi := { dst := some 23, op := Op.load 62 (Operand.tmp 22), type := 62, pos := "ref.go:88", after := #[{ on := 10, ground := Ground.data }, { on := 6, ground := Ground.guard }], guard := some (6, false) }) (v := ?vk135) rfl (by kernel_rfl) (by kernel_rfl) (by kernel_rfl) (fun _ _ _ h => h) (Or.inl ⟨by rfl, ?hk135⟩) (D3.up U129 hS) ?rk135
  case hk135 => (intro wz hSw; (try dsimp only at hSw); go_simp; try with_reducible rfl)
  (try simp only [Act.put]); (try simp only [List.setIfInBounds_toArray]); (try simp only [List.set_cons_succ]); (try simp only [List.set_cons_zero])
  refine wpAnyH_ready (rs := [9]) (by kernel_rfl) (by simp) ?_
  refine AllReadyH.cons (o := { dst := some 21, op := Op.call { callee := Callee.value (Operand.func 89), args := #[Operand.tmp 20], argTypes := #[62] }, type := 62, pos := "ref.go:88", after := #[{ on := 8, ground := Ground.data }, { on := 6, ground := Ground.chain }, { on := 6, ground := Ground.guard }], guard := some (6, false) }) rfl (fun K hK => ?_) AllReadyH.nil
  refine wantCall1 ?_ 89 (.tmp 20) #[62] ?_ (.int .u64 (H2 : Nat)) ?_ ?_ (ent_next _ _) ?_
  · rfl
  · rfl
  · rfl
  · rfl
  refine (HN2.out _).mono ?_
  rintro o x136 ⟨rfl, b136⟩
  refine ⟨_, rfl, ?_⟩
  have U136 := U129.trans b136
  refine hK.out _ _ (D3.up U136 hS) (fun _ => ?_)
  clear hK K
  (try simp only [Act.put]); (try simp only [List.setIfInBounds_toArray]); (try simp only [List.set_cons_succ]); (try simp only [List.set_cons_zero])
  refine wpAnyH_take (i := 12) (oi := { dst := some 24, op := Op.binOp BinOp.lss 62 (Operand.tmp 21) (Operand.tmp 23) 62, type := 4, pos := "ref.go:88", after := #[{ on := 9, ground := Ground.data }, { on := 11, ground := Ground.data }, { on := 6, ground := Ground.guard }], guard := some (6, false) }) (v := ?vk137) rfl (by kernel_rfl) (by kernel_rfl) (by kernel_rfl) (fun _ _ _ h => h) (Or.inl ⟨by rfl, ?hk137⟩) (D3.up U136 hS) ?rk137
  case hk137 => (intro wz hSw; (try dsimp only at hSw); go_simp; try with_reducible rfl)
  (try simp only [Act.put]); (try simp only [List.setIfInBounds_toArray]); (try simp only [List.set_cons_succ]); (try simp only [List.set_cons_zero])
  refine wpAnyH_take (i := 13) (oi := { dst := some 25, op := Op.pick (Operand.tmp 18) (Operand.const (Value.bool true)) (Operand.tmp 24), type := 4, pos := "ref.go:88", after := #[{ on := 6, ground := Ground.data }, { on := 12, ground := Ground.data }], guard := none }) (v := ?vk138) rfl (by kernel_rfl) (by kernel_rfl) (by kernel_rfl) (fun _ _ _ h => h) (Or.inl ⟨by rfl, ?hk138⟩) (D3.up U136 hS) ?rk138
  case hk138 => (intro wz hSw; (try dsimp only at hSw); go_simp; try with_reducible rfl)
  (try simp only [Act.put]); (try simp only [List.setIfInBounds_toArray]); (try simp only [List.set_cons_succ]); (try simp only [List.set_cons_zero])
  refine wpAnyH_done (by kernel_rfl) ?_ _
  refine NoPanic.normal ?_
  have UX : Up w x136 := UB.trans U136
  have hX : D3 w.heap.size L1 H1 (w.heap.size + 1) L2 H2 (w.heap.size + 2) x136 := D3.up U136 hS
  generalize x136 = wx at UX hX ⊢
  go_wp2_with (first | (go_at_call_of 38 (Value.int IntKind.u64 (H1 : Nat)); refine (HE1.out _).mono ?_; rintro o w5 ⟨rfl, hb5⟩; have d5 : D3 w.heap.size L1 H1 (w.heap.size + 1) L2 H2 (w.heap.size + 2) w5 := D3.up hb5 (by first | assumption | (simp [D3, RgAt, go_sem]; done))) | (go_at_call_of 38 (Value.int IntKind.u64 (H2 : Nat)); refine (HE2.out _).mono ?_; rintro o w6 ⟨rfl, hb6⟩; have d6 : D3 w.heap.size L1 H1 (w.heap.size + 1) L2 H2 (w.heap.size + 2) w6 := D3.up hb6 (by first | assumption | (simp [D3, RgAt, go_sem]; done))) | (go_at_call 64; refine (rnone_any _).mono ?_; rintro o w7 ⟨rfl, hb7⟩; have d7 : D3 w.heap.size L1 H1 (w.heap.size + 1) L2 H2 (w.heap.size + 2) w7 := D3.up hb7 (by assumption)))
  all_goals exact bodyPost_ret (v := .tuple #[.agg #[.int .u64 (L1 : Nat), .int .u64 (H1 : Nat)], .bool true]) (by simp [results, Tryz.results72, go_sem, *]) rfl ⟨rfl, (by repeat (first | exact Up.refl _ | assumption | refine Up.drew ?_ | refine Up.drewN ?_ _ | refine Up.alloc ?_ _ | refine Up.setCell ?_ ?_ _ | exact Nat.le_refl _ | exact Nat.le_add_right _ _ | (dsimp only; omega) | refine Up.trans ?_ ‹Up _ _›))⟩

namespace Fl
theorem rn_W (u : Nat) (h : u ≤ 18442240474082181120) : W (rn u) := by unfold rn W; split <;> omega
theorem gp_rn {v1 u2 : Nat} (h1 : W v1) (n1 : nan v1 = false) (hu : code u2 ≤ 18442240474082181120) : gp v1 u2 = decide (rn (code v1) < code u2) := by
  have cp := code_pos v1 h1 n1
  have cr := code_range v1 h1
  unfold gp
  rw [decide_eq_decide]
  by_cases hi : v1 = INF
  · have c := (code_inf_iff v1 h1).2 hi
    have e : code (nextB v1) = code v1 := by rw [hi]; decide +kernel
    rw [e, c]; unfold rn; split <;> omega
  · have c : code v1 ≠ 18442240474082181120 := fun h => hi ((code_inf_iff v1 h1).1 h)
    rw [code_next v1 h1 hi]
    have k := isCode_iff (code v1 + 1)
    unfold rn nc
    by_cases hc : isCode (code v1 + 1) = true
    · rw [if_pos hc]
      have k' := k.1 hc
      (repeat' split) <;> omega
    · rw [if_neg hc]
      have k' : ¬ _ := fun h => hc (k.2 h)
      (repeat' split) <;> omega
end Fl
set_option maxHeartbeats 1000000 in
set_option maxRecDepth 20000 in
theorem rJoin_form {u1 v1 u2 v2 : Nat} {e1 e2 : Bool} (f1 : Fl.IsForm u1 v1 e1) (f2 : Fl.IsForm u2 v2 e2) (w : World) :
    Calls Tryz.prog 72 #[.agg #[.int .u64 (Fl.rl u1 e1 : Nat), .int .u64 (Fl.rh v1 e1 : Nat)], .agg #[.int .u64 (Fl.rl u2 e2 : Nat), .int .u64 (Fl.rh v2 e2 : Nat)]] w fun o w' => o = .returned (.tuple #[.agg #[.int .u64 (Fl.rl (Fl.jU u1 v1 e1 u2 v2 e2) (Fl.jE u1 v1 e1 u2 v2 e2) : Nat), .int .u64 (Fl.rh (Fl.jV u1 v1 e1 u2 v2 e2) (Fl.jE u1 v1 e1 u2 v2 e2) : Nat)], .bool (Fl.jK u1 v1 e1 u2 v2 e2)]) ∧ Up w w' := by
  have HE1 := fun w => rEmpty_any (Fl.rl u1 e1) (Fl.rh v1 e1) w
  rw [Fl.empty_rng f1] at HE1
  have HE2 := fun w => rEmpty_any (Fl.rl u2 e2) (Fl.rh v2 e2) w
  rw [Fl.empty_rng f2] at HE2
  have W1 := Fl.rl_W e1 f1.1
  have W2 := Fl.rh_W e1 f1.2.1
  have W3 := Fl.rl_W e2 f2.1
  have W4 := Fl.rh_W e2 f2.2.1
  have n1 := Fl.form_nan f1
  have n2 := Fl.form_nan f2
  have B1 : Fl.rh v1 e1 ≤ 18442240474082181120 := by rcases Fl.form_rng f1 with ⟨_, _, _, _, r2⟩ | ⟨_, _, r2, _, _, r5⟩ <;> omega
  have B2 : Fl.rh v2 e2 ≤ 18442240474082181120 := by rcases Fl.form_rng f2 with ⟨_, _, _, _, r2⟩ | ⟨_, _, r2, _, _, r5⟩ <;> omega
  have HN1 := fun w => rnext_any (Fl.rh v1 e1) B1 w
  have HN2 := fun w => rnext_any (Fl.rh v2 e2) B2 w
  have W5 := Fl.rn_W _ B1
  have W6 := Fl.rn_W _ B2
  cases e1
  · cases e2
    · have r1 := Fl.form_rng f1
      have r2 := Fl.form_rng f2
      simp at r1 r2
      have g1 := Fl.gp_rn (u2 := u2) f1.2.1 n1.2.1 (by omega)
      have g2 := Fl.gp_rn (u2 := u1) f2.2.1 n2.2.1 (by omega)
      have c1 := Fl.code_mn u1 u2
      have c2 := Fl.code_mx v1 v2
      by_cases h1 : Fl.rn (Fl.code v1) < Fl.code u2
      · have k : Fl.jK u1 v1 false u2 v2 false = false := by unfold Fl.jK; rw [g1, decide_eq_true h1]; rfl
        unfold Fl.jU Fl.jV Fl.jE; rw [k]
        exact rJoin_g1 _ _ _ _ _ _ W1 W2 W3 W4 W5 W6 h1 HE1 HE2 HN1 HN2 w
      · by_cases h2 : Fl.rn (Fl.code v2) < Fl.code u1
        · have k : Fl.jK u1 v1 false u2 v2 false = false := by unfold Fl.jK; rw [g2, decide_eq_true h2]; simp
          unfold Fl.jU Fl.jV Fl.jE; rw [k]
          exact rJoin_g2 _ _ _ _ _ _ W1 W2 W3 W4 W5 W6 h1 h2 HE1 HE2 HN1 HN2 w
        · have k : Fl.jK u1 v1 false u2 v2 false = true := by unfold Fl.jK; rw [g1, g2, decide_eq_false h1, decide_eq_false h2]; rfl
          unfold Fl.jU Fl.jV Fl.jE; rw [k]
          have eL : Fl.rl (if false = true then u2 else if false = true then u1 else if true = true then Fl.mn u1 u2 else 0) (if false = true then false else if false = true then false else !true) = min (Fl.code u1) (Fl.code u2) := by simp [Fl.rl, c1]
          have eH : Fl.rh (if false = true then v2 else if false = true then v1 else if true = true then Fl.mx v1 v2 else 0) (if false = true then false else if false = true then false else !true) = max (Fl.code v1) (Fl.code v2) := by simp [Fl.rh, c2]
          rw [eL, eH]
          by_cases h3 : Fl.code u2 < Fl.code u1
          · rw [show min (Fl.code u1) (Fl.code u2) = Fl.code u2 by omega]
            by_cases h4 : Fl.code v1 < Fl.code v2
            · rw [show max (Fl.code v1) (Fl.code v2) = Fl.code v2 by omega]; exact rJoin_k11 _ _ _ _ _ _ W1 W2 W3 W4 W5 W6 h1 h2 h3 h4 HE1 HE2 HN1 HN2 w
            · rw [show max (Fl.code v1) (Fl.code v2) = Fl.code v1 by omega]; exact rJoin_k10 _ _ _ _ _ _ W1 W2 W3 W4 W5 W6 h1 h2 h3 h4 HE1 HE2 HN1 HN2 w
          · rw [show min (Fl.code u1) (Fl.code u2) = Fl.code u1 by omega]
            by_cases h4 : Fl.code v1 < Fl.code v2
            · rw [show max (Fl.code v1) (Fl.code v2) = Fl.code v2 by omega]; exact rJoin_k01 _ _ _ _ _ _ W1 W2 W3 W4 W5 W6 h1 h2 h3 h4 HE1 HE2 HN1 HN2 w
            · rw [show max (Fl.code v1) (Fl.code v2) = Fl.code v1 by omega]; exact rJoin_k00 _ _ _ _ _ _ W1 W2 W3 W4 W5 W6 h1 h2 h3 h4 HE1 HE2 HN1 HN2 w
    · exact rJoin_ft _ _ _ _ _ _ W1 W2 W3 W4 W5 W6 HE1 HE2 HN1 HN2 w
  · exact rJoin_t _ _ _ _ _ _ W1 W2 W3 W4 W5 W6 e2 HE1 HE2 HN1 HN2 w
end Go.Proofs.YtbkbnfgjkefcmaaGreat
