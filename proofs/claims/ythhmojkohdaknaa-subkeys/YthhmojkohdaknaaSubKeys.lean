/- Proved: for every two submissions and every float64 the law SubKeys returns true, without a condition. -/
import Derived.Test.YthhmojkohdaknaaKd
import Derived.ProofKit
import Derived.OpenShut
import Derived.Lib.SmallJoins
namespace Go.Proofs.Ythhmojkohdaknaa.subKeysDone
open Go.ChangeShapes Go.WideShapes Go.ChangeAt Go.RowKit Go.Joins
set_option linter.unusedVariables false

theorem own : ownKnob Try.prog.godebug = none := by kernel_rfl
theorem laidOut : laidOutB Try.prog = true := by kernel_rfl
theorem wb {a : Nat} (h : (Lit.float .f64 a).wf = true) : Fl.W a := by simp [Lit.wf] at h; exact h
theorem ent_rd (args : Array Value) (w : World) : (callFunc 4 args).run Try.prog w = .ok (.enter 4 args) w := by kernel_rfl
theorem ent_wr (args : Array Value) (w : World) : (callFunc 6 args).run Try.prog w = .ok (.enter 6 args) w := by kernel_rfl
theorem ent_mt (args : Array Value) (w : World) : (callFunc 7 args).run Try.prog w = .ok (.enter 7 args) w := by kernel_rfl
theorem ent_rrd (args : Array Value) (w : World) : (callFunc 8 args).run Try.prog w = .ok (.enter 8 args) w := by kernel_rfl
theorem ent_rwr (args : Array Value) (w : World) : (callFunc 9 args).run Try.prog w = .ok (.enter 9 args) w := by kernel_rfl
theorem ent_rmt (args : Array Value) (w : World) : (callFunc 10 args).run Try.prog w = .ok (.enter 10 args) w := by kernel_rfl
abbrev P2s (m : Nat) (s1 s2 s3 : Int) (v1 v2 v3 : Value) (n : Nat) (t1 t2 t3 : Int) (u1 u2 u3 : Value) (w : World) : Prop := SubAt m s1 s2 s3 v1 v2 v3 w ∧ SubAt n t1 t2 t3 u1 u2 u3 w
theorem P2s.up {m : Nat} {s1 s2 s3 : Int} {v1 v2 v3 : Value} {n : Nat} {t1 t2 t3 : Int} {u1 u2 u3 : Value} {w w' : World} (u : Up w w') (h : P2s m s1 s2 s3 v1 v2 v3 n t1 t2 t3 u1 u2 u3 w) : P2s m s1 s2 s3 v1 v2 v3 n t1 t2 t3 u1 u2 u3 w' := ⟨SubAt.up u h.1, SubAt.up u h.2⟩
attribute [local go_sem] run_bits run_frombits run_store_float eqF
set_option maxHeartbeats 4000000 in
theorem core (s1 s2 s3 : Int) (a1 a2 a3 : Option Addr) (n1 c1 n2 c2 n3 c3 : Nat) (t1 t2 t3 : Int) (b1 b2 b3 : Option Addr) (m1 d1 m2 d2 m3 d3 k : Nat) (r1 r2 r3 : Bool) (w : World)
    (H1 : Hid (∀ W, Up w W → Calls Try.prog 4 #[.agg #[.int .i64 s1, .int .i64 s2, .int .i64 s3, .slice a1 n1 c1, .slice a2 n2 c2, .slice a3 n3 c3], .float .f64 k] W fun o w' => o = .returned (.bool r1) ∧ Up W w')) (H2 : Hid (∀ W, Up w W → Calls Try.prog 8 #[.agg #[.int .i64 s1, .int .i64 s2, .int .i64 s3, .slice a1 n1 c1, .slice a2 n2 c2, .slice a3 n3 c3], .float .f64 k] W fun o w' => o = .returned (.bool r1) ∧ Up W w')) (H3 : Hid (∀ W, Up w W → Calls Try.prog 6 #[.agg #[.int .i64 s1, .int .i64 s2, .int .i64 s3, .slice a1 n1 c1, .slice a2 n2 c2, .slice a3 n3 c3], .float .f64 k] W fun o w' => o = .returned (.bool r2) ∧ Up W w')) (H4 : Hid (∀ W, Up w W → Calls Try.prog 9 #[.agg #[.int .i64 s1, .int .i64 s2, .int .i64 s3, .slice a1 n1 c1, .slice a2 n2 c2, .slice a3 n3 c3], .float .f64 k] W fun o w' => o = .returned (.bool r2) ∧ Up W w')) (H5 : Hid (∀ W, Up w W → Calls Try.prog 7 #[.agg #[.int .i64 s1, .int .i64 s2, .int .i64 s3, .slice a1 n1 c1, .slice a2 n2 c2, .slice a3 n3 c3], .agg #[.int .i64 t1, .int .i64 t2, .int .i64 t3, .slice b1 m1 d1, .slice b2 m2 d2, .slice b3 m3 d3]] W fun o w' => o = .returned (.bool r3) ∧ Up W w')) (H6 : Hid (∀ W, Up w W → Calls Try.prog 10 #[.agg #[.int .i64 s1, .int .i64 s2, .int .i64 s3, .slice a1 n1 c1, .slice a2 n2 c2, .slice a3 n3 c3], .agg #[.int .i64 t1, .int .i64 t2, .int .i64 t3, .slice b1 m1 d1, .slice b2 m2 d2, .slice b3 m3 d3]] W fun o w' => o = .returned (.bool r3) ∧ Up W w')) :
    Calls Try.prog 3 #[.agg #[.int .i64 s1, .int .i64 s2, .int .i64 s3, .slice a1 n1 c1, .slice a2 n2 c2, .slice a3 n3 c3], .agg #[.int .i64 t1, .int .i64 t2, .int .i64 t3, .slice b1 m1 d1, .slice b2 m2 d2, .slice b3 m3 d3], .float .f64 k] w fun o w' => o = .returned (.bool true) ∧ Up w w' := by
  have s0 : P2s w.heap.size s1 s2 s3 (.slice a1 n1 c1) (.slice a2 n2 c2) (.slice a3 n3 c3) (w.heap.size + 1) t1 t2 t3 (.slice b1 m1 d1) (.slice b2 m2 d2) (.slice b3 m3 d3) ((w.alloc (.cells #[.int .i64 s1, .int .i64 s2, .int .i64 s3, .slice a1 n1 c1, .slice a2 n2 c2, .slice a3 n3 c3] 25)).alloc (.cells #[.int .i64 t1, .int .i64 t2, .int .i64 t3, .slice b1 m1 d1, .slice b2 m2 d2, .slice b3 m3 d3] 25)) := by simp [P2s, SubAt]
  have HS0 := hid s0
  clear s0
  go_enter Try.func3, Try.ntmps3
  go_upto_region 3 with (first | (go_at_call 5; refine (small_any _).mono ?_; (try have Q1 := R1); (try have Q2 := R2); rintro o w5 ⟨g1, g2, g3, rfl, r1, r2, r3, u5⟩; have R1 := hid r1; have R2 := hid r2; have R3 := hid r3; have RU := hid u5; clear r1 r2 r3) | (go_at_call 4; refine (small_reads _ _ _ _ R1.out R2.out).mono ?_; rintro o w6 ⟨rfl, u6⟩) | (go_at_call 6; refine (small_writes _ _ _ _ R3.out).mono ?_; rintro o w7 ⟨rfl, u7⟩) | (go_at_call 7; refine (small_meets _ _ _ _ _ _ _ (Q1.out.up RU.out) (Q2.out.up RU.out) R3.out).mono ?_; rintro o w8 ⟨rfl, u8⟩))
  have UZ : Up ((w.alloc (.cells #[.int .i64 s1, .int .i64 s2, .int .i64 s3, .slice a1 n1 c1, .slice a2 n2 c2, .slice a3 n3 c3] 25)).alloc (.cells #[.int .i64 t1, .int .i64 t2, .int .i64 t3, .slice b1 m1 d1, .slice b2 m2 d2, .slice b3 m3 d3] 25)) w8 := (by repeat (first | exact Up.refl _ | assumption | refine Up.drew ?_ | refine Up.drewN ?_ _ | refine Up.alloc ?_ _ | refine Up.trans ?_ ‹Up _ _›))
  have hS : P2s w.heap.size s1 s2 s3 (.slice a1 n1 c1) (.slice a2 n2 c2) (.slice a3 n3 c3) (w.heap.size + 1) t1 t2 t3 (.slice b1 m1 d1) (.slice b2 m2 d2) (.slice b3 m3 d3) w8 := P2s.up UZ HS0.out
  have UB : Up w w8 := Up.trans (((Up.refl w).alloc _).alloc _) UZ
  clear UZ HS0 R1 R2 R3 RU Q1 Q2
  generalize w8 = wx at *
  refine wp_region_noPanic ?_
  refine wp_region_held_drew (S := P2s w.heap.size s1 s2 s3 (.slice a1 n1 c1) (.slice a2 n2 c2) (.slice a3 n3 c3) (w.heap.size + 1) t1 t2 t3 (.slice b1 m1 d1) (.slice b2 m2 d2) (.slice b3 m3 d3)) (by kernel_rfl) ?_ (fun hHeld => ?_)
  · exact P2s.up ((Up.refl _).drew) hS
  (try simp only [Act.put]); (try simp only [List.setIfInBounds_toArray]); (try simp only [List.set_cons_succ]); (try simp only [List.set_cons_zero])
  clear hHeld
  refine wpAnyH_take (i := 0) (oi := { dst := some 20, op := Op.load 25 (Operand.tmp 3), type := 25, pos := "law.go:102", after := #[], guard := none }) (v := ?vk1) rfl (by kernel_rfl) (by kernel_rfl) (by kernel_rfl) (fun _ _ _ h => h) (Or.inl ⟨by rfl, ?hk1⟩) (P2s.up ((Up.refl wx).drew) hS) ?rk1
  case hk1 => (intro wz hSw; (try dsimp only at hSw); go_simp; try with_reducible rfl)
  (try simp only [Act.put]); (try simp only [List.setIfInBounds_toArray]); (try simp only [List.set_cons_succ]); (try simp only [List.set_cons_zero])
  refine wpAnyH_take (i := 1) (oi := { dst := some 21, op := Op.move (Operand.tmp 2), type := 26, pos := "law.go:102", after := #[], guard := none }) (v := ?vk2) rfl (by kernel_rfl) (by kernel_rfl) (by kernel_rfl) (fun _ _ _ h => h) (Or.inl ⟨by rfl, ?hk2⟩) (P2s.up ((Up.refl wx).drew) hS) ?rk2
  case hk2 => (intro wz hSw; (try dsimp only at hSw); go_simp; try with_reducible rfl)
  (try simp only [Act.put]); (try simp only [List.setIfInBounds_toArray]); (try simp only [List.set_cons_succ]); (try simp only [List.set_cons_zero])
  refine wpAnyH_take (i := 3) (oi := { dst := some 23, op := Op.load 25 (Operand.tmp 3), type := 25, pos := "law.go:102", after := #[], guard := none }) (v := ?vk3) rfl (by kernel_rfl) (by kernel_rfl) (by kernel_rfl) (fun _ _ _ h => h) (Or.inl ⟨by rfl, ?hk3⟩) (P2s.up ((Up.refl wx).drew) hS) ?rk3
  case hk3 => (intro wz hSw; (try dsimp only at hSw); go_simp; try with_reducible rfl)
  (try simp only [Act.put]); (try simp only [List.setIfInBounds_toArray]); (try simp only [List.set_cons_succ]); (try simp only [List.set_cons_zero])
  refine wpAnyH_take (i := 4) (oi := { dst := some 24, op := Op.move (Operand.tmp 2), type := 26, pos := "law.go:102", after := #[], guard := none }) (v := ?vk4) rfl (by kernel_rfl) (by kernel_rfl) (by kernel_rfl) (fun _ _ _ h => h) (Or.inl ⟨by rfl, ?hk4⟩) (P2s.up ((Up.refl wx).drew) hS) ?rk4
  case hk4 => (intro wz hSw; (try dsimp only at hSw); go_simp; try with_reducible rfl)
  (try simp only [Act.put]); (try simp only [List.setIfInBounds_toArray]); (try simp only [List.set_cons_succ]); (try simp only [List.set_cons_zero])
  refine wpAnyH_ready (rs := [2]) (by kernel_rfl) (by simp) ?_
  refine AllReadyH.cons (o := { dst := some 22, op := Op.call { callee := Callee.value (Operand.func 4), args := #[Operand.tmp 20, Operand.tmp 21], argTypes := #[25, 26] }, type := 4, pos := "law.go:102", after := #[{ on := 0, ground := Ground.data }, { on := 1, ground := Ground.data }], guard := none }) rfl (fun K hK => ?_) AllReadyH.nil
  refine wantCall2 ?_ 4 (.tmp 20) (.tmp 21) #[25, 26] ?_ (.agg #[.int .i64 s1, .int .i64 s2, .int .i64 s3, .slice a1 n1 c1, .slice a2 n2 c2, .slice a3 n3 c3]) (.float .f64 k) ?_ ?_ ?_ (ent_rd _ _) ?_
  · rfl
  · rfl
  · rfl
  · rfl
  · rfl
  refine (H1.out _ (Up.trans UB ((Up.refl wx).drew))).mono ?_
  rintro o x5 ⟨rfl, b5⟩
  refine ⟨_, rfl, ?_⟩
  have U5 := ((Up.refl wx).drew).trans b5
  refine hK.out _ _ (P2s.up U5 hS) (fun _ => ?_)
  clear hK K
  (try simp only [Act.put]); (try simp only [List.setIfInBounds_toArray]); (try simp only [List.set_cons_succ]); (try simp only [List.set_cons_zero])
  refine wpAnyH_ready (rs := [5]) (by kernel_rfl) (by simp) ?_
  refine AllReadyH.cons (o := { dst := some 25, op := Op.call { callee := Callee.value (Operand.func 8), args := #[Operand.tmp 23, Operand.tmp 24], argTypes := #[25, 26] }, type := 4, pos := "law.go:102", after := #[{ on := 3, ground := Ground.data }, { on := 4, ground := Ground.data }, { on := 2, ground := Ground.chain }], guard := none }) rfl (fun K hK => ?_) AllReadyH.nil
  refine wantCall2 ?_ 8 (.tmp 23) (.tmp 24) #[25, 26] ?_ (.agg #[.int .i64 s1, .int .i64 s2, .int .i64 s3, .slice a1 n1 c1, .slice a2 n2 c2, .slice a3 n3 c3]) (.float .f64 k) ?_ ?_ ?_ (ent_rrd _ _) ?_
  · rfl
  · rfl
  · rfl
  · rfl
  · rfl
  refine (H2.out _ (Up.trans UB U5)).mono ?_
  rintro o x6 ⟨rfl, b6⟩
  refine ⟨_, rfl, ?_⟩
  have U6 := U5.trans b6
  refine hK.out _ _ (P2s.up U6 hS) (fun _ => ?_)
  clear hK K
  (try simp only [Act.put]); (try simp only [List.setIfInBounds_toArray]); (try simp only [List.set_cons_succ]); (try simp only [List.set_cons_zero])
  refine wpAnyH_take (i := 6) (oi := { dst := some 26, op := Op.binOp BinOp.eql 4 (Operand.tmp 22) (Operand.tmp 25) 4, type := 4, pos := "law.go:102", after := #[{ on := 2, ground := Ground.data }, { on := 5, ground := Ground.data }], guard := none }) (v := ?vk7) rfl (by kernel_rfl) (by kernel_rfl) (by kernel_rfl) (fun _ _ _ h => h) (Or.inl ⟨by rfl, ?hk7⟩) (P2s.up U6 hS) ?rk7
  case hk7 => (intro wz hSw; (try dsimp only at hSw); go_simp; try with_reducible rfl)
  (try simp only [Act.put]); (try simp only [List.setIfInBounds_toArray]); (try simp only [List.set_cons_succ]); (try simp only [List.set_cons_zero])
  refine wpAnyH_take (i := 7) (oi := { dst := some 27, op := Op.move (Operand.tmp 26), type := 4, pos := "law.go:102", after := #[{ on := 6, ground := Ground.data }, { on := 5, ground := Ground.chain }], guard := none }) (v := ?vk8) rfl (by kernel_rfl) (by kernel_rfl) (by kernel_rfl) (fun _ _ _ h => h) (Or.inl ⟨by rfl, ?hk8⟩) (P2s.up U6 hS) ?rk8
  case hk8 => (intro wz hSw; (try dsimp only at hSw); go_simp; try with_reducible rfl)
  (try simp only [Act.put]); (try simp only [List.setIfInBounds_toArray]); (try simp only [List.set_cons_succ]); (try simp only [List.set_cons_zero])
  refine wpAnyH_take (i := 8) (oi := { dst := some 28, op := Op.load 25 (Operand.tmp 3), type := 25, pos := "law.go:102", after := #[{ on := 7, ground := Ground.guard }], guard := some (7, true) }) (v := ?vk9) rfl (by kernel_rfl) (by kernel_rfl) (by kernel_rfl) (fun _ _ _ h => h) (Or.inl ⟨by rfl, ?hk9⟩) (P2s.up U6 hS) ?rk9
  case hk9 => (intro wz hSw; (try dsimp only at hSw); go_simp; try with_reducible rfl)
  (try simp only [Act.put]); (try simp only [List.setIfInBounds_toArray]); (try simp only [List.set_cons_succ]); (try simp only [List.set_cons_zero])
  refine wpAnyH_take (i := 9) (oi := { dst := some 29, op := Op.move (Operand.tmp 2), type := 26, pos := "law.go:102", after := #[{ on := 7, ground := Ground.guard }], guard := some (7, true) }) (v := ?vk10) rfl (by kernel_rfl) (by kernel_rfl) (by kernel_rfl) (fun _ _ _ h => h) (Or.inl ⟨by rfl, ?hk10⟩) (P2s.up U6 hS) ?rk10
  case hk10 => (intro wz hSw; (try dsimp only at hSw); go_simp; try with_reducible rfl)
  (try simp only [Act.put]); (try simp only [List.setIfInBounds_toArray]); (try simp only [List.set_cons_succ]); (try simp only [List.set_cons_zero])
  refine wpAnyH_take (i := 11) (oi := { dst := some 31, op := Op.load 25 (Operand.tmp 3), type := 25, pos := "law.go:102", after := #[{ on := 7, ground := Ground.guard }], guard := some (7, true) }) (v := ?vk11) rfl (by kernel_rfl) (by kernel_rfl) (by kernel_rfl) (fun _ _ _ h => h) (Or.inl ⟨by rfl, ?hk11⟩) (P2s.up U6 hS) ?rk11
  case hk11 => (intro wz hSw; (try dsimp only at hSw); go_simp; try with_reducible rfl)
  (try simp only [Act.put]); (try simp only [List.setIfInBounds_toArray]); (try simp only [List.set_cons_succ]); (try simp only [List.set_cons_zero])
  refine wpAnyH_take (i := 12) (oi := { dst := some 32, op := Op.move (Operand.tmp 2), type := 26, pos := "law.go:102", after := #[{ on := 7, ground := Ground.guard }], guard := some (7, true) }) (v := ?vk12) rfl (by kernel_rfl) (by kernel_rfl) (by kernel_rfl) (fun _ _ _ h => h) (Or.inl ⟨by rfl, ?hk12⟩) (P2s.up U6 hS) ?rk12
  case hk12 => (intro wz hSw; (try dsimp only at hSw); go_simp; try with_reducible rfl)
  (try simp only [Act.put]); (try simp only [List.setIfInBounds_toArray]); (try simp only [List.set_cons_succ]); (try simp only [List.set_cons_zero])
  refine wpAnyH_ready (rs := [10]) (by kernel_rfl) (by simp) ?_
  refine AllReadyH.cons (o := { dst := some 30, op := Op.call { callee := Callee.value (Operand.func 6), args := #[Operand.tmp 28, Operand.tmp 29], argTypes := #[25, 26] }, type := 4, pos := "law.go:102", after := #[{ on := 8, ground := Ground.data }, { on := 9, ground := Ground.data }, { on := 7, ground := Ground.chain }, { on := 7, ground := Ground.guard }], guard := some (7, true) }) rfl (fun K hK => ?_) AllReadyH.nil
  refine wantCall2 ?_ 6 (.tmp 28) (.tmp 29) #[25, 26] ?_ (.agg #[.int .i64 s1, .int .i64 s2, .int .i64 s3, .slice a1 n1 c1, .slice a2 n2 c2, .slice a3 n3 c3]) (.float .f64 k) ?_ ?_ ?_ (ent_wr _ _) ?_
  · rfl
  · rfl
  · rfl
  · rfl
  · rfl
  refine (H3.out _ (Up.trans UB U6)).mono ?_
  rintro o x13 ⟨rfl, b13⟩
  refine ⟨_, rfl, ?_⟩
  have U13 := U6.trans b13
  refine hK.out _ _ (P2s.up U13 hS) (fun _ => ?_)
  clear hK K
  (try simp only [Act.put]); (try simp only [List.setIfInBounds_toArray]); (try simp only [List.set_cons_succ]); (try simp only [List.set_cons_zero])
  refine wpAnyH_ready (rs := [13]) (by kernel_rfl) (by simp) ?_
  refine AllReadyH.cons (o := { dst := some 33, op := Op.call { callee := Callee.value (Operand.func 9), args := #[Operand.tmp 31, Operand.tmp 32], argTypes := #[25, 26] }, type := 4, pos := "law.go:102", after := #[{ on := 11, ground := Ground.data }, { on := 12, ground := Ground.data }, { on := 10, ground := Ground.chain }, { on := 7, ground := Ground.guard }], guard := some (7, true) }) rfl (fun K hK => ?_) AllReadyH.nil
  refine wantCall2 ?_ 9 (.tmp 31) (.tmp 32) #[25, 26] ?_ (.agg #[.int .i64 s1, .int .i64 s2, .int .i64 s3, .slice a1 n1 c1, .slice a2 n2 c2, .slice a3 n3 c3]) (.float .f64 k) ?_ ?_ ?_ (ent_rwr _ _) ?_
  · rfl
  · rfl
  · rfl
  · rfl
  · rfl
  refine (H4.out _ (Up.trans UB U13)).mono ?_
  rintro o x14 ⟨rfl, b14⟩
  refine ⟨_, rfl, ?_⟩
  have U14 := U13.trans b14
  refine hK.out _ _ (P2s.up U14 hS) (fun _ => ?_)
  clear hK K
  (try simp only [Act.put]); (try simp only [List.setIfInBounds_toArray]); (try simp only [List.set_cons_succ]); (try simp only [List.set_cons_zero])
  refine wpAnyH_take (i := 14) (oi := { dst := some 34, op := Op.binOp BinOp.eql 4 (Operand.tmp 30) (Operand.tmp 33) 4, type := 4, pos := "law.go:102", after := #[{ on := 10, ground := Ground.data }, { on := 13, ground := Ground.data }, { on := 7, ground := Ground.guard }], guard := some (7, true) }) (v := ?vk15) rfl (by kernel_rfl) (by kernel_rfl) (by kernel_rfl) (fun _ _ _ h => h) (Or.inl ⟨by rfl, ?hk15⟩) (P2s.up U14 hS) ?rk15
  case hk15 => (intro wz hSw; (try dsimp only at hSw); go_simp; try with_reducible rfl)
  (try simp only [Act.put]); (try simp only [List.setIfInBounds_toArray]); (try simp only [List.set_cons_succ]); (try simp only [List.set_cons_zero])
  refine wpAnyH_take (i := 15) (oi := { dst := some 35, op := Op.pick (Operand.tmp 27) (Operand.tmp 34) (Operand.const (Value.bool false)), type := 4, pos := "law.go:102", after := #[{ on := 7, ground := Ground.data }, { on := 14, ground := Ground.data }], guard := none }) (v := ?vk16) rfl (by kernel_rfl) (by kernel_rfl) (by kernel_rfl) (fun _ _ _ h => h) (Or.inl ⟨by rfl, ?hk16⟩) (P2s.up U14 hS) ?rk16
  case hk16 => (intro wz hSw; (try dsimp only at hSw); go_simp; try with_reducible rfl)
  (try simp only [Act.put]); (try simp only [List.setIfInBounds_toArray]); (try simp only [List.set_cons_succ]); (try simp only [List.set_cons_zero])
  refine wpAnyH_take (i := 16) (oi := { dst := some 36, op := Op.move (Operand.tmp 35), type := 4, pos := "law.go:102", after := #[{ on := 15, ground := Ground.data }, { on := 13, ground := Ground.chain }], guard := none }) (v := ?vk17) rfl (by kernel_rfl) (by kernel_rfl) (by kernel_rfl) (fun _ _ _ h => h) (Or.inl ⟨by rfl, ?hk17⟩) (P2s.up U14 hS) ?rk17
  case hk17 => (intro wz hSw; (try dsimp only at hSw); go_simp; try with_reducible rfl)
  (try simp only [Act.put]); (try simp only [List.setIfInBounds_toArray]); (try simp only [List.set_cons_succ]); (try simp only [List.set_cons_zero])
  refine wpAnyH_take (i := 17) (oi := { dst := some 37, op := Op.load 25 (Operand.tmp 3), type := 25, pos := "law.go:102", after := #[{ on := 16, ground := Ground.guard }], guard := some (16, true) }) (v := ?vk18) rfl (by kernel_rfl) (by kernel_rfl) (by kernel_rfl) (fun _ _ _ h => h) (Or.inl ⟨by rfl, ?hk18⟩) (P2s.up U14 hS) ?rk18
  case hk18 => (intro wz hSw; (try dsimp only at hSw); go_simp; try with_reducible rfl)
  (try simp only [Act.put]); (try simp only [List.setIfInBounds_toArray]); (try simp only [List.set_cons_succ]); (try simp only [List.set_cons_zero])
  refine wpAnyH_take (i := 18) (oi := { dst := some 38, op := Op.load 25 (Operand.tmp 4), type := 25, pos := "law.go:102", after := #[{ on := 16, ground := Ground.guard }], guard := some (16, true) }) (v := ?vk19) rfl (by kernel_rfl) (by kernel_rfl) (by kernel_rfl) (fun _ _ _ h => h) (Or.inl ⟨by rfl, ?hk19⟩) (P2s.up U14 hS) ?rk19
  case hk19 => (intro wz hSw; (try dsimp only at hSw); go_simp; try with_reducible rfl)
  (try simp only [Act.put]); (try simp only [List.setIfInBounds_toArray]); (try simp only [List.set_cons_succ]); (try simp only [List.set_cons_zero])
  refine wpAnyH_take (i := 20) (oi := { dst := some 40, op := Op.load 25 (Operand.tmp 3), type := 25, pos := "law.go:102", after := #[{ on := 16, ground := Ground.guard }], guard := some (16, true) }) (v := ?vk20) rfl (by kernel_rfl) (by kernel_rfl) (by kernel_rfl) (fun _ _ _ h => h) (Or.inl ⟨by rfl, ?hk20⟩) (P2s.up U14 hS) ?rk20
  case hk20 => (intro wz hSw; (try dsimp only at hSw); go_simp; try with_reducible rfl)
  (try simp only [Act.put]); (try simp only [List.setIfInBounds_toArray]); (try simp only [List.set_cons_succ]); (try simp only [List.set_cons_zero])
  refine wpAnyH_take (i := 21) (oi := { dst := some 41, op := Op.load 25 (Operand.tmp 4), type := 25, pos := "law.go:102", after := #[{ on := 16, ground := Ground.guard }], guard := some (16, true) }) (v := ?vk21) rfl (by kernel_rfl) (by kernel_rfl) (by kernel_rfl) (fun _ _ _ h => h) (Or.inl ⟨by rfl, ?hk21⟩) (P2s.up U14 hS) ?rk21
  case hk21 => (intro wz hSw; (try dsimp only at hSw); go_simp; try with_reducible rfl)
  (try simp only [Act.put]); (try simp only [List.setIfInBounds_toArray]); (try simp only [List.set_cons_succ]); (try simp only [List.set_cons_zero])
  refine wpAnyH_ready (rs := [19]) (by kernel_rfl) (by simp) ?_
  refine AllReadyH.cons (o := { dst := some 39, op := Op.call { callee := Callee.value (Operand.func 7), args := #[Operand.tmp 37, Operand.tmp 38], argTypes := #[25, 25] }, type := 4, pos := "law.go:102", after := #[{ on := 17, ground := Ground.data }, { on := 18, ground := Ground.data }, { on := 16, ground := Ground.chain }, { on := 16, ground := Ground.guard }], guard := some (16, true) }) rfl (fun K hK => ?_) AllReadyH.nil
  refine wantCall2 ?_ 7 (.tmp 37) (.tmp 38) #[25, 25] ?_ (.agg #[.int .i64 s1, .int .i64 s2, .int .i64 s3, .slice a1 n1 c1, .slice a2 n2 c2, .slice a3 n3 c3]) (.agg #[.int .i64 t1, .int .i64 t2, .int .i64 t3, .slice b1 m1 d1, .slice b2 m2 d2, .slice b3 m3 d3]) ?_ ?_ ?_ (ent_mt _ _) ?_
  · rfl
  · rfl
  · rfl
  · rfl
  · rfl
  refine (H5.out _ (Up.trans UB U14)).mono ?_
  rintro o x22 ⟨rfl, b22⟩
  refine ⟨_, rfl, ?_⟩
  have U22 := U14.trans b22
  refine hK.out _ _ (P2s.up U22 hS) (fun _ => ?_)
  clear hK K
  (try simp only [Act.put]); (try simp only [List.setIfInBounds_toArray]); (try simp only [List.set_cons_succ]); (try simp only [List.set_cons_zero])
  refine wpAnyH_ready (rs := [22]) (by kernel_rfl) (by simp) ?_
  refine AllReadyH.cons (o := { dst := some 42, op := Op.call { callee := Callee.value (Operand.func 10), args := #[Operand.tmp 40, Operand.tmp 41], argTypes := #[25, 25] }, type := 4, pos := "law.go:102", after := #[{ on := 20, ground := Ground.data }, { on := 21, ground := Ground.data }, { on := 19, ground := Ground.chain }, { on := 16, ground := Ground.guard }], guard := some (16, true) }) rfl (fun K hK => ?_) AllReadyH.nil
  refine wantCall2 ?_ 10 (.tmp 40) (.tmp 41) #[25, 25] ?_ (.agg #[.int .i64 s1, .int .i64 s2, .int .i64 s3, .slice a1 n1 c1, .slice a2 n2 c2, .slice a3 n3 c3]) (.agg #[.int .i64 t1, .int .i64 t2, .int .i64 t3, .slice b1 m1 d1, .slice b2 m2 d2, .slice b3 m3 d3]) ?_ ?_ ?_ (ent_rmt _ _) ?_
  · rfl
  · rfl
  · rfl
  · rfl
  · rfl
  refine (H6.out _ (Up.trans UB U22)).mono ?_
  rintro o x23 ⟨rfl, b23⟩
  refine ⟨_, rfl, ?_⟩
  have U23 := U22.trans b23
  refine hK.out _ _ (P2s.up U23 hS) (fun _ => ?_)
  clear hK K
  (try simp only [Act.put]); (try simp only [List.setIfInBounds_toArray]); (try simp only [List.set_cons_succ]); (try simp only [List.set_cons_zero])
  refine wpAnyH_take (i := 23) (oi := { dst := some 43, op := Op.binOp BinOp.eql 4 (Operand.tmp 39) (Operand.tmp 42) 4, type := 4, pos := "law.go:102", after := #[{ on := 19, ground := Ground.data }, { on := 22, ground := Ground.data }, { on := 16, ground := Ground.guard }], guard := some (16, true) }) (v := ?vk24) rfl (by kernel_rfl) (by kernel_rfl) (by kernel_rfl) (fun _ _ _ h => h) (Or.inl ⟨by rfl, ?hk24⟩) (P2s.up U23 hS) ?rk24
  case hk24 => (intro wz hSw; (try dsimp only at hSw); go_simp; try with_reducible rfl)
  (try simp only [Act.put]); (try simp only [List.setIfInBounds_toArray]); (try simp only [List.set_cons_succ]); (try simp only [List.set_cons_zero])
  refine wpAnyH_take (i := 24) (oi := { dst := some 44, op := Op.pick (Operand.tmp 36) (Operand.tmp 43) (Operand.const (Value.bool false)), type := 4, pos := "law.go:102", after := #[{ on := 16, ground := Ground.data }, { on := 23, ground := Ground.data }], guard := none }) (v := ?vk25) rfl (by kernel_rfl) (by kernel_rfl) (by kernel_rfl) (fun _ _ _ h => h) (Or.inl ⟨by rfl, ?hk25⟩) (P2s.up U23 hS) ?rk25
  case hk25 => (intro wz hSw; (try dsimp only at hSw); go_simp; try with_reducible rfl)
  (try simp only [Act.put]); (try simp only [List.setIfInBounds_toArray]); (try simp only [List.set_cons_succ]); (try simp only [List.set_cons_zero])
  refine wpAnyH_ready (rs := [25]) (by kernel_rfl) (by simp) ?_
  refine AllReadyH.cons (o := { dst := some 6, op := Op.assign (Operand.tmp 44), type := 4, pos := "law.go:102", after := #[{ on := 24, ground := Ground.data }, { on := 22, ground := Ground.chain }, { on := 0, ground := Ground.phase }, { on := 1, ground := Ground.phase }, { on := 2, ground := Ground.phase }, { on := 3, ground := Ground.phase }, { on := 4, ground := Ground.phase }, { on := 5, ground := Ground.phase }, { on := 6, ground := Ground.phase }, { on := 7, ground := Ground.phase }, { on := 8, ground := Ground.phase }, { on := 9, ground := Ground.phase }, { on := 10, ground := Ground.phase }, { on := 11, ground := Ground.phase }, { on := 12, ground := Ground.phase }, { on := 13, ground := Ground.phase }, { on := 14, ground := Ground.phase }, { on := 15, ground := Ground.phase }, { on := 16, ground := Ground.phase }, { on := 17, ground := Ground.phase }, { on := 18, ground := Ground.phase }, { on := 19, ground := Ground.phase }, { on := 20, ground := Ground.phase }, { on := 21, ground := Ground.phase }, { on := 22, ground := Ground.phase }, { on := 23, ground := Ground.phase }, { on := 24, ground := Ground.phase }], guard := none }) rfl (fun K hK => ?_) AllReadyH.nil
  go_simp
  refine hK.out _ _ (P2s.up U23 hS) (fun _ => ?_)
  clear hK K
  (try simp only [Act.put]); (try simp only [List.setIfInBounds_toArray]); (try simp only [List.set_cons_succ]); (try simp only [List.set_cons_zero])
  refine wpAnyH_done (by kernel_rfl) ?_ _
  refine NoPanic.normal ?_
  go_wp2
  go_ret
  exact ⟨rfl, UB.trans U23⟩


theorem walk (v0 : Value) (v1 : Value) (a2 : Nat) (w : World) (w0 : SubV w v0) (w1 : SubV w v1) (w2 : Fl.W a2) :
    Calls Try.prog 3 #[v0, v1, .float .f64 a2] w fun e w' => e = .returned (.bool true) ∧ Up w w' := by
  obtain ⟨s1, s2, s3, A1, A2, A3, n1, c1, n2, c2, n3, c3, x1, x3, f2, rfl, h1, h2, h3⟩ := w0
  obtain ⟨t1, t2, t3, B1, B2, B3, m1, d1, m2, d2, m3, d3, y1, y3, g2, rfl, e1, e2, e3⟩ := w1
  exact core s1 s2 s3 A1 A2 A3 n1 c1 n2 c2 n3 c3 t1 t2 t3 B1 B2 B3 m1 d1 m2 d2 m3 d3 a2 _ _ _ w (fun W hW => reads_any s1 s2 s3 A1 A2 A3 n1 c1 n2 c2 n3 c3 x1 x3 f2 a2 w2 W (h1.up hW) (h2.up hW)) (fun W hW => rreads_any s1 s2 s3 A1 A2 A3 n1 c1 n2 c2 n3 c3 x1 x3 f2 a2 w2 W (h1.up hW) (h2.up hW)) (fun W hW => writes_any s1 s2 s3 A1 A2 A3 n1 c1 n2 c2 n3 c3 x1 x3 f2 a2 W (h3.up hW)) (fun W hW => rwrites_any s1 s2 s3 A1 A2 A3 n1 c1 n2 c2 n3 c3 x1 x3 f2 a2 W (h3.up hW)) (fun W hW => meets_any s1 s2 s3 A1 A2 A3 n1 c1 n2 c2 n3 c3 x1 x3 f2 t1 t2 t3 B1 B2 B3 m1 d1 m2 d2 m3 d3 y3 W (h1.up hW) (h2.up hW) (e3.up hW)) (fun W hW => rmeets_any s1 s2 s3 A1 A2 A3 n1 c1 n2 c2 n3 c3 x1 x3 f2 t1 t2 t3 B1 B2 B3 m1 d1 m2 d2 m3 d3 y3 W (h1.up hW) (h2.up hW) (e3.up hW))

set_option maxRecDepth 100000 in
theorem lifted (os : Os) (started : os.Started) (H : Type) (enc : TypeId × Value → H) :
    ReturnsInHanded {} Try.checked os 3 .any (Rows.subKeysSpec.pre6 enc Try.prog Try.f3 Rows.subKeysRow.domain false) (Rows.subKeysSpec.post enc Try.prog Try.f3 false true false false) := by
  refine returnsInHanded_of_change (C := Try.checked) own started (by kernel_rfl) Try.func3
    (ChangeSpec.witness6 (enc := enc) (C := Try.checked) false ⟨#[], #[.agg #[.int .i64 0, .int .i64 0, .int .i64 0, .slice none 0 0, .slice none 0 0, .slice none 0 0], .agg #[.int .i64 0, .int .i64 0, .int .i64 0, .slice none 0 0, .slice none 0 0, .slice none 0 0], .float .f64 0], []⟩ 8 (by kernel_rfl) (by kernel_rfl) (by kernel_rfl) (by kernel_rfl)) ?_
  intro W base args ds gs before hval0 hW hcnd _
  have hval : ∀ (j : Nat) t v, Try.f3.params[j]? = some t → args[j]? = some v → Value.okWide Try.prog W .any base t v := hval0
  have hW' := hW
  obtain ⟨p, q, hA0, hV, rfl, hfz, hnd⟩ := hW
  have hA : DataW.TrodAll enc Try.prog W 0 (fun _ => true) true Try.f3.params.toList args.toList ds p := hA0
  rw [Try.params3] at hA hval
  obtain ⟨v0, vs0, d0, ds0, p0, q0, hargs, rfl, rfl, h0, r0⟩ := trodAll_cons hA
  obtain ⟨v1, vs1, d1, ds1, p1, q1, rfl, rfl, rfl, h1, r1⟩ := trodAll_cons r0
  obtain ⟨v2, vs2, d2, ds2, p2, q2, rfl, rfl, rfl, h2, r2⟩ := trodAll_cons r1
  obtain ⟨rfl, rfl, rfl⟩ := trodAll_nil r2
  obtain rfl : args = #[v0, v1, v2] := by cases args; simp_all
  obtain ⟨rfl, rfl⟩ := trodVars_none hV
  have k0 := h0
  have lt0 : ∀ x ∈ p0, x.block < W.heap.size := by obtain ⟨m, hm⟩ := k0; exact DataW.trod_lt m _ _ _ hm
  have w0 := open_sub (hval 0 25 v0 rfl rfl) h0
  have k1 := h1
  have lt1 : ∀ x ∈ p1, x.block < W.heap.size := by obtain ⟨m, hm⟩ := k1; exact DataW.trod_lt m _ _ _ hm
  have w1 := open_sub (hval 1 25 v1 rfl rfl) h1
  have k2 := h2
  have lt2 : ∀ x ∈ p2, x.block < W.heap.size := by obtain ⟨m, hm⟩ := k2; exact DataW.trod_lt m _ _ _ hm
  obtain ⟨a2, rfl, _, _, wf2⟩ := open_float Try.underlying26 (hval 2 26 v2 rfl rfl) h2
  have w2 := wb wf2
  clear hA0 hval0
  refine (walk v0 v1 a2 W w0 w1 w2).mono fun e W' ⟨he, bel⟩ => ?_
  subst he
  exact ⟨_, rfl, _, _, _, [], _, [], hW', trodAll_mk1 (shut_bool Try.underlying4 _), (trodAll_cons_mk (Below.trod laidOut (by kernel_rfl) (of_decide_eq_true (by kernel_rfl)) k0 bel lt0) (trodAll_cons_mk (Below.trod laidOut (by kernel_rfl) (of_decide_eq_true (by kernel_rfl)) k1 bel lt1) (trodAll_cons_mk (Below.trod laidOut (by kernel_rfl) (of_decide_eq_true (by kernel_rfl)) k2 bel lt2) trodAll_mk0))), rfl, Below.frame bel _, fun h => by cases h⟩

theorem proved : Rows.SubKeysSaid :=
  OpenClaim.holds_of_wide 3 Try.f3 rfl rfl rfl rfl rfl rfl rfl ⟨rfl, rfl, rfl, rfl, rfl⟩ rfl rfl rfl rfl rfl (by kernel_rfl) Try.func3 (by kernel_rfl)
    (of_decide_eq_true (by kernel_rfl)) (by unfold Func.isWrapper; first | (rw [if_pos (by decide +kernel)]; kernel_rfl) | (rw [if_neg (by decide +kernel)]; exact ⟨rfl, rfl⟩))
    (fun os started H enc _ => lifted os started H enc)
end Go.Proofs.Ythhmojkohdaknaa.subKeysDone
namespace Go.Proofs.Ythhmojkohdaknaa
theorem subKeys_holds : Rows.SubKeysSaid := subKeysDone.proved
#print axioms subKeys_holds
end Go.Proofs.Ythhmojkohdaknaa
