/- The document's Meets; the submission of the law's own; conditions: the rows lie in memory. -/
import Derived.Test.YthhmojkohdaknaaKb
import Derived.Test.YthhmojkohdaknaaDw
namespace Go.Proofs.Ythhmojkohdaknaa
open Go.RowKit
set_option linter.unusedVariables false
attribute [local go_sem] run_bits run_frombits run_store_float eqF
theorem ent_rreads (args : Array Value) (w : World) : (callFunc 8 args).run Try.prog w = .ok (.enter 8 args) w := by kernel_rfl
abbrev M3 (m : Nat) (s1 s2 s3 : Int) (v1 v2 v3 : Value) (n : Nat) (t1 t2 t3 : Int) (u1 u2 u3 : Value) (b o y : Nat) (w : World) : Prop := SubAt m s1 s2 s3 v1 v2 v3 w ∧ SubAt n t1 t2 t3 u1 u2 u3 w ∧ w.cell? ⟨b, o, none⟩ = some (.float .f64 y)
theorem M3.up {m : Nat} {s1 s2 s3 : Int} {v1 v2 v3 : Value} {n : Nat} {t1 t2 t3 : Int} {u1 u2 u3 : Value} {b o y : Nat} {w w' : World} (u : Up w w') (h : M3 m s1 s2 s3 v1 v2 v3 n t1 t2 t3 u1 u2 u3 b o y w) : M3 m s1 s2 s3 v1 v2 v3 n t1 t2 t3 u1 u2 u3 b o y w' := ⟨SubAt.up u h.1, SubAt.up u h.2.1, u.keep h.2.2⟩
set_option maxHeartbeats 2000000 in
theorem rmeets_any (s1 s2 s3 : Int) (a1 a2 a3 : Option Addr) (n1 c1 n2 c2 n3 c3 : Nat) (x1 x3 : Nat → Nat) (f2 : Nat → Sp) (t1 t2 t3 : Int) (b1 b2 b3 : Option Addr) (m1 d1 m2 d2 m3 d3 : Nat) (y3 : Nat → Nat) (w : World) (h1 : FRow w (.slice a1 n1 c1) n1 x1) (h2 : SRow w (.slice a2 n2 c2) n2 f2) (h3 : FRow w (.slice b3 m3 d3) m3 y3) :
    Calls Try.prog 10 #[.agg #[.int .i64 s1, .int .i64 s2, .int .i64 s3, .slice a1 n1 c1, .slice a2 n2 c2, .slice a3 n3 c3], .agg #[.int .i64 t1, .int .i64 t2, .int .i64 t3, .slice b1 m1 d1, .slice b2 m2 d2, .slice b3 m3 d3]] w fun e w' => e = .returned (.bool (Fl.anyG (fun j => (Fl.anyG (fun i => Fl.feq (x1 i) (y3 j)) n1 || Fl.anyG (fun i => Fl.hasS (f2 i) (y3 j)) n2)) m3)) ∧ Up w w' := by
  have HR := hid (fun (W : World) (hW : Up w W) (k : Nat) (hk : Fl.W k) => rreads_any s1 s2 s3 a1 a2 a3 n1 c1 n2 c2 n3 c3 x1 x3 f2 k hk W (h1.up hW) (h2.up hW))
  obtain ⟨hm, a, c, hv, hc⟩ := h3
  cases hv
  have HC := hid hc
  clear hc h1 h2
  generalize hg : (fun j => (Fl.anyG (fun i => Fl.feq (x1 i) (y3 j)) n1 || Fl.anyG (fun i => Fl.hasS (f2 i) (y3 j)) n2)) = g
  have HG := hid hg
  clear hg
  have s0 : SubAt w.heap.size s1 s2 s3 (.slice a1 n1 c1) (.slice a2 n2 c2) (.slice a3 n3 c3) ((w.alloc (.cells #[.int .i64 s1, .int .i64 s2, .int .i64 s3, .slice a1 n1 c1, .slice a2 n2 c2, .slice a3 n3 c3] 25)).alloc (.cells #[.int .i64 t1, .int .i64 t2, .int .i64 t3, .slice b1 m1 d1, .slice b2 m2 d2, .slice b3 m3 d3] 25)) ∧ SubAt (w.heap.size + 1) t1 t2 t3 (.slice b1 m1 d1) (.slice b2 m2 d2) (.slice b3 m3 d3) ((w.alloc (.cells #[.int .i64 s1, .int .i64 s2, .int .i64 s3, .slice a1 n1 c1, .slice a2 n2 c2, .slice a3 n3 c3] 25)).alloc (.cells #[.int .i64 t1, .int .i64 t2, .int .i64 t3, .slice b1 m1 d1, .slice b2 m2 d2, .slice b3 m3 d3] 25)) := by simp [SubAt]
  have HS0 := hid s0
  clear s0
  go_enter Try.func10, Try.ntmps10
  go_wp2
  go_loopw [5] (fun i wr => ∃ j : Nat, j ≤ m3 ∧ i = .int .i64 (j : Nat) ∧ Fl.anyG g j = false ∧ Up w wr ∧ SubAt w.heap.size s1 s2 s3 (.slice a1 n1 c1) (.slice a2 n2 c2) (.slice a3 n3 c3) wr ∧ SubAt (w.heap.size + 1) t1 t2 t3 (.slice b1 m1 d1) (.slice b2 m2 d2) (.slice b3 m3 d3) wr) (fun i _ => m3 - (intOf i).toNat)
  case atStart => exact ⟨0, Nat.zero_le _, rfl, rfl, ((Up.refl w).alloc _).alloc _, HS0.out.1, HS0.out.2⟩
  case round =>
    obtain ⟨j, hj, rfl, h0, hu, hsa, hsb⟩ := hrel
    by_cases hlt : j < m3
    · obtain ⟨bb, off, ha, hWy, hcell⟩ := HC.out j hlt
      subst ha
      have hS : M3 w.heap.size s1 s2 s3 (.slice a1 n1 c1) (.slice a2 n2 c2) (.slice a3 n3 c3) (w.heap.size + 1) t1 t2 t3 (.slice b1 m1 d1) (.slice b2 m2 d2) (.slice (some ⟨bb, off, none⟩) m3 d3) bb (off + j)  (y3 j) wr := ⟨hsa, hsb, hu.keep hcell⟩
      have HRd0 := HR.out
      have hgj : (Fl.anyG (fun i => Fl.feq (x1 i) (y3 j)) n1 || Fl.anyG (fun i => Fl.hasS (f2 i) (y3 j)) n2) = g j := by rw [← HG.out]
      have HRd := hid (fun W (hW : Up w W) => HR.out W hW (y3 j) hWy)
      rw [hgj] at HRd
      have l1 : (0 : Int) ≤ (j : Int) := by omega
      have l2 : (j : Int) < (m3 : Int) := by omega
      have H0 := hid h0
      clear h0 hgj hWy hcell HRd0
      generalize y3 j = Y at *
      cases hg : g j
      · rw [hg] at HRd
        have HS := hid (Fl.anyG_step g j H0.out hg)
        clear hg
        go_upto_region 4 with fail
        refine wp_region_noPanic ?_
        refine wp_region_held_drew (S := M3 w.heap.size s1 s2 s3 (.slice a1 n1 c1) (.slice a2 n2 c2) (.slice a3 n3 c3) (w.heap.size + 1) t1 t2 t3 (.slice b1 m1 d1) (.slice b2 m2 d2) (.slice (some ⟨bb, off, none⟩) m3 d3) bb (off + j) Y) (by kernel_rfl) ?_ (fun hHeld => ?_)
        · exact M3.up ((Up.refl _).drew) hS
        (try simp only [Act.put]); (try simp only [List.setIfInBounds_toArray]); (try simp only [List.set_cons_succ]); (try simp only [List.set_cons_zero])
        clear hHeld
        refine wpAnyH_take (i := 0) (oi := { dst := some 13, op := Op.load 25 (Operand.tmp 2), type := 25, pos := "ref.go:177", after := #[], guard := none }) (v := ?vk1) rfl (by kernel_rfl) (by kernel_rfl) (by kernel_rfl) (fun _ _ _ h => h) (Or.inl ⟨by rfl, ?hk1⟩) (M3.up ((Up.refl wr).drew) hS) ?rk1
        case hk1 => (intro wz hSw; (try dsimp only at hSw); go_simp; try with_reducible rfl)
        (try simp only [Act.put]); (try simp only [List.setIfInBounds_toArray]); (try simp only [List.set_cons_succ]); (try simp only [List.set_cons_zero])
        refine wpAnyH_take (i := 1) (oi := { dst := some 14, op := Op.fieldAddr 25 (Operand.tmp 3) 5, type := 0, pos := "ref.go:177", after := #[], guard := none }) (v := ?vk2) rfl (by kernel_rfl) (by kernel_rfl) (by kernel_rfl) (fun _ _ _ h => h) (Or.inl ⟨by rfl, ?hk2⟩) (M3.up ((Up.refl wr).drew) hS) ?rk2
        case hk2 => (intro wz hSw; (try dsimp only at hSw); go_simp; try with_reducible rfl)
        (try simp only [Act.put]); (try simp only [List.setIfInBounds_toArray]); (try simp only [List.set_cons_succ]); (try simp only [List.set_cons_zero])
        refine wpAnyH_take (i := 2) (oi := { dst := some 15, op := Op.load 22 (Operand.tmp 14), type := 22, pos := "ref.go:177", after := #[{ on := 1, ground := Ground.data }], guard := none }) (v := ?vk3) rfl (by kernel_rfl) (by kernel_rfl) (by kernel_rfl) (fun _ _ _ h => h) (Or.inl ⟨by rfl, ?hk3⟩) (M3.up ((Up.refl wr).drew) hS) ?rk3
        case hk3 => (intro wz hSw; (try dsimp only at hSw); go_simp; try with_reducible rfl)
        (try simp only [Act.put]); (try simp only [List.setIfInBounds_toArray]); (try simp only [List.set_cons_succ]); (try simp only [List.set_cons_zero])
        refine wpAnyH_take (i := 3) (oi := { dst := some 16, op := Op.move (Operand.tmp 5), type := 3, pos := "ref.go:177", after := #[], guard := none }) (v := ?vk4) rfl (by kernel_rfl) (by kernel_rfl) (by kernel_rfl) (fun _ _ _ h => h) (Or.inl ⟨by rfl, ?hk4⟩) (M3.up ((Up.refl wr).drew) hS) ?rk4
        case hk4 => (intro wz hSw; (try dsimp only at hSw); go_simp; try with_reducible rfl)
        (try simp only [Act.put]); (try simp only [List.setIfInBounds_toArray]); (try simp only [List.set_cons_succ]); (try simp only [List.set_cons_zero])
        refine wpAnyH_take (i := 4) (oi := { dst := some 17, op := Op.indexAddr 22 (Operand.tmp 15) (Operand.tmp 16), type := 0, pos := "ref.go:177", after := #[{ on := 2, ground := Ground.data }, { on := 3, ground := Ground.data }], guard := none }) (v := ?vk5) rfl (by kernel_rfl) (by kernel_rfl) (by kernel_rfl) (fun _ _ _ h => h) (Or.inl ⟨by rfl, ?hk5⟩) (M3.up ((Up.refl wr).drew) hS) ?rk5
        case hk5 => (intro wz hSw; (try dsimp only at hSw); go_simp; try with_reducible rfl)
        (try simp only [Act.put]); (try simp only [List.setIfInBounds_toArray]); (try simp only [List.set_cons_succ]); (try simp only [List.set_cons_zero])
        refine wpAnyH_take (i := 5) (oi := { dst := some 18, op := Op.load 26 (Operand.tmp 17), type := 26, pos := "ref.go:177", after := #[{ on := 4, ground := Ground.data }], guard := none }) (v := ?vk6) rfl (by kernel_rfl) (by kernel_rfl) (by kernel_rfl) (fun _ _ _ h => h) (Or.inl ⟨by rfl, ?hk6⟩) (M3.up ((Up.refl wr).drew) hS) ?rk6
        case hk6 => (intro wz hSw; (try dsimp only at hSw); go_simp; try with_reducible rfl)
        (try simp only [Act.put]); (try simp only [List.setIfInBounds_toArray]); (try simp only [List.set_cons_succ]); (try simp only [List.set_cons_zero])
        refine wpAnyH_ready (rs := [6]) (by kernel_rfl) (by simp) ?_
        refine AllReadyH.cons (o := { dst := some 19, op := Op.call { callee := Callee.value (Operand.func 8), args := #[Operand.tmp 13, Operand.tmp 18], argTypes := #[25, 26] }, type := 4, pos := "ref.go:177", after := #[{ on := 0, ground := Ground.data }, { on := 5, ground := Ground.data }], guard := none }) rfl (fun K hK => ?_) AllReadyH.nil
        refine wantCall2 ?_ 8 (.tmp 13) (.tmp 18) #[25, 26] ?_ (.agg #[.int .i64 s1, .int .i64 s2, .int .i64 s3, .slice a1 n1 c1, .slice a2 n2 c2, .slice a3 n3 c3]) (.float .f64 Y) ?_ ?_ ?_ (ent_rreads _ _) ?_
        · rfl
        · rfl
        · rfl
        · rfl
        · rfl
        refine (HRd.out _ (Up.trans hu ((Up.refl wr).drew))).mono ?_
        rintro o x7 ⟨rfl, b7⟩
        refine ⟨_, rfl, ?_⟩
        have U7 := ((Up.refl wr).drew).trans b7
        refine hK.out _ _ (M3.up U7 hS) (fun _ => ?_)
        clear hK K
        (try simp only [Act.put]); (try simp only [List.setIfInBounds_toArray]); (try simp only [List.set_cons_succ]); (try simp only [List.set_cons_zero])
        refine wpAnyH_done (by kernel_rfl) ?_ _
        refine NoPanic.normal ?_
        have U6 := hid U7
        go_wp2
        go_roundw
        case rel => exact ⟨j + 1, hlt, by go_num, HS.out, Up.trans hu U6.out, SubAt.up U6.out hsa, SubAt.up U6.out hsb⟩
        case measure => simp [intOf]; omega
      · have HT := hid (Fl.anyG_true g m3 j hlt hg)
        rw [hg] at HRd
        clear hg
        go_upto_region 4 with fail
        refine wp_region_noPanic ?_
        refine wp_region_held_drew (S := M3 w.heap.size s1 s2 s3 (.slice a1 n1 c1) (.slice a2 n2 c2) (.slice a3 n3 c3) (w.heap.size + 1) t1 t2 t3 (.slice b1 m1 d1) (.slice b2 m2 d2) (.slice (some ⟨bb, off, none⟩) m3 d3) bb (off + j) Y) (by kernel_rfl) ?_ (fun hHeld => ?_)
        · exact M3.up ((Up.refl _).drew) hS
        (try simp only [Act.put]); (try simp only [List.setIfInBounds_toArray]); (try simp only [List.set_cons_succ]); (try simp only [List.set_cons_zero])
        clear hHeld
        refine wpAnyH_take (i := 0) (oi := { dst := some 13, op := Op.load 25 (Operand.tmp 2), type := 25, pos := "ref.go:177", after := #[], guard := none }) (v := ?vk8) rfl (by kernel_rfl) (by kernel_rfl) (by kernel_rfl) (fun _ _ _ h => h) (Or.inl ⟨by rfl, ?hk8⟩) (M3.up ((Up.refl wr).drew) hS) ?rk8
        case hk8 => (intro wz hSw; (try dsimp only at hSw); go_simp; try with_reducible rfl)
        (try simp only [Act.put]); (try simp only [List.setIfInBounds_toArray]); (try simp only [List.set_cons_succ]); (try simp only [List.set_cons_zero])
        refine wpAnyH_take (i := 1) (oi := { dst := some 14, op := Op.fieldAddr 25 (Operand.tmp 3) 5, type := 0, pos := "ref.go:177", after := #[], guard := none }) (v := ?vk9) rfl (by kernel_rfl) (by kernel_rfl) (by kernel_rfl) (fun _ _ _ h => h) (Or.inl ⟨by rfl, ?hk9⟩) (M3.up ((Up.refl wr).drew) hS) ?rk9
        case hk9 => (intro wz hSw; (try dsimp only at hSw); go_simp; try with_reducible rfl)
        (try simp only [Act.put]); (try simp only [List.setIfInBounds_toArray]); (try simp only [List.set_cons_succ]); (try simp only [List.set_cons_zero])
        refine wpAnyH_take (i := 2) (oi := { dst := some 15, op := Op.load 22 (Operand.tmp 14), type := 22, pos := "ref.go:177", after := #[{ on := 1, ground := Ground.data }], guard := none }) (v := ?vk10) rfl (by kernel_rfl) (by kernel_rfl) (by kernel_rfl) (fun _ _ _ h => h) (Or.inl ⟨by rfl, ?hk10⟩) (M3.up ((Up.refl wr).drew) hS) ?rk10
        case hk10 => (intro wz hSw; (try dsimp only at hSw); go_simp; try with_reducible rfl)
        (try simp only [Act.put]); (try simp only [List.setIfInBounds_toArray]); (try simp only [List.set_cons_succ]); (try simp only [List.set_cons_zero])
        refine wpAnyH_take (i := 3) (oi := { dst := some 16, op := Op.move (Operand.tmp 5), type := 3, pos := "ref.go:177", after := #[], guard := none }) (v := ?vk11) rfl (by kernel_rfl) (by kernel_rfl) (by kernel_rfl) (fun _ _ _ h => h) (Or.inl ⟨by rfl, ?hk11⟩) (M3.up ((Up.refl wr).drew) hS) ?rk11
        case hk11 => (intro wz hSw; (try dsimp only at hSw); go_simp; try with_reducible rfl)
        (try simp only [Act.put]); (try simp only [List.setIfInBounds_toArray]); (try simp only [List.set_cons_succ]); (try simp only [List.set_cons_zero])
        refine wpAnyH_take (i := 4) (oi := { dst := some 17, op := Op.indexAddr 22 (Operand.tmp 15) (Operand.tmp 16), type := 0, pos := "ref.go:177", after := #[{ on := 2, ground := Ground.data }, { on := 3, ground := Ground.data }], guard := none }) (v := ?vk12) rfl (by kernel_rfl) (by kernel_rfl) (by kernel_rfl) (fun _ _ _ h => h) (Or.inl ⟨by rfl, ?hk12⟩) (M3.up ((Up.refl wr).drew) hS) ?rk12
        case hk12 => (intro wz hSw; (try dsimp only at hSw); go_simp; try with_reducible rfl)
        (try simp only [Act.put]); (try simp only [List.setIfInBounds_toArray]); (try simp only [List.set_cons_succ]); (try simp only [List.set_cons_zero])
        refine wpAnyH_take (i := 5) (oi := { dst := some 18, op := Op.load 26 (Operand.tmp 17), type := 26, pos := "ref.go:177", after := #[{ on := 4, ground := Ground.data }], guard := none }) (v := ?vk13) rfl (by kernel_rfl) (by kernel_rfl) (by kernel_rfl) (fun _ _ _ h => h) (Or.inl ⟨by rfl, ?hk13⟩) (M3.up ((Up.refl wr).drew) hS) ?rk13
        case hk13 => (intro wz hSw; (try dsimp only at hSw); go_simp; try with_reducible rfl)
        (try simp only [Act.put]); (try simp only [List.setIfInBounds_toArray]); (try simp only [List.set_cons_succ]); (try simp only [List.set_cons_zero])
        refine wpAnyH_ready (rs := [6]) (by kernel_rfl) (by simp) ?_
        refine AllReadyH.cons (o := { dst := some 19, op := Op.call { callee := Callee.value (Operand.func 8), args := #[Operand.tmp 13, Operand.tmp 18], argTypes := #[25, 26] }, type := 4, pos := "ref.go:177", after := #[{ on := 0, ground := Ground.data }, { on := 5, ground := Ground.data }], guard := none }) rfl (fun K hK => ?_) AllReadyH.nil
        refine wantCall2 ?_ 8 (.tmp 13) (.tmp 18) #[25, 26] ?_ (.agg #[.int .i64 s1, .int .i64 s2, .int .i64 s3, .slice a1 n1 c1, .slice a2 n2 c2, .slice a3 n3 c3]) (.float .f64 Y) ?_ ?_ ?_ (ent_rreads _ _) ?_
        · rfl
        · rfl
        · rfl
        · rfl
        · rfl
        refine (HRd.out _ (Up.trans hu ((Up.refl wr).drew))).mono ?_
        rintro o x14 ⟨rfl, b14⟩
        refine ⟨_, rfl, ?_⟩
        have U14 := ((Up.refl wr).drew).trans b14
        refine hK.out _ _ (M3.up U14 hS) (fun _ => ?_)
        clear hK K
        (try simp only [Act.put]); (try simp only [List.setIfInBounds_toArray]); (try simp only [List.set_cons_succ]); (try simp only [List.set_cons_zero])
        refine wpAnyH_done (by kernel_rfl) ?_ _
        refine NoPanic.normal ?_
        have U6 := hid U14
        go_wp2
        go_ret
        exact ⟨ret_b HT.out.symm, Up.trans hu U6.out⟩
    · obtain rfl : j = m3 := by omega
      have H0 := hid h0
      clear h0
      go_wp2
      go_ret
      exact ⟨ret_b H0.out.symm, hu⟩
theorem frow_lit (w : World) (g n c : Nat) (x : Nat → Nat) (hn : n ≤ 9223372036854775807) (h : ∀ i, i < n → Fl.W (x i) ∧ w.cell? ⟨g, i, none⟩ = some (.float .f64 (x i))) : FRow w (.slice (some ⟨g, 0, none⟩) n c) n x := ⟨hn, _, _, rfl, fun i hi => ⟨g, 0, rfl, (h i hi).1, by rw [Nat.zero_add]; exact (h i hi).2⟩⟩
set_option maxHeartbeats 1000000 in
theorem small_any (w : World) :
    Calls Try.prog 5 #[] w fun e w' => ∃ g1 g2 g3 : Nat, e = .returned (.agg #[.int .i64 1, .int .i64 2, .int .i64 0, .slice (some ⟨g1, 0, none⟩) 2 2, .slice (some ⟨g2, 0, none⟩) 1 1, .slice (some ⟨g3, 0, none⟩) 1 1]) ∧ FRow w' (.slice (some ⟨g1, 0, none⟩) 2 2) 2 (fun j => if j = 0 then 4607182418800017408 else 4613937818241073152) ∧ SRow w' (.slice (some ⟨g2, 0, none⟩) 1 1) 1 (fun _ => ⟨4607182418800017408, 4613937818241073152, false, false⟩) ∧ FRow w' (.slice (some ⟨g3, 0, none⟩) 1 1) 1 (fun _ => 4611686018427387904) ∧ Up w w' := by
  have z1 : Fl.W 4607182418800017408 := by unfold Fl.W; decide
  have z2 : Fl.W 4611686018427387904 := by unfold Fl.W; decide
  have z3 : Fl.W 4613937818241073152 := by unfold Fl.W; decide
  go_enter Try.func5, Try.ntmps5
  go_wp2
  refine bodyPost_ret (v := .agg #[.int .i64 1, .int .i64 2, .int .i64 0, .slice (some ⟨w.heap.size + 1, 0, none⟩) 2 2, .slice (some ⟨w.heap.size + 1 + 1, 0, none⟩) 1 1, .slice (some ⟨w.heap.size + 1 + 1 + 1, 0, none⟩) 1 1]) (by simp [results, Try.results5, go_sem]) rfl ⟨w.heap.size + 1, w.heap.size + 1 + 1, w.heap.size + 1 + 1 + 1, rfl, frow_lit _ _ _ _ _ (by omega) (fun i hi => ?_), ⟨by omega, _, _, rfl, fun i hi => ⟨_, 0, rfl, z1, z3, ?_⟩⟩, frow_lit _ _ _ _ _ (by omega) (fun i hi => ?_), (((Up.refl w).alloc _).alloc _).alloc _ |>.alloc _⟩
  · match i, hi with
    | 0, _ => exact ⟨z1, by simp [go_sem]⟩
    | 1, _ => exact ⟨z3, by simp [go_sem]⟩
  · obtain rfl : i = 0 := by omega
    refine ⟨?_, ?_, ?_, ?_⟩ <;> simp [go_sem]
  · obtain rfl : i = 0 := by omega
    exact ⟨z2, by simp [go_sem]⟩
def SubV (w : World) (v : Value) : Prop := ∃ (s1 s2 s3 : Int) (a1 a2 a3 : Option Addr) (n1 c1 n2 c2 n3 c3 : Nat) (x1 x3 : Nat → Nat) (f2 : Nat → Sp), v = .agg #[.int .i64 s1, .int .i64 s2, .int .i64 s3, .slice a1 n1 c1, .slice a2 n2 c2, .slice a3 n3 c3] ∧ FRow w (.slice a1 n1 c1) n1 x1 ∧ SRow w (.slice a2 n2 c2) n2 f2 ∧ FRow w (.slice a3 n3 c3) n3 x3
theorem small_reads (g1 g2 g3 : Nat) (W : World) (r1 : FRow W (.slice (some ⟨g1, 0, none⟩) 2 2) 2 (fun j => if j = 0 then 4607182418800017408 else 4613937818241073152)) (r2 : SRow W (.slice (some ⟨g2, 0, none⟩) 1 1) 1 (fun _ => ⟨4607182418800017408, 4613937818241073152, false, false⟩)) :
    Calls Try.prog 4 #[.agg #[.int .i64 1, .int .i64 2, .int .i64 0, .slice (some ⟨g1, 0, none⟩) 2 2, .slice (some ⟨g2, 0, none⟩) 1 1, .slice (some ⟨g3, 0, none⟩) 1 1], .float .f64 4612811918334230528] W fun e w' => e = .returned (.bool true) ∧ Up W w' := by
  have H := reads_any 1 2 0 _ _ (some ⟨g3, 0, none⟩) 2 2 1 1 1 1 _ (fun _ => 0) _ 4612811918334230528 (by unfold Fl.W; decide) W r1 r2
  rw [show (Fl.anyG (fun i => Fl.feq ((fun j => if j = 0 then 4607182418800017408 else 4613937818241073152) i) 4612811918334230528) 2 || Fl.anyG (fun i => Fl.hasS ((fun _ => (⟨4607182418800017408, 4613937818241073152, false, false⟩ : Sp)) i) 4612811918334230528) 1) = true by decide +kernel] at H
  exact H
theorem small_writes (g1 g2 g3 : Nat) (W : World) (r3 : FRow W (.slice (some ⟨g3, 0, none⟩) 1 1) 1 (fun _ => 4611686018427387904)) :
    Calls Try.prog 6 #[.agg #[.int .i64 1, .int .i64 2, .int .i64 0, .slice (some ⟨g1, 0, none⟩) 2 2, .slice (some ⟨g2, 0, none⟩) 1 1, .slice (some ⟨g3, 0, none⟩) 1 1], .float .f64 4607182418800017408] W fun e w' => e = .returned (.bool false) ∧ Up W w' := by
  have H := writes_any 1 2 0 (some ⟨g1, 0, none⟩) (some ⟨g2, 0, none⟩) _ 2 2 1 1 1 1 (fun _ => 0) _ (fun _ => ⟨0, 0, false, false⟩) 4607182418800017408 W r3
  rw [show Fl.anyG (fun i => Fl.feq ((fun _ => 4611686018427387904) i) 4607182418800017408) 1 = false by decide +kernel] at H
  exact H
theorem small_meets (g1 g2 g3 e1 e2 e3 : Nat) (W : World) (r1 : FRow W (.slice (some ⟨g1, 0, none⟩) 2 2) 2 (fun j => if j = 0 then 4607182418800017408 else 4613937818241073152)) (r2 : SRow W (.slice (some ⟨g2, 0, none⟩) 1 1) 1 (fun _ => ⟨4607182418800017408, 4613937818241073152, false, false⟩)) (r3 : FRow W (.slice (some ⟨e3, 0, none⟩) 1 1) 1 (fun _ => 4611686018427387904)) :
    Calls Try.prog 7 #[.agg #[.int .i64 1, .int .i64 2, .int .i64 0, .slice (some ⟨g1, 0, none⟩) 2 2, .slice (some ⟨g2, 0, none⟩) 1 1, .slice (some ⟨g3, 0, none⟩) 1 1], .agg #[.int .i64 1, .int .i64 2, .int .i64 0, .slice (some ⟨e1, 0, none⟩) 2 2, .slice (some ⟨e2, 0, none⟩) 1 1, .slice (some ⟨e3, 0, none⟩) 1 1]] W fun e w' => e = .returned (.bool true) ∧ Up W w' := by
  have H := meets_any 1 2 0 _ _ (some ⟨g3, 0, none⟩) 2 2 1 1 1 1 _ (fun _ => 0) _ 1 2 0 (some ⟨e1, 0, none⟩) (some ⟨e2, 0, none⟩) _ 2 2 1 1 1 1 _ W r1 r2 r3
  rw [show Fl.anyG (fun j => (Fl.anyG (fun i => Fl.feq ((fun j => if j = 0 then 4607182418800017408 else 4613937818241073152) i) ((fun _ => 4611686018427387904) j)) 2 || Fl.anyG (fun i => Fl.hasS ((fun _ => (⟨4607182418800017408, 4613937818241073152, false, false⟩ : Sp)) i) ((fun _ => 4611686018427387904) j)) 1)) 1 = true by decide +kernel] at H
  exact H
end Go.Proofs.Ythhmojkohdaknaa
