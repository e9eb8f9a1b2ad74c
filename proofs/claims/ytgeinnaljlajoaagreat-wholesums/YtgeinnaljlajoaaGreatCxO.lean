/- cert.read, summary.meet and Cert.meet at every submission; conditions: the rows and the Cert lie in memory. -/
import Derived.Test.YtgeinnaljlajoaaGreatSqa
import Derived.Test.YtgeinnaljlajoaaGreatCxN
namespace Go.Proofs.YtgeinnaljlajoaaGreat
abbrev oCe50 : Oper := { dst := some 5, op := .fieldAddr 25 (.tmp 2) 3, type := 0, pos := "summary.go:49", after := #[], guard := none }
abbrev oCe51 : Oper := { dst := some 6, op := .load 22 (.tmp 5), type := 22, pos := "summary.go:49", after := #[⟨0, .data⟩], guard := none }
abbrev oCe52 : Oper := { dst := some 7, op := .move (.tmp 1), type := 52, pos := "summary.go:49", after := #[], guard := none }
abbrev oCe53 : Oper := { dst := some 8, op := .makeFunc (.func 84) #[.tmp 7] #[], type := 129, pos := "summary.go:49", after := #[⟨2, .data⟩], guard := none }
abbrev oCe54 : Oper := { dst := some 10, op := .fieldAddr 25 (.tmp 2) 4, type := 0, pos := "summary.go:49", after := #[], guard := none }
abbrev oCe55 : Oper := { dst := some 11, op := .load 23 (.tmp 10), type := 23, pos := "summary.go:49", after := #[⟨5, .data⟩], guard := none }
abbrev oCe56 : Oper := { dst := some 12, op := .move (.tmp 1), type := 52, pos := "summary.go:49", after := #[], guard := none }
abbrev oCe57 : Oper := { dst := some 13, op := .makeFunc (.func 112) #[.tmp 12] #[], type := 154, pos := "summary.go:49", after := #[⟨7, .data⟩], guard := none }
abbrev oCe58 : Oper := { dst := some 9, op := .call { callee := Callee.value (.func 83), args := #[.tmp 6, .tmp 8], argTypes := #[22, 129] }, type := 2, pos := "summary.go:49", after := #[⟨1, .data⟩, ⟨3, .data⟩], guard := none }
abbrev oCe59 : Oper := { dst := some 14, op := .call { callee := Callee.value (.func 111), args := #[.tmp 11, .tmp 13], argTypes := #[23, 154] }, type := 2, pos := "summary.go:49", after := #[⟨6, .data⟩, ⟨8, .data⟩, ⟨4, .chain⟩], guard := none }
abbrev oCe510 : Oper := { dst := some 15, op := .call { callee := Callee.builtin Builtin.max, args := #[.tmp 9, .tmp 14], argTypes := #[2, 2] }, type := 2, pos := "summary.go:49", after := #[⟨4, .data⟩, ⟨9, .data⟩], guard := none }
abbrev oCe511 : Oper := { dst := some 4, op := .assign (.tmp 15), type := 2, pos := "summary.go:49", after := #[⟨10, .data⟩, ⟨9, .chain⟩, ⟨0, .phase⟩, ⟨1, .phase⟩, ⟨2, .phase⟩, ⟨3, .phase⟩, ⟨4, .phase⟩, ⟨5, .phase⟩, ⟨6, .phase⟩, ⟨7, .phase⟩, ⟨8, .phase⟩, ⟨9, .phase⟩, ⟨10, .phase⟩], guard := none }
abbrev oCe512 : Oper := { dst := some 7, op := .fieldAddr 25 (.tmp 3) 5, type := 0, pos := "summary.go:33", after := #[], guard := none }
abbrev oCe513 : Oper := { dst := some 8, op := .load 22 (.tmp 7), type := 22, pos := "summary.go:33", after := #[⟨0, .data⟩], guard := none }
abbrev oCe514 : Oper := { dst := some 9, op := .fieldAddr 55 (.tmp 2) 0, type := 0, pos := "summary.go:33", after := #[], guard := none }
abbrev oCe515 : Oper := { dst := some 10, op := .load 52 (.tmp 9), type := 52, pos := "summary.go:33", after := #[⟨2, .data⟩], guard := none }
abbrev oCe516 : Oper := { dst := some 11, op := .makeFunc (.func 84) #[.tmp 10] #[], type := 129, pos := "summary.go:33", after := #[⟨3, .data⟩], guard := none }
abbrev oCe517 : Oper := { dst := some 13, op := .fieldAddr 25 (.tmp 3) 2, type := 0, pos := "summary.go:33", after := #[], guard := none }
abbrev oCe518 : Oper := { dst := some 14, op := .load 2 (.tmp 13), type := 2, pos := "summary.go:33", after := #[⟨6, .data⟩], guard := none }
abbrev oCe519 : Oper := { dst := some 16, op := .load 25 (.tmp 3), type := 25, pos := "summary.go:33", after := #[], guard := none }
abbrev oCe520 : Oper := { dst := some 17, op := .fieldAddr 55 (.tmp 2) 1, type := 0, pos := "summary.go:33", after := #[], guard := none }
abbrev oCe521 : Oper := { dst := some 18, op := .load 52 (.tmp 17), type := 52, pos := "summary.go:33", after := #[⟨10, .data⟩], guard := none }
abbrev oCe522 : Oper := { dst := some 20, op := .fieldAddr 25 (.tmp 3) 2, type := 0, pos := "summary.go:33", after := #[], guard := none }
abbrev oCe523 : Oper := { dst := some 21, op := .load 2 (.tmp 20), type := 2, pos := "summary.go:33", after := #[⟨13, .data⟩], guard := none }
abbrev oCe524 : Oper := { dst := some 12, op := .call { callee := Callee.value (.func 83), args := #[.tmp 8, .tmp 11], argTypes := #[22, 129] }, type := 2, pos := "summary.go:34", after := #[⟨1, .data⟩, ⟨4, .data⟩], guard := none }
abbrev oCe525 : Oper := { dst := some 5, op := .alloc 64, type := 0, pos := "summary.go:33", after := #[], guard := none }
abbrev oCe526 : Oper := { dst := some 15, op := .binOp .gtr 2 (.tmp 12) (.tmp 14) 2, type := 4, pos := "summary.go:33", after := #[⟨5, .data⟩, ⟨7, .data⟩], guard := none }
abbrev oCe527 : Oper := { dst := some 19, op := .call { callee := Callee.value (.func 85), args := #[.tmp 16, .tmp 18], argTypes := #[25, 52] }, type := 2, pos := "summary.go:35", after := #[⟨9, .data⟩, ⟨11, .data⟩, ⟨5, .chain⟩], guard := none }
abbrev oCe528 : Oper := { dst := some 22, op := .binOp .gtr 2 (.tmp 19) (.tmp 21) 2, type := 4, pos := "summary.go:33", after := #[⟨12, .data⟩, ⟨14, .data⟩], guard := none }
abbrev oCe529 : Oper := { dst := some 23, op := .build 64 #[(0, .tmp 15), (1, .tmp 22)], type := 64, pos := "summary.go:33", after := #[⟨8, .data⟩, ⟨15, .data⟩], guard := none }
abbrev oCe530 : Oper := { dst := none, op := .store 64 (.tmp 5) (.tmp 23), type := 0, pos := "summary.go:33", after := #[⟨17, .data⟩, ⟨16, .data⟩, ⟨12, .chain⟩, ⟨0, .phase⟩, ⟨1, .phase⟩, ⟨2, .phase⟩, ⟨3, .phase⟩, ⟨4, .phase⟩, ⟨5, .phase⟩, ⟨6, .phase⟩, ⟨7, .phase⟩, ⟨8, .phase⟩, ⟨9, .phase⟩, ⟨10, .phase⟩, ⟨11, .phase⟩, ⟨12, .phase⟩, ⟨13, .phase⟩, ⟨14, .phase⟩, ⟨15, .phase⟩, ⟨16, .phase⟩, ⟨17, .phase⟩], guard := none }
abbrev oCe531 : Oper := { dst := some 24, op := .load 25 (.tmp 3), type := 25, pos := "summary.go:38", after := #[], guard := none }
abbrev oCe532 : Oper := { dst := some 25, op := .fieldAddr 55 (.tmp 2) 0, type := 0, pos := "summary.go:38", after := #[], guard := none }
abbrev oCe533 : Oper := { dst := some 26, op := .load 52 (.tmp 25), type := 52, pos := "summary.go:38", after := #[⟨1, .data⟩], guard := none }
abbrev oCe534 : Oper := { dst := some 28, op := .fieldAddr 25 (.tmp 3) 2, type := 0, pos := "summary.go:38", after := #[], guard := none }
abbrev oCe535 : Oper := { dst := some 29, op := .load 2 (.tmp 28), type := 2, pos := "summary.go:38", after := #[⟨4, .data⟩], guard := none }
abbrev oCe536 : Oper := { dst := some 27, op := .call { callee := Callee.value (.func 85), args := #[.tmp 24, .tmp 26], argTypes := #[25, 52] }, type := 2, pos := "summary.go:38", after := #[⟨0, .data⟩, ⟨2, .data⟩], guard := none }
abbrev oCe537 : Oper := { dst := some 30, op := .binOp .gtr 2 (.tmp 27) (.tmp 29) 2, type := 4, pos := "summary.go:38", after := #[⟨3, .data⟩, ⟨5, .data⟩], guard := none }
abbrev oCe538 : Oper := { dst := some 35, op := .fieldAddr 25 (.tmp 3) 5, type := 0, pos := "summary.go:41", after := #[], guard := none }
abbrev oCe539 : Oper := { dst := some 36, op := .load 22 (.tmp 35), type := 22, pos := "summary.go:41", after := #[⟨0, .data⟩], guard := none }
abbrev oCe540 : Oper := { dst := some 37, op := .fieldAddr 55 (.tmp 2) 2, type := 0, pos := "summary.go:41", after := #[], guard := none }
abbrev oCe541 : Oper := { dst := some 38, op := .load 52 (.tmp 37), type := 52, pos := "summary.go:41", after := #[⟨2, .data⟩], guard := none }
abbrev oCe542 : Oper := { dst := some 39, op := .makeFunc (.func 84) #[.tmp 38] #[], type := 129, pos := "summary.go:41", after := #[⟨3, .data⟩], guard := none }
abbrev oCe543 : Oper := { dst := some 41, op := .fieldAddr 25 (.tmp 3) 5, type := 0, pos := "summary.go:41", after := #[], guard := none }
abbrev oCe544 : Oper := { dst := some 42, op := .load 22 (.tmp 41), type := 22, pos := "summary.go:41", after := #[⟨6, .data⟩], guard := none }
abbrev oCe545 : Oper := { dst := some 43, op := .fieldAddr 55 (.tmp 2) 3, type := 0, pos := "summary.go:41", after := #[], guard := none }
abbrev oCe546 : Oper := { dst := some 44, op := .load 53 (.tmp 43), type := 53, pos := "summary.go:41", after := #[⟨8, .data⟩], guard := none }
abbrev oCe547 : Oper := { dst := some 45, op := .makeFunc (.func 86) #[.tmp 44] #[], type := 129, pos := "summary.go:41", after := #[⟨9, .data⟩], guard := none }
abbrev oCe548 : Oper := { dst := some 40, op := .call { callee := Callee.value (.func 83), args := #[.tmp 36, .tmp 39], argTypes := #[22, 129] }, type := 2, pos := "summary.go:41", after := #[⟨1, .data⟩, ⟨4, .data⟩], guard := none }
abbrev oCe549 : Oper := { dst := some 46, op := .call { callee := Callee.value (.func 83), args := #[.tmp 42, .tmp 45], argTypes := #[22, 129] }, type := 2, pos := "summary.go:41", after := #[⟨7, .data⟩, ⟨10, .data⟩, ⟨5, .chain⟩], guard := none }
abbrev oCe550 : Oper := { dst := some 47, op := .call { callee := Callee.builtin Builtin.max, args := #[.tmp 40, .tmp 46], argTypes := #[2, 2] }, type := 2, pos := "summary.go:41", after := #[⟨5, .data⟩, ⟨11, .data⟩], guard := none }
abbrev oCe551 : Oper := { dst := some 6, op := .assign (.tmp 47), type := 2, pos := "summary.go:41", after := #[⟨12, .data⟩, ⟨11, .chain⟩, ⟨0, .phase⟩, ⟨1, .phase⟩, ⟨2, .phase⟩, ⟨3, .phase⟩, ⟨4, .phase⟩, ⟨5, .phase⟩, ⟨6, .phase⟩, ⟨7, .phase⟩, ⟨8, .phase⟩, ⟨9, .phase⟩, ⟨10, .phase⟩, ⟨11, .phase⟩, ⟨12, .phase⟩], guard := none }
open Go.RowKit Go.Lib
set_option linter.unusedVariables false
set_option linter.unusedSimpArgs false
set_option maxRecDepth 20000
attribute [local go_sem] run_bits run_frombits run_store_float eqF
theorem alloc_at (w : World) (o : Obj) : (w.alloc o).heap[w.heap.size]? = some o := by
 show (w.heap.push o)[w.heap.size]? = some o
 simp
theorem mostL {L : Nat} {most : Int} (h : (L : Int) ≤ most) (hm : most ≤ 64) : L ≤ 1000000 := by omega
theorem greatA_tab (v : Value) (n : Nat) (x : Nat → Nat) (base b : Nat) (most : Int) (tv : Value) (L : List Vx.It) (w : World) (hv : FRow w v n x) (h : Vx.TabAt base w b most tv L) (hG : Vx.Good L) (hL : L.length ≤ 1000000) :
    Calls Tryz.prog 83 #[v, .func (.func 84) #[.pointer (some ⟨b, 0, none⟩)] #[]] w fun e w' => e = .returned (.int .i64 (gA L (lsG x n))) ∧ Old w w' := by
 have q := greatA_any v n x (fun i => Vx.atL (Fl.code (x i)) L) b w hv (fun i hi W u => Vx.at_any base b most tv L (x i) (hv.ws i hi) W (h.old u) hG hL)
 rw [mxG_list x (fun k => Vx.atL (Fl.code k) L)] at q
 exact q
theorem greatP_tab (v : Value) (n : Nat) (x : Nat → Nat) (base b : Nat) (most : Int) (tv : Value) (L : List Py.It) (w : World) (hv : FRow w v n x) (h : Py.TabAt base w b most tv L) (hG : Py.Good L) (hL : L.length ≤ 1000000) :
    Calls Tryz.prog 83 #[v, .func (.func 86) #[.pointer (some ⟨b, 0, none⟩)] #[]] w fun e w' => e = .returned (.int .i64 (gP L (lsG x n))) ∧ Old w w' := by
 have q := greatP_any v n x (fun i => Py.overT (x i) L L.length) b w hv (fun i hi W u => Py.at_any base b most tv L (x i) (hv.ws i hi) W (h.old u) hG hL)
 rw [mxG_list x (fun k => Py.overT k L L.length)] at q
 exact q
theorem greatO_tab (v : Value) (n : Nat) (x : Nat → Sp) (base b : Nat) (most : Int) (tv : Value) (L : List Vx.It) (w : World) (hv : SRow w v n x) (h : Vx.TabAt base w b most tv L) (hG : Vx.Good L) (hL : L.length ≤ 1000000) :
    Calls Tryz.prog 111 #[v, .func (.func 112) #[.pointer (some ⟨b, 0, none⟩)] #[]] w fun e w' => e = .returned (.int .i64 (gO L (lsG x n))) ∧ Old w w' := by
 have q := greatO_any v n x (fun i => Vx.overT (Vx.hasB (x i).a (x i).b (x i).p (x i).q) L L.length) b w hv (fun i hi W u => Vx.over_any base b most tv L (x i).a (x i).b (hv.ws i hi).1 (hv.ws i hi).2 (x i).p (x i).q W (h.old u) hG hL)
 rw [mxG_list x (fun s => Vx.overT (Vx.hasB s.a s.b s.p s.q) L L.length)] at q
 exact q
theorem SB6.old {m : Nat} {s1 s2 s3 : Int} {v1 v2 v3 : Value} {w w' : World} (u : Old w w') (h : SB6 m s1 s2 s3 v1 v2 v3 w) : SB6 m s1 s2 s3 v1 v2 v3 w' := ⟨u.keep h.1, u.keep h.2.1, u.keep h.2.2.1, u.keep h.2.2.2.1, u.keep h.2.2.2.2.1, u.keep h.2.2.2.2.2⟩
set_option maxHeartbeats 4000000 in
theorem read_any (s : Sb) (base b : Nat) (most : Int) (tv : Value) (L : List Vx.It) (w : World) (hs : s.Ok w) (h : Vx.TabAt base w b most tv L) (hG : Vx.Good L) (hL : L.length ≤ 1000000) :
    Calls Tryz.prog 85 #[.agg #[.int .i64 s.s1, .int .i64 s.s2, .int .i64 s.s3, .slice s.a1 s.n1 s.c1, .slice s.a2 s.n2 s.c2, .slice s.a3 s.n3 s.c3], .pointer (some ⟨b, 0, none⟩)] w fun e w' => e = .returned (.int .i64 (rdU s.pl L)) ∧ Old w w' := by
 have HG1 := hid (fun (W : World) (u : Old w W) => greatA_tab _ s.n1 s.x1 base b most tv L W (hs.h1.old u) (h.old u) hG hL)
 have HG2 := hid (fun (W : World) (u : Old w W) => greatO_tab _ s.n2 s.f2 base b most tv L W (hs.h2.old u) (h.old u) hG hL)
 have HE := hid (show rdU s.pl L = max (gA L (lsG s.x1 s.n1)) (gO L (lsG s.f2 s.n2)) from rfl)
 generalize rdU s.pl L = R at *
 generalize gA L (lsG s.x1 s.n1) = g1 at *
 generalize gO L (lsG s.f2 s.n2) = g2 at *
 obtain ⟨s1, s2, s3, a1, a2, a3, n1, n2, n3, c1, c2, c3, x1, x3, f2⟩ := s
 dsimp only at HG1 HG2 ⊢
 clear hs h x1 x3 f2
 go_enter Tryz.func85, Tryz.ntmps85
 go_upto_region 1 with fail
 have U0 := hid ((Old.refl w).alloc (.cells #[.int .i64 s1, .int .i64 s2, .int .i64 s3, .slice a1 n1 c1, .slice a2 n2 c2, .slice a3 n3 c3] 25))
 have S0 := hid (box6K (alloc_at w (.cells #[.int .i64 s1, .int .i64 s2, .int .i64 s3, .slice a1 n1 c1, .slice a2 n2 c2, .slice a3 n3 c3] 25)))
 generalize w.alloc (.cells #[.int .i64 s1, .int .i64 s2, .int .i64 s3, .slice a1 n1 c1, .slice a2 n2 c2, .slice a3 n3 c3] 25) = w0 at *
 generalize w.heap.size = sb at *
 have HC1 := hid (fun (W : World) (u : Old w0 W) => HG1.out W (U0.out.trans u))
 have HC2 := hid (fun (W : World) (u : Old w0 W) => HG2.out W (U0.out.trans u))
 clear HG1 HG2
 refine wp_region_noPanic ?_
 refine wp_region_held_drew (S := SB6 sb s1 s2 s3 (.slice a1 n1 c1) (.slice a2 n2 c2) (.slice a3 n3 c3)) (by kernel_rfl) ?_ (fun hHeld => ?_)
 ·exact SB6.old ((Old.refl _).drew) S0.out
 try simp only [Act.put, puA, puB, puC]
 clear hHeld
 refine tkA (i := 0) (oi := oCe50) (SB6.old ((Old.refl w0).drew) S0.out) ?_
 try simp only [Act.put, puA, puB, puC]
 refine tkA (i := 1) (oi := oCe51) (SB6.old ((Old.refl w0).drew) S0.out) ?_
 try simp only [Act.put, puA, puB, puC]
 refine tkA (i := 2) (oi := oCe52) (SB6.old ((Old.refl w0).drew) S0.out) ?_
 try simp only [Act.put, puA, puB, puC]
 refine tkA (i := 3) (oi := oCe53) (SB6.old ((Old.refl w0).drew) S0.out) ?_
 try simp only [Act.put, puA, puB, puC]
 refine tkA (i := 5) (oi := oCe54) (SB6.old ((Old.refl w0).drew) S0.out) ?_
 try simp only [Act.put, puA, puB, puC]
 refine tkA (i := 6) (oi := oCe55) (SB6.old ((Old.refl w0).drew) S0.out) ?_
 try simp only [Act.put, puA, puB, puC]
 refine tkA (i := 7) (oi := oCe56) (SB6.old ((Old.refl w0).drew) S0.out) ?_
 try simp only [Act.put, puA, puB, puC]
 refine tkA (i := 8) (oi := oCe57) (SB6.old ((Old.refl w0).drew) S0.out) ?_
 try simp only [Act.put, puA, puB, puC]
 refine rdB 4 oCe58 fun K hK => ?_
 refine wantCall2 ?_ 83 (.tmp 6) (.tmp 8) #[22, 129] ?_ (.slice a1 n1 c1) (.func (.func 84) #[.pointer (some ⟨b, 0, none⟩)] #[]) ?_ ?_ ?_ ((enters_of Tryz.func83 (by kernel_rfl) rfl) _ _) ?_
 iterate 5 rfl
 refine (HC1.out _ ((Old.refl w0).drew)).mono ?_
 rintro o x9 ⟨rfl, b9⟩
 refine ⟨_, rfl, ?_⟩
 have U9 := ((Old.refl w0).drew).trans b9
 refine hK.out _ _ (SB6.old U9 S0.out) (fun _ => ?_)
 clear hK K
 try simp only [Act.put, puA, puB, puC]
 refine rdB 9 oCe59 fun K hK => ?_
 refine wantCall2 ?_ 111 (.tmp 11) (.tmp 13) #[23, 154] ?_ (.slice a2 n2 c2) (.func (.func 112) #[.pointer (some ⟨b, 0, none⟩)] #[]) ?_ ?_ ?_ ((enters_of Tryz.func111 (by kernel_rfl) rfl) _ _) ?_
 iterate 5 rfl
 refine (HC2.out _ U9).mono ?_
 rintro o x10 ⟨rfl, b10⟩
 refine ⟨_, rfl, ?_⟩
 have U10 := U9.trans b10
 refine hK.out _ _ (SB6.old U10 S0.out) (fun _ => ?_)
 clear hK K
 try simp only [Act.put, puA, puB, puC]
 refine rdB 10 oCe510 fun K hK => ?_
 go_simp
 refine hK.out _ _ (SB6.old U10 S0.out) (fun _ => ?_)
 clear hK K
 try simp only [Act.put, puA, puB, puC]
 refine rdB 11 oCe511 fun K hK => ?_
 go_simp
 refine hK.out _ _ (SB6.old U10 S0.out) (fun _ => ?_)
 clear hK K
 try simp only [Act.put, puA, puB, puC]
 refine wpAnyH_done (by kernel_rfl) ?_ _
 refine NoPanic.normal ?_
 have UZ := hid (U0.out.trans U10)
 go_wp2
 go_ret
 exact ⟨by rw [HE.out, ← mxI]; rfl, UZ.out⟩
theorem info4 : (Tryz.prog.info? 64).map (·.size) = some 4 := by kernel_rfl
theorem stepAllocM {ops : Array Oper} {o : Oper} {a : Act} {w : World} {K : Act → World → Prop} {Q : Exit → Act → World → Prop} {E : Prop} (hg : o.guard = none) (hop : o.op = Op.alloc 64)
    (hK : ∀ m w', m = w.heap.size → w' = w.alloc (.cells #[.bool false, .bool false, .int .i64 0, .int .i64 0] 64) → K (a.put o.dst (.pointer (some ⟨m, 0, none⟩))) w') :
    if Region.wanted o (yielded ops a.tmps) = true then Oper.wp Tryz.prog o a w K Q else E := by
 have hw : Region.wanted o (yielded ops a.tmps) = true := by simp [Region.wanted, hg]
 rw [if_pos hw]
 obtain ⟨d, p, t, ps, af, gd⟩ := o
 subst hop
 go_simp
 exact hK _ _ rfl rfl
theorem stepStoreM {ops : Array Oper} {o : Oper} {a : Act} {w : World} {K : Act → World → Prop} {Q : Exit → Act → World → Prop} {E : Prop} (hg : o.guard = none) (x y : Operand) (hop : o.op = Op.store 64 x y) (m : Nat) (v1 v2 v3 v4 : Value)
    (hx : a.eval x = .pointer (some ⟨m, 0, none⟩)) (hy : a.eval y = .agg #[v1, v2, v3, v4]) (ht : w.there m 0 4) (h1 : (v1.oneCell' && v2.oneCell' && v3.oneCell' && v4.oneCell') = true)
    (hK : K (a.put o.dst undef) (w.setCells m 0 [v1, v2, v3, v4])) :
    if Region.wanted o (yielded ops a.tmps) = true then Oper.wp Tryz.prog o a w K Q else E := by
 have hw : Region.wanted o (yielded ops a.tmps) = true := by simp [Region.wanted, hg]
 rw [if_pos hw]
 simp only [Bool.and_eq_true] at h1
 exact wp_store_mid _ x y hop m 0 _ hx hy ht info4 (by simp [h1]) hK
theorem there4 {w : World} {b : Nat} {x y z u : Value} {T : TypeId} (h : w.heap[b]? = some (.cells #[x, y, z, u] T (0, 0))) : w.there b 0 4 := fun j hj => by
 obtain ⟨⟨c0, c1, c2, c3⟩, f0, f1, f2, f3⟩ := box4M h
 rw [Nat.zero_add]
 match j, hj with
 | 0, _ => exact ⟨by rw [c0]; rfl, f0⟩
 | 1, _ => exact ⟨by rw [c1]; rfl, f1⟩
 | 2, _ => exact ⟨by rw [c2]; rfl, f2⟩
 | 3, _ => exact ⟨by rw [c3]; rfl, f3⟩
theorem blk4_set {w : World} {b : Nat} {x y z u p q r s : Value} {T : TypeId} (h : w.heap[b]? = some (.cells #[x, y, z, u] T (0, 0))) : (w.setCells b 0 [p, q, r, s]).heap[b]? = some (.cells #[p, q, r, s] T (0, 0)) :=
 Go.Joins.block_setCell (Go.Joins.block_setCell (Go.Joins.block_setCell (Go.Joins.block_setCell h p (i := 0)) q (i := 1)) r (i := 2)) s (i := 3)
theorem Old.cells4 {a w : World} {b : Nat} (hb : a.heap.size ≤ b) (h : Old a w) (p q r s : Value) : Old a (w.setCells b 0 [p, q, r, s]) :=
 (((h.setCell (p := ⟨b, 0, none⟩) hb p).setCell (p := ⟨b, 1, none⟩) hb q).setCell (p := ⟨b, 2, none⟩) hb r).setCell (p := ⟨b, 3, none⟩) hb s
abbrev SmT (m t1 t2 t3 t4 sb : Nat) (s1 s2 s3 : Int) (v1 v2 v3 : Value) (w : World) : Prop := (w.cell? ⟨m, 0, none⟩ = some (pV t1) ∧ w.cell? ⟨m, 1, none⟩ = some (pV t2) ∧ w.cell? ⟨m, 2, none⟩ = some (pV t3) ∧ w.cell? ⟨m, 3, none⟩ = some (pV t4)) ∧ w.cell? ⟨sb, 0, none⟩ = some (.int .i64 s1) ∧ w.cell? ⟨sb, 1, none⟩ = some (.int .i64 s2) ∧ w.cell? ⟨sb, 2, none⟩ = some (.int .i64 s3) ∧ w.cell? ⟨sb, 3, none⟩ = some v1 ∧ w.cell? ⟨sb, 4, none⟩ = some v2 ∧ w.cell? ⟨sb, 5, none⟩ = some v3
theorem SmT.old {m t1 t2 t3 t4 sb : Nat} {s1 s2 s3 : Int} {v1 v2 v3 : Value} {w w' : World} (u : Old w w') (h : SmT m t1 t2 t3 t4 sb s1 s2 s3 v1 v2 v3 w) : SmT m t1 t2 t3 t4 sb s1 s2 s3 v1 v2 v3 w' := ⟨⟨u.keep h.1.1, u.keep h.1.2.1, u.keep h.1.2.2.1, u.keep h.1.2.2.2⟩, SB6.old u h.2⟩
theorem three_new (w : World) (a b c : Obj) : (((w.alloc a).alloc b).alloc c).heap[w.heap.size]? = some a ∧ (((w.alloc a).alloc b).alloc c).heap[w.heap.size + 1]? = some b ∧ (((w.alloc a).alloc b).alloc c).heap[w.heap.size + 2]? = some c := by
 obtain ⟨h1, h2⟩ := two_newK w a b
 refine ⟨((Old.refl _).alloc c).block h1, ((Old.refl _).alloc c).block h2, ?_⟩
 have := alloc_at ((w.alloc a).alloc b) c
 have e : ((w.alloc a).alloc b).heap.size = w.heap.size + 2 := by simp
 rw [e] at this
 exact this
theorem met0_eq (t : Tb) (u : Su) (s3 ga ra rb gb gc : Int) (h0 : u.s3 = s3) (h1 : gA t.lw u.W = ga) (h2 : rdU u t.lm = ra) (h3 : rdU u t.lw = rb) (h4 : gA t.lr u.W = gb) (h5 : gP t.ls u.W = gc) : met0T t u = ⟨decide (s3 < ga), decide (s3 < ra), if s3 < rb then s3 + 1 else 0, if s3 < max gb gc then max gb gc else 0⟩ := by
 subst h0 h1 h2 h3 h4 h5
 rfl
theorem max0 {a b r : Int} (h : max a b = r) : (if a < b then b else a) = r := by rw [mxI]; exact h
set_option maxHeartbeats 16000000 in
theorem smeet_any (s : Sb) (base : Nat) (P : Tp) (V : Tv) (most : Int) (t : Tb) (w : World) (hs : s.Ok w) (h : TabsAt base P V most t w) (ok : TbOk most t) (hm : most ≤ 64) (hz : 0 ≤ s.s3) (hz2 : s.s3 ≤ 1099511627776) :
    Calls Tryz.prog 49 #[.agg #[pV P.t1, pV P.t2, pV P.t3, pV P.t4], .agg #[.int .i64 s.s1, .int .i64 s.s2, .int .i64 s.s3, .slice s.a1 s.n1 s.c1, .slice s.a2 s.n2 s.c2, .slice s.a3 s.n3 s.c3]] w fun e w' => e = .returned (.agg (metV (met0T t s.pl))) ∧ Old w w' := by
 have HA1 := hid (fun (W : World) (u : Old w W) => greatA_tab _ s.n3 s.x3 base P.t1 most V.u1 t.lw W (hs.h3.old u) (h.a1.old u) ok.gw (mostL ok.qw hm))
 have HR1 := hid (fun (W : World) (u : Old w W) => read_any s base P.t2 most V.u2 t.lm W (hs.old u) (h.a2.old u) ok.gm (mostL ok.qm hm))
 have HR2 := hid (fun (W : World) (u : Old w W) => read_any s base P.t1 most V.u1 t.lw W (hs.old u) (h.a1.old u) ok.gw (mostL ok.qw hm))
 have HA2 := hid (fun (W : World) (u : Old w W) => greatA_tab _ s.n3 s.x3 base P.t3 most V.u3 t.lr W (hs.h3.old u) (h.a3.old u) ok.gr (mostL ok.qr hm))
 have HP2 := hid (fun (W : World) (u : Old w W) => greatP_tab _ s.n3 s.x3 base P.t4 most V.u4 t.ls W (hs.h3.old u) (h.a4.old u) ok.gs (mostL ok.qs hm))
 obtain ⟨ga, hga⟩ : ∃ ga, gA t.lw (lsG s.x3 s.n3) = ga := ⟨_, rfl⟩
 obtain ⟨ra, hra⟩ : ∃ ra, rdU s.pl t.lm = ra := ⟨_, rfl⟩
 obtain ⟨rb, hrb⟩ : ∃ rb, rdU s.pl t.lw = rb := ⟨_, rfl⟩
 obtain ⟨gb, hgb⟩ : ∃ gb, gA t.lr (lsG s.x3 s.n3) = gb := ⟨_, rfl⟩
 obtain ⟨gc, hgc⟩ : ∃ gc, gP t.ls (lsG s.x3 s.n3) = gc := ⟨_, rfl⟩
 obtain ⟨z3, hz3⟩ : ∃ z3, s.s3 = z3 := ⟨_, rfl⟩
 have HE := hid (met0_eq t s.pl z3 ga ra rb gb gc hz3 hga hra hrb hgb hgc)
 rw [hga] at HA1
 rw [hra] at HR1
 rw [hrb] at HR2
 rw [hgb] at HA2
 rw [hgc] at HP2
 clear hga hra hrb hgb hgc
 generalize met0T t s.pl = R at *
 obtain ⟨s1, s2, s3, a1, a2, a3, n1, n2, n3, c1, c2, c3, x1, x3, f2⟩ := s
 obtain ⟨t1, t2, t3, t4⟩ := P
 dsimp only at HA1 HR1 HR2 HA2 HP2 hz hz2 hz3 ⊢
 subst hz3
 clear hs h ok x1 x3 f2
 go_enter Tryz.func49, Tryz.ntmps49
 go_upto_region 1 with fail
 have U0 := hid ((((Old.refl w).alloc (.cells #[pV t1, pV t2, pV t3, pV t4] 55)).alloc (.cells #[.int .i64 s1, .int .i64 s2, .int .i64 s3, .slice a1 n1 c1, .slice a2 n2 c2, .slice a3 n3 c3] 25)).alloc (.cells #[.bool false, .bool false, .int .i64 0, .int .i64 0] 64))
 have N0 := hid (three_new w (.cells #[pV t1, pV t2, pV t3, pV t4] 55) (.cells #[.int .i64 s1, .int .i64 s2, .int .i64 s3, .slice a1 n1 c1, .slice a2 n2 c2, .slice a3 n3 c3] 25) (.cells #[.bool false, .bool false, .int .i64 0, .int .i64 0] 64))
 generalize ((w.alloc (.cells #[pV t1, pV t2, pV t3, pV t4] 55)).alloc (.cells #[.int .i64 s1, .int .i64 s2, .int .i64 s3, .slice a1 n1 c1, .slice a2 n2 c2, .slice a3 n3 c3] 25)).alloc (.cells #[.bool false, .bool false, .int .i64 0, .int .i64 0] 64) = w0 at *
 obtain ⟨sm, hsm⟩ : ∃ sm, w.heap.size = sm := ⟨_, rfl⟩
 rw [hsm] at N0 ⊢
 obtain ⟨sb, hsb⟩ : ∃ sb, sm + 1 = sb := ⟨_, rfl⟩
 obtain ⟨rb0, hrb⟩ : ∃ rb0, sm + 2 = rb0 := ⟨_, rfl⟩
 have hrb2 : sb + 1 = rb0 := by omega
 rw [hsb, hrb] at N0
 (try rw [hsb]); (try rw [hrb2]); (try rw [hrb])
 have HSZ := hid (show w.heap.size = sm ∧ sm + 2 = rb0 from ⟨hsm, by omega⟩)
 clear hsm hsb hrb hrb2
 have S0 := hid (show SmT sm t1 t2 t3 t4 sb s1 s2 s3 (.slice a1 n1 c1) (.slice a2 n2 c2) (.slice a3 n3 c3) w0 from ⟨(box4M N0.out.1).1, box6K N0.out.2.1⟩)
 have R0 := hid N0.out.2.2
 have HC5 := hid (fun (W : World) (u : Old w0 W) => HA1.out W (U0.out.trans u))
 have HC12 := hid (fun (W : World) (u : Old w0 W) => HR1.out W (U0.out.trans u))
 have HRB := hid (show w.heap.size ≤ rb0 from by have := heap_lt N0.out.1; have := HSZ.out; omega)
 clear HA1 HR1 N0
 focus
  refine wp_region_noPanic ?_
  refine wp_region_held_drew (S := SmT sm t1 t2 t3 t4 sb s1 s2 s3 (.slice a1 n1 c1) (.slice a2 n2 c2) (.slice a3 n3 c3)) (by kernel_rfl) ?_ (fun hHeld => ?_)
  ·exact SmT.old ((Old.refl w0).drew) S0.out
  try simp only [Act.put, puA, puB, puC]
  clear hHeld
  all_goals
   refine atA [false, false, false, false, false, false, false, false, false, false, false, false, false, false, false, false, false, false, false] ?_
   refine tkA (i := 0) (oi := oCe512) (SmT.old ((Old.refl w0).drew) S0.out) ?_
   try simp only [Act.put, puA, puB, puC]
   refine tkA (i := 1) (oi := oCe513) (SmT.old ((Old.refl w0).drew) S0.out) ?_
   try simp only [Act.put, puA, puB, puC]
   refine tkA (i := 2) (oi := oCe514) (SmT.old ((Old.refl w0).drew) S0.out) ?_
   try simp only [Act.put, puA, puB, puC]
   refine tkA (i := 3) (oi := oCe515) (SmT.old ((Old.refl w0).drew) S0.out) ?_
   try simp only [Act.put, puA, puB, puC]
   refine tkA (i := 4) (oi := oCe516) (SmT.old ((Old.refl w0).drew) S0.out) ?_
   try simp only [Act.put, puA, puB, puC]
   refine tkA (i := 6) (oi := oCe517) (SmT.old ((Old.refl w0).drew) S0.out) ?_
   try simp only [Act.put, puA, puB, puC]
   refine tkA (i := 7) (oi := oCe518) (SmT.old ((Old.refl w0).drew) S0.out) ?_
   try simp only [Act.put, puA, puB, puC]
   refine tkA (i := 9) (oi := oCe519) (SmT.old ((Old.refl w0).drew) S0.out) ?_
   try simp only [Act.put, puA, puB, puC]
   refine tkA (i := 10) (oi := oCe520) (SmT.old ((Old.refl w0).drew) S0.out) ?_
   try simp only [Act.put, puA, puB, puC]
   refine tkA (i := 11) (oi := oCe521) (SmT.old ((Old.refl w0).drew) S0.out) ?_
   try simp only [Act.put, puA, puB, puC]
   refine tkA (i := 13) (oi := oCe522) (SmT.old ((Old.refl w0).drew) S0.out) ?_
   try simp only [Act.put, puA, puB, puC]
   refine tkA (i := 14) (oi := oCe523) (SmT.old ((Old.refl w0).drew) S0.out) ?_
   try simp only [Act.put, puA, puB, puC]
   refine rdA [5, 17] ?_
   refine AllReadyH.cons (o := oCe524) rfl (fun K hK => ?_) (AllReadyH.cons (o := oCe525) rfl (fun K hK => ?_) AllReadyH.nil)
   refine wantCall2 ?_ 83 (.tmp 8) (.tmp 11) #[22, 129] ?_ (.slice a3 n3 c3) (.func (.func 84) #[.pointer (some ⟨t1, 0, none⟩)] #[]) ?_ ?_ ?_ ((enters_of Tryz.func83 (by kernel_rfl) rfl) _ _) ?_
   iterate 5 rfl
   refine (HC5.out _ ((Old.refl w0).drew)).mono ?_
   rintro o x100n ⟨rfl, b100n⟩
   refine ⟨_, rfl, ?_⟩
   have U100n := ((Old.refl w0).drew).trans b100n
   refine hK.out _ _ (SmT.old U100n S0.out) (fun _ => ?_)
   clear hK K
   try simp only [Act.put, puA, puB, puC]
   have UU_100 := U100n
   obtain ⟨xw_100, rfl⟩ : ∃ z, z = x100n := ⟨_, rfl⟩
   rotate_left
   refine stepAllocM ?_ ?_ ?_
   iterate 2 rfl
   intro m100n x100n hm100n hx100n
   have b100n : Old w0.drew x100n := by rw [hx100n]; exact (Old.refl _).alloc _
   have M100n := hid (show x100n.heap[m100n]? = some (.cells #[.bool false, .bool false, .int .i64 0, .int .i64 0] 64) from by rw [hx100n, hm100n]; exact alloc_at _ _)
   have G100n := hid (show w0.heap.size ≤ m100n from by rw [hm100n]; exact ((Old.refl w0).drew).size)
   clear hm100n hx100n
   have U100n := ((Old.refl w0).drew).trans b100n
   refine hK.out _ _ (SmT.old U100n S0.out) (fun _ => ?_)
   clear hK K
   try simp only [Act.put, puA, puB, puC]
   have GG_100 := G100n
   have MM_100 := M100n
   have UU_100 := U100n
   obtain ⟨mm_100, rfl⟩ : ∃ z, z = m100n := ⟨_, rfl⟩
   obtain ⟨xw_100, rfl⟩ : ∃ z, z = x100n := ⟨_, rfl⟩
   rotate_left
  all_goals first
   |refine atA [true, true, true, true, true, true, true, true, false, true, true, true, false, true, true, false, false, false, false] ?_
    refine tkA (i := 8) (oi := oCe526) (SmT.old UU_100 S0.out) ?_
    try simp only [Act.put, puA, puB, puC]
    refine rdA [12, 17] ?_
    refine AllReadyH.cons (o := oCe527) rfl (fun K hK => ?_) (AllReadyH.cons (o := oCe525) rfl (fun K hK => ?_) AllReadyH.nil)
    refine wantCall2 ?_ 85 (.tmp 16) (.tmp 18) #[25, 52] ?_ (.agg #[.int .i64 s1, .int .i64 s2, .int .i64 s3, .slice a1 n1 c1, .slice a2 n2 c2, .slice a3 n3 c3]) (pV t2) ?_ ?_ ?_ ((enters_of Tryz.func85 (by kernel_rfl) rfl) _ _) ?_
    iterate 5 rfl
    refine (HC12.out _ UU_100).mono ?_
    rintro o x100n ⟨rfl, b100n⟩
    refine ⟨_, rfl, ?_⟩
    have U100n := UU_100.trans b100n
    refine hK.out _ _ (SmT.old U100n S0.out) (fun _ => ?_)
    clear hK K
    try simp only [Act.put, puA, puB, puC]
    have UU_100 := U100n
    obtain ⟨xw_100, rfl⟩ : ∃ z, z = x100n := ⟨_, rfl⟩
    rotate_left
    refine stepAllocM ?_ ?_ ?_
    iterate 2 rfl
    intro m100n x100n hm100n hx100n
    have b100n : Old xw_100 x100n := by rw [hx100n]; exact (Old.refl _).alloc _
    have M100n := hid (show x100n.heap[m100n]? = some (.cells #[.bool false, .bool false, .int .i64 0, .int .i64 0] 64) from by rw [hx100n, hm100n]; exact alloc_at _ _)
    have G100n := hid (show w0.heap.size ≤ m100n from by rw [hm100n]; exact UU_100.size)
    clear hm100n hx100n
    have U100n := UU_100.trans b100n
    refine hK.out _ _ (SmT.old U100n S0.out) (fun _ => ?_)
    clear hK K
    try simp only [Act.put, puA, puB, puC]
    have GG_100 := G100n
    have MM_100 := M100n
    have UU_100 := U100n
    obtain ⟨mm_100, rfl⟩ : ∃ z, z = m100n := ⟨_, rfl⟩
    obtain ⟨xw_100, rfl⟩ : ∃ z, z = x100n := ⟨_, rfl⟩
    rotate_left
   |refine atA [true, true, true, true, true, false, true, true, false, true, true, true, false, true, true, false, false, true, false] ?_
    refine rdA [5] ?_
    refine AllReadyH.cons (o := oCe524) rfl (fun K hK => ?_) AllReadyH.nil
    refine wantCall2 ?_ 83 (.tmp 8) (.tmp 11) #[22, 129] ?_ (.slice a3 n3 c3) (.func (.func 84) #[.pointer (some ⟨t1, 0, none⟩)] #[]) ?_ ?_ ?_ ((enters_of Tryz.func83 (by kernel_rfl) rfl) _ _) ?_
    iterate 5 rfl
    refine (HC5.out _ UU_100).mono ?_
    rintro o x100n ⟨rfl, b100n⟩
    refine ⟨_, rfl, ?_⟩
    have U100n := UU_100.trans b100n
    have M100n := hid (b100n.block MM_100.out)
    refine hK.out _ _ (SmT.old U100n S0.out) (fun _ => ?_)
    clear hK K
    try simp only [Act.put, puA, puB, puC]
    have MM_100 := M100n
    have UU_100 := U100n
    obtain ⟨xw_100, rfl⟩ : ∃ z, z = x100n := ⟨_, rfl⟩
  all_goals first
   |refine atA [true, true, true, true, true, true, true, true, true, true, true, true, true, true, true, false, false, false, false] ?_
    refine tkA (i := 15) (oi := oCe528) (SmT.old UU_100 S0.out) ?_
    try simp only [Act.put, puA, puB, puC]
    refine tkA (i := 16) (oi := oCe529) (SmT.old UU_100 S0.out) ?_
    try simp only [Act.put, puA, puB, puC]
    refine rdA [17] ?_
    refine AllReadyH.cons (o := oCe525) rfl (fun K hK => ?_) AllReadyH.nil
    refine stepAllocM ?_ ?_ ?_
    iterate 2 rfl
    intro m100n x100n hm100n hx100n
    have b100n : Old xw_100 x100n := by rw [hx100n]; exact (Old.refl _).alloc _
    have M100n := hid (show x100n.heap[m100n]? = some (.cells #[.bool false, .bool false, .int .i64 0, .int .i64 0] 64) from by rw [hx100n, hm100n]; exact alloc_at _ _)
    have G100n := hid (show w0.heap.size ≤ m100n from by rw [hm100n]; exact UU_100.size)
    clear hm100n hx100n
    have U100n := UU_100.trans b100n
    refine hK.out _ _ (SmT.old U100n S0.out) (fun _ => ?_)
    clear hK K
    try simp only [Act.put, puA, puB, puC]
    have GG_100 := G100n
    have MM_100 := M100n
    have UU_100 := U100n
    obtain ⟨mm_100, rfl⟩ : ∃ z, z = m100n := ⟨_, rfl⟩
    obtain ⟨xw_100, rfl⟩ : ∃ z, z = x100n := ⟨_, rfl⟩
   |refine atA [true, true, true, true, true, true, true, true, true, true, true, true, false, true, true, false, false, true, false] ?_
    refine rdA [12] ?_
    refine AllReadyH.cons (o := oCe527) rfl (fun K hK => ?_) AllReadyH.nil
    refine wantCall2 ?_ 85 (.tmp 16) (.tmp 18) #[25, 52] ?_ (.agg #[.int .i64 s1, .int .i64 s2, .int .i64 s3, .slice a1 n1 c1, .slice a2 n2 c2, .slice a3 n3 c3]) (pV t2) ?_ ?_ ?_ ((enters_of Tryz.func85 (by kernel_rfl) rfl) _ _) ?_
    iterate 5 rfl
    refine (HC12.out _ UU_100).mono ?_
    rintro o x100n ⟨rfl, b100n⟩
    refine ⟨_, rfl, ?_⟩
    have U100n := UU_100.trans b100n
    have M100n := hid (b100n.block MM_100.out)
    refine hK.out _ _ (SmT.old U100n S0.out) (fun _ => ?_)
    clear hK K
    try simp only [Act.put, puA, puB, puC]
    have MM_100 := M100n
    have UU_100 := U100n
    obtain ⟨xw_100, rfl⟩ : ∃ z, z = x100n := ⟨_, rfl⟩
   |refine atA [true, true, true, true, true, true, true, true, false, true, true, true, false, true, true, false, false, true, false] ?_
    refine tkA (i := 8) (oi := oCe526) (SmT.old UU_100 S0.out) ?_
    try simp only [Act.put, puA, puB, puC]
    refine rdA [12] ?_
    refine AllReadyH.cons (o := oCe527) rfl (fun K hK => ?_) AllReadyH.nil
    refine wantCall2 ?_ 85 (.tmp 16) (.tmp 18) #[25, 52] ?_ (.agg #[.int .i64 s1, .int .i64 s2, .int .i64 s3, .slice a1 n1 c1, .slice a2 n2 c2, .slice a3 n3 c3]) (pV t2) ?_ ?_ ?_ ((enters_of Tryz.func85 (by kernel_rfl) rfl) _ _) ?_
    iterate 5 rfl
    refine (HC12.out _ UU_100).mono ?_
    rintro o x100n ⟨rfl, b100n⟩
    refine ⟨_, rfl, ?_⟩
    have U100n := UU_100.trans b100n
    have M100n := hid (b100n.block MM_100.out)
    refine hK.out _ _ (SmT.old U100n S0.out) (fun _ => ?_)
    clear hK K
    try simp only [Act.put, puA, puB, puC]
    have MM_100 := M100n
    have UU_100 := U100n
    obtain ⟨xw_100, rfl⟩ : ∃ z, z = x100n := ⟨_, rfl⟩
  all_goals first
   |refine atA [true, true, true, true, true, true, true, true, true, true, true, true, true, true, true, true, true, true, false] ?_
    refine rdA [18] ?_
    refine AllReadyH.cons (o := oCe530) rfl (fun K hK => ?_) AllReadyH.nil
    refine stepStoreM ?_ (.tmp 5) (.tmp 23) ?_ mm_100 (.bool (decide (s3 < ga))) (.bool (decide (s3 < ra))) (.int .i64 0) (.int .i64 0) ?_ ?_ (there4 MM_100.out) rfl ?_
    iterate 4 rfl
    have M100n := hid (blk4_set (p := .bool (decide (s3 < ga))) (q := .bool (decide (s3 < ra))) (r := .int .i64 0) (s := .int .i64 0) MM_100.out)
    have U100n := Old.cells4 GG_100.out UU_100 (.bool (decide (s3 < ga))) (.bool (decide (s3 < ra))) (.int .i64 0) (.int .i64 0)
    refine hK.out _ _ (SmT.old U100n S0.out) (fun _ => ?_)
    clear hK K
    try simp only [Act.put, puA, puB, puC]
    have MM_100 := M100n
    have UU_100 := U100n
   |refine atA [true, true, true, true, true, true, true, true, true, true, true, true, true, true, true, false, false, true, false] ?_
    refine tkA (i := 15) (oi := oCe528) (SmT.old UU_100 S0.out) ?_
    try simp only [Act.put, puA, puB, puC]
    refine tkA (i := 16) (oi := oCe529) (SmT.old UU_100 S0.out) ?_
    try simp only [Act.put, puA, puB, puC]
    refine rdA [18] ?_
    refine AllReadyH.cons (o := oCe530) rfl (fun K hK => ?_) AllReadyH.nil
    refine stepStoreM ?_ (.tmp 5) (.tmp 23) ?_ mm_100 (.bool (decide (s3 < ga))) (.bool (decide (s3 < ra))) (.int .i64 0) (.int .i64 0) ?_ ?_ (there4 MM_100.out) rfl ?_
    iterate 4 rfl
    have M100n := hid (blk4_set (p := .bool (decide (s3 < ga))) (q := .bool (decide (s3 < ra))) (r := .int .i64 0) (s := .int .i64 0) MM_100.out)
    have U100n := Old.cells4 GG_100.out UU_100 (.bool (decide (s3 < ga))) (.bool (decide (s3 < ra))) (.int .i64 0) (.int .i64 0)
    refine hK.out _ _ (SmT.old U100n S0.out) (fun _ => ?_)
    clear hK K
    try simp only [Act.put, puA, puB, puC]
    have MM_100 := M100n
    have UU_100 := U100n
  all_goals
   refine atA [true, true, true, true, true, true, true, true, true, true, true, true, true, true, true, true, true, true, true] ?_
   refine wpAnyH_done (by kernel_rfl) ?_ _
   refine NoPanic.normal ?_
   have HM := hid MM_100.out
   have U2 := hid UU_100
   have HG := hid GG_100.out
   generalize (xw_100.setCells mm_100 0 [.bool (decide (s3 < ga)), .bool (decide (s3 < ra)), .int .i64 0, .int .i64 0]) = w2 at *
   generalize mm_100 = m at *
   have S2' := hid (SmT.old U2.out S0.out)
   have R2 := hid (U2.out.block R0.out)
   have HC3 := hid (fun (W : World) (u : Old w2 W) => HR2.out W (U0.out.trans (U2.out.trans u)))
   go_upto_region 2 with fail
   refine wp_region_noPanic ?_
   refine wp_region_held_drew (S := SmT sm t1 t2 t3 t4 sb s1 s2 s3 (.slice a1 n1 c1) (.slice a2 n2 c2) (.slice a3 n3 c3)) (by kernel_rfl) ?_ (fun hHeld => ?_)
   ·exact SmT.old ((Old.refl _).drew) S2'.out
   try simp only [Act.put, puA, puB, puC]
   clear hHeld
   refine tkA (i := 0) (oi := oCe531) (SmT.old ((Old.refl w2).drew) S2'.out) ?_
   try simp only [Act.put, puA, puB, puC]
   refine tkA (i := 1) (oi := oCe532) (SmT.old ((Old.refl w2).drew) S2'.out) ?_
   try simp only [Act.put, puA, puB, puC]
   refine tkA (i := 2) (oi := oCe533) (SmT.old ((Old.refl w2).drew) S2'.out) ?_
   try simp only [Act.put, puA, puB, puC]
   refine tkA (i := 4) (oi := oCe534) (SmT.old ((Old.refl w2).drew) S2'.out) ?_
   try simp only [Act.put, puA, puB, puC]
   refine tkA (i := 5) (oi := oCe535) (SmT.old ((Old.refl w2).drew) S2'.out) ?_
   try simp only [Act.put, puA, puB, puC]
   refine rdB 3 oCe536 fun K hK => ?_
   refine wantCall2 ?_ 85 (.tmp 24) (.tmp 26) #[25, 52] ?_ (.agg #[.int .i64 s1, .int .i64 s2, .int .i64 s3, .slice a1 n1 c1, .slice a2 n2 c2, .slice a3 n3 c3]) (pV t1) ?_ ?_ ?_ ((enters_of Tryz.func85 (by kernel_rfl) rfl) _ _) ?_
   iterate 5 rfl
   refine (HC3.out _ ((Old.refl w2).drew)).mono ?_
   rintro o x16 ⟨rfl, b16⟩
   refine ⟨_, rfl, ?_⟩
   have U16 := ((Old.refl w2).drew).trans b16
   refine hK.out _ _ (SmT.old U16 S2'.out) (fun _ => ?_)
   clear hK K
   try simp only [Act.put, puA, puB, puC]
   refine tkA (i := 6) (oi := oCe537) (SmT.old U16 S2'.out) ?_
   try simp only [Act.put, puA, puB, puC]
   refine wpAnyH_done (by kernel_rfl) ?_ _
   refine NoPanic.normal ?_
   have U3 := hid U16
   have M3 := hid (U3.out.block HM.out)
   have R3 := hid (U3.out.block R2.out)
   have S3' := hid (SmT.old U3.out S2'.out)
   generalize x16 = w3 at *
   obtain ⟨⟨z0, z1, z2, z3⟩, g0, g1, g2, g3⟩ := box4M M3.out
   obtain ⟨⟨e0, e1, e2, e3⟩, t0', t1', t2', t3', t4', t5'⟩ := S3'.out
   by_cases hf : s3 < rb
   ·have df : decide (s3 < rb) = true := by simp [hf]
    have hw1 : IntKind.i64.wrap (s3 + 1) = s3 + 1 := IntWalk.i64_in _ (by omega)
    go_upto_region 4 with fail
    clear z0 z1 z2 z3 g0 g1 g2 g3 e0 e1 e2 e3 t0' t1' t2' t3' t4' t5'
    have M4 := hid (Go.Joins.block_setCell M3.out (.int .i64 (s3 + 1)) (i := 2))
    have U4 := hid (((U2.out.trans U3.out).setCell (p := ⟨m, 2, none⟩) HG.out (.int .i64 (s3 + 1))))
    have HMN := hid (show rb0 ≠ m from fun e => by have := heap_lt R0.out; have := HG.out; omega)
    have R4 := hid (show (w3.setCell ⟨m, 2, none⟩ (.int .i64 (s3 + 1))).heap[rb0]? = _ from (Below.heap_setCell w3 ⟨m, 2, none⟩ (.int .i64 (s3 + 1)) rb0 HMN.out).trans R3.out)
    generalize w3.setCell ⟨m, 2, none⟩ (.int .i64 (s3 + 1)) = w4 at *
    have S4' := hid (SmT.old U4.out S0.out)
    have HC5' := hid (fun (W : World) (u : Old w4 W) => HA2.out W (U0.out.trans (U4.out.trans u)))
    have HC11' := hid (fun (W : World) (u : Old w4 W) => HP2.out W (U0.out.trans (U4.out.trans u)))
    refine wp_region_noPanic ?_
    refine wp_region_held_drew (S := SmT sm t1 t2 t3 t4 sb s1 s2 s3 (.slice a1 n1 c1) (.slice a2 n2 c2) (.slice a3 n3 c3)) (by kernel_rfl) ?_ (fun hHeld => ?_)
    ·exact SmT.old ((Old.refl _).drew) S4'.out
    try simp only [Act.put, puA, puB, puC]
    clear hHeld
    refine tkA (i := 0) (oi := oCe538) (SmT.old ((Old.refl w4).drew) S4'.out) ?_
    try simp only [Act.put, puA, puB, puC]
    refine tkA (i := 1) (oi := oCe539) (SmT.old ((Old.refl w4).drew) S4'.out) ?_
    try simp only [Act.put, puA, puB, puC]
    refine tkA (i := 2) (oi := oCe540) (SmT.old ((Old.refl w4).drew) S4'.out) ?_
    try simp only [Act.put, puA, puB, puC]
    refine tkA (i := 3) (oi := oCe541) (SmT.old ((Old.refl w4).drew) S4'.out) ?_
    try simp only [Act.put, puA, puB, puC]
    refine tkA (i := 4) (oi := oCe542) (SmT.old ((Old.refl w4).drew) S4'.out) ?_
    try simp only [Act.put, puA, puB, puC]
    refine tkA (i := 6) (oi := oCe543) (SmT.old ((Old.refl w4).drew) S4'.out) ?_
    try simp only [Act.put, puA, puB, puC]
    refine tkA (i := 7) (oi := oCe544) (SmT.old ((Old.refl w4).drew) S4'.out) ?_
    try simp only [Act.put, puA, puB, puC]
    refine tkA (i := 8) (oi := oCe545) (SmT.old ((Old.refl w4).drew) S4'.out) ?_
    try simp only [Act.put, puA, puB, puC]
    refine tkA (i := 9) (oi := oCe546) (SmT.old ((Old.refl w4).drew) S4'.out) ?_
    try simp only [Act.put, puA, puB, puC]
    refine tkA (i := 10) (oi := oCe547) (SmT.old ((Old.refl w4).drew) S4'.out) ?_
    try simp only [Act.put, puA, puB, puC]
    refine rdB 5 oCe548 fun K hK => ?_
    refine wantCall2 ?_ 83 (.tmp 36) (.tmp 39) #[22, 129] ?_ (.slice a3 n3 c3) (.func (.func 84) #[.pointer (some ⟨t3, 0, none⟩)] #[]) ?_ ?_ ?_ ((enters_of Tryz.func83 (by kernel_rfl) rfl) _ _) ?_
    iterate 5 rfl
    refine (HC5'.out _ ((Old.refl w4).drew)).mono ?_
    rintro o x28 ⟨rfl, b28⟩
    refine ⟨_, rfl, ?_⟩
    have U28 := ((Old.refl w4).drew).trans b28
    refine hK.out _ _ (SmT.old U28 S4'.out) (fun _ => ?_)
    clear hK K
    try simp only [Act.put, puA, puB, puC]
    refine rdB 11 oCe549 fun K hK => ?_
    refine wantCall2 ?_ 83 (.tmp 42) (.tmp 45) #[22, 129] ?_ (.slice a3 n3 c3) (.func (.func 86) #[.pointer (some ⟨t4, 0, none⟩)] #[]) ?_ ?_ ?_ ((enters_of Tryz.func83 (by kernel_rfl) rfl) _ _) ?_
    iterate 5 rfl
    refine (HC11'.out _ U28).mono ?_
    rintro o x29 ⟨rfl, b29⟩
    refine ⟨_, rfl, ?_⟩
    have U29 := U28.trans b29
    refine hK.out _ _ (SmT.old U29 S4'.out) (fun _ => ?_)
    clear hK K
    try simp only [Act.put, puA, puB, puC]
    refine rdB 12 oCe550 fun K hK => ?_
    go_simp
    refine hK.out _ _ (SmT.old U29 S4'.out) (fun _ => ?_)
    clear hK K
    try simp only [Act.put, puA, puB, puC]
    refine rdB 13 oCe551 fun K hK => ?_
    go_simp
    refine hK.out _ _ (SmT.old U29 S4'.out) (fun _ => ?_)
    clear hK K
    try simp only [Act.put, puA, puB, puC]
    refine wpAnyH_done (by kernel_rfl) ?_ _
    refine NoPanic.normal ?_
    have U5 := hid U29
    have M5 := hid (U5.out.block M4.out)
    have R5 := hid (U5.out.block R4.out)
    have S5' := hid (SmT.old U5.out S4'.out)
    generalize x29 = w5 at *
    obtain ⟨mx, hmx⟩ : ∃ mx, max gb gc = mx := ⟨_, rfl⟩
    have hmx2 := max0 hmx
    rw [hmx] at HE
    obtain ⟨⟨z0, z1, z2, z3⟩, g0, g1, g2, g3⟩ := box4M M5.out
    obtain ⟨⟨e0, e1, e2, e3⟩, t0', t1', t2', t3', t4', t5'⟩ := S5'.out
    by_cases hl : s3 < mx
    ·have dl : decide (s3 < mx) = true := by simp [hl]
     go_upto_region 7 with fail
     clear z0 z1 z2 z3 g0 g1 g2 g3 e0 e1 e2 e3 t0' t1' t2' t3' t4' t5'
     have MZ := hid (Go.Joins.block_setCell M5.out (.int .i64 mx) (i := 3))
     have UZ := hid (U0.out.trans ((U4.out.trans U5.out).setCell (p := ⟨m, 3, none⟩) HG.out (.int .i64 mx)))
     have HMN' := hid (show rb0 ≠ m from fun e => by have := heap_lt R0.out; have := HG.out; omega)
     have RZ := hid (show (w5.setCell ⟨m, 3, none⟩ (.int .i64 mx)).heap[rb0]? = _ from (Below.heap_setCell w5 ⟨m, 3, none⟩ (.int .i64 mx) rb0 HMN'.out).trans R5.out)
     generalize w5.setCell ⟨m, 3, none⟩ (.int .i64 mx) = w6 at *
     obtain ⟨⟨z0, z1, z2, z3⟩, -⟩ := box4M MZ.out
     obtain ⟨⟨y0, y1, y2, y3⟩, g0, g1, g2, g3⟩ := box4M RZ.out
     go_wp2
     have RF := hid (Go.Joins.block_setCell (Go.Joins.block_setCell (Go.Joins.block_setCell (Go.Joins.block_setCell RZ.out (.bool (decide (s3 < ga))) (i := 0)) (.bool (decide (s3 < ra))) (i := 1)) (.int .i64 (s3 + 1)) (i := 2)) (.int .i64 (mx)) (i := 3))
     have UF := hid ((((UZ.out.setCell (p := ⟨rb0, 0, none⟩) HRB.out (.bool (decide (s3 < ga)))).setCell (p := ⟨rb0, 1, none⟩) HRB.out (.bool (decide (s3 < ra)))).setCell (p := ⟨rb0, 2, none⟩) HRB.out (.int .i64 (s3 + 1))).setCell (p := ⟨rb0, 3, none⟩) HRB.out (.int .i64 (mx)))
     obtain ⟨⟨k0, k1, k2, k3⟩, -⟩ := box4M RF.out
     refine bodyPost_ret (v := .agg #[.bool (decide (s3 < ga)), .bool (decide (s3 < ra)), .int .i64 (s3 + 1), .int .i64 (mx)]) (by simp [results, Tryz.results49, go_sem, k0, k1, k2, k3]) rfl ?_
     refine ⟨?_, UF.out⟩
     rw [HE.out]; unfold metV; dsimp only; rw [if_pos hf, if_pos hl]
    ·have dl : decide (s3 < mx) = false := by simp [hl]
     go_upto_region 7 with fail
     clear z0 z1 z2 z3 g0 g1 g2 g3 e0 e1 e2 e3 t0' t1' t2' t3' t4' t5'
     have MZ := M5
     have UZ := hid (U0.out.trans (U4.out.trans U5.out))
     have RZ := R5
     generalize w5 = w6 at *
     obtain ⟨⟨z0, z1, z2, z3⟩, -⟩ := box4M MZ.out
     obtain ⟨⟨y0, y1, y2, y3⟩, g0, g1, g2, g3⟩ := box4M RZ.out
     go_wp2
     have RF := hid (Go.Joins.block_setCell (Go.Joins.block_setCell (Go.Joins.block_setCell (Go.Joins.block_setCell RZ.out (.bool (decide (s3 < ga))) (i := 0)) (.bool (decide (s3 < ra))) (i := 1)) (.int .i64 (s3 + 1)) (i := 2)) (.int .i64 (0)) (i := 3))
     have UF := hid ((((UZ.out.setCell (p := ⟨rb0, 0, none⟩) HRB.out (.bool (decide (s3 < ga)))).setCell (p := ⟨rb0, 1, none⟩) HRB.out (.bool (decide (s3 < ra)))).setCell (p := ⟨rb0, 2, none⟩) HRB.out (.int .i64 (s3 + 1))).setCell (p := ⟨rb0, 3, none⟩) HRB.out (.int .i64 (0)))
     obtain ⟨⟨k0, k1, k2, k3⟩, -⟩ := box4M RF.out
     refine bodyPost_ret (v := .agg #[.bool (decide (s3 < ga)), .bool (decide (s3 < ra)), .int .i64 (s3 + 1), .int .i64 (0)]) (by simp [results, Tryz.results49, go_sem, k0, k1, k2, k3]) rfl ?_
     refine ⟨?_, UF.out⟩
     rw [HE.out]; unfold metV; dsimp only; rw [if_pos hf, if_neg (show ¬ s3 < mx from by omega)]
   ·have df : decide (s3 < rb) = false := by simp [hf]
    go_upto_region 4 with fail
    clear z0 z1 z2 z3 g0 g1 g2 g3 e0 e1 e2 e3 t0' t1' t2' t3' t4' t5'
    have M4 := M3
    have U4 := hid (U2.out.trans U3.out)
    have R4 := R3
    generalize w3 = w4 at *
    have S4' := hid (SmT.old U4.out S0.out)
    have HC5' := hid (fun (W : World) (u : Old w4 W) => HA2.out W (U0.out.trans (U4.out.trans u)))
    have HC11' := hid (fun (W : World) (u : Old w4 W) => HP2.out W (U0.out.trans (U4.out.trans u)))
    refine wp_region_noPanic ?_
    refine wp_region_held_drew (S := SmT sm t1 t2 t3 t4 sb s1 s2 s3 (.slice a1 n1 c1) (.slice a2 n2 c2) (.slice a3 n3 c3)) (by kernel_rfl) ?_ (fun hHeld => ?_)
    ·exact SmT.old ((Old.refl _).drew) S4'.out
    try simp only [Act.put, puA, puB, puC]
    clear hHeld
    refine tkA (i := 0) (oi := oCe538) (SmT.old ((Old.refl w4).drew) S4'.out) ?_
    try simp only [Act.put, puA, puB, puC]
    refine tkA (i := 1) (oi := oCe539) (SmT.old ((Old.refl w4).drew) S4'.out) ?_
    try simp only [Act.put, puA, puB, puC]
    refine tkA (i := 2) (oi := oCe540) (SmT.old ((Old.refl w4).drew) S4'.out) ?_
    try simp only [Act.put, puA, puB, puC]
    refine tkA (i := 3) (oi := oCe541) (SmT.old ((Old.refl w4).drew) S4'.out) ?_
    try simp only [Act.put, puA, puB, puC]
    refine tkA (i := 4) (oi := oCe542) (SmT.old ((Old.refl w4).drew) S4'.out) ?_
    try simp only [Act.put, puA, puB, puC]
    refine tkA (i := 6) (oi := oCe543) (SmT.old ((Old.refl w4).drew) S4'.out) ?_
    try simp only [Act.put, puA, puB, puC]
    refine tkA (i := 7) (oi := oCe544) (SmT.old ((Old.refl w4).drew) S4'.out) ?_
    try simp only [Act.put, puA, puB, puC]
    refine tkA (i := 8) (oi := oCe545) (SmT.old ((Old.refl w4).drew) S4'.out) ?_
    try simp only [Act.put, puA, puB, puC]
    refine tkA (i := 9) (oi := oCe546) (SmT.old ((Old.refl w4).drew) S4'.out) ?_
    try simp only [Act.put, puA, puB, puC]
    refine tkA (i := 10) (oi := oCe547) (SmT.old ((Old.refl w4).drew) S4'.out) ?_
    try simp only [Act.put, puA, puB, puC]
    refine rdB 5 oCe548 fun K hK => ?_
    refine wantCall2 ?_ 83 (.tmp 36) (.tmp 39) #[22, 129] ?_ (.slice a3 n3 c3) (.func (.func 84) #[.pointer (some ⟨t3, 0, none⟩)] #[]) ?_ ?_ ?_ ((enters_of Tryz.func83 (by kernel_rfl) rfl) _ _) ?_
    iterate 5 rfl
    refine (HC5'.out _ ((Old.refl w4).drew)).mono ?_
    rintro o x40 ⟨rfl, b40⟩
    refine ⟨_, rfl, ?_⟩
    have U40 := ((Old.refl w4).drew).trans b40
    refine hK.out _ _ (SmT.old U40 S4'.out) (fun _ => ?_)
    clear hK K
    try simp only [Act.put, puA, puB, puC]
    refine rdB 11 oCe549 fun K hK => ?_
    refine wantCall2 ?_ 83 (.tmp 42) (.tmp 45) #[22, 129] ?_ (.slice a3 n3 c3) (.func (.func 86) #[.pointer (some ⟨t4, 0, none⟩)] #[]) ?_ ?_ ?_ ((enters_of Tryz.func83 (by kernel_rfl) rfl) _ _) ?_
    iterate 5 rfl
    refine (HC11'.out _ U40).mono ?_
    rintro o x41 ⟨rfl, b41⟩
    refine ⟨_, rfl, ?_⟩
    have U41 := U40.trans b41
    refine hK.out _ _ (SmT.old U41 S4'.out) (fun _ => ?_)
    clear hK K
    try simp only [Act.put, puA, puB, puC]
    refine rdB 12 oCe550 fun K hK => ?_
    go_simp
    refine hK.out _ _ (SmT.old U41 S4'.out) (fun _ => ?_)
    clear hK K
    try simp only [Act.put, puA, puB, puC]
    refine rdB 13 oCe551 fun K hK => ?_
    go_simp
    refine hK.out _ _ (SmT.old U41 S4'.out) (fun _ => ?_)
    clear hK K
    try simp only [Act.put, puA, puB, puC]
    refine wpAnyH_done (by kernel_rfl) ?_ _
    refine NoPanic.normal ?_
    have U5 := hid U41
    have M5 := hid (U5.out.block M4.out)
    have R5 := hid (U5.out.block R4.out)
    have S5' := hid (SmT.old U5.out S4'.out)
    generalize x41 = w5 at *
    obtain ⟨mx, hmx⟩ : ∃ mx, max gb gc = mx := ⟨_, rfl⟩
    have hmx2 := max0 hmx
    rw [hmx] at HE
    obtain ⟨⟨z0, z1, z2, z3⟩, g0, g1, g2, g3⟩ := box4M M5.out
    obtain ⟨⟨e0, e1, e2, e3⟩, t0', t1', t2', t3', t4', t5'⟩ := S5'.out
    by_cases hl : s3 < mx
    ·have dl : decide (s3 < mx) = true := by simp [hl]
     go_upto_region 7 with fail
     clear z0 z1 z2 z3 g0 g1 g2 g3 e0 e1 e2 e3 t0' t1' t2' t3' t4' t5'
     have MZ := hid (Go.Joins.block_setCell M5.out (.int .i64 mx) (i := 3))
     have UZ := hid (U0.out.trans ((U4.out.trans U5.out).setCell (p := ⟨m, 3, none⟩) HG.out (.int .i64 mx)))
     have HMN' := hid (show rb0 ≠ m from fun e => by have := heap_lt R0.out; have := HG.out; omega)
     have RZ := hid (show (w5.setCell ⟨m, 3, none⟩ (.int .i64 mx)).heap[rb0]? = _ from (Below.heap_setCell w5 ⟨m, 3, none⟩ (.int .i64 mx) rb0 HMN'.out).trans R5.out)
     generalize w5.setCell ⟨m, 3, none⟩ (.int .i64 mx) = w6 at *
     obtain ⟨⟨z0, z1, z2, z3⟩, -⟩ := box4M MZ.out
     obtain ⟨⟨y0, y1, y2, y3⟩, g0, g1, g2, g3⟩ := box4M RZ.out
     go_wp2
     have RF := hid (Go.Joins.block_setCell (Go.Joins.block_setCell (Go.Joins.block_setCell (Go.Joins.block_setCell RZ.out (.bool (decide (s3 < ga))) (i := 0)) (.bool (decide (s3 < ra))) (i := 1)) (.int .i64 (0)) (i := 2)) (.int .i64 (mx)) (i := 3))
     have UF := hid ((((UZ.out.setCell (p := ⟨rb0, 0, none⟩) HRB.out (.bool (decide (s3 < ga)))).setCell (p := ⟨rb0, 1, none⟩) HRB.out (.bool (decide (s3 < ra)))).setCell (p := ⟨rb0, 2, none⟩) HRB.out (.int .i64 (0))).setCell (p := ⟨rb0, 3, none⟩) HRB.out (.int .i64 (mx)))
     obtain ⟨⟨k0, k1, k2, k3⟩, -⟩ := box4M RF.out
     refine bodyPost_ret (v := .agg #[.bool (decide (s3 < ga)), .bool (decide (s3 < ra)), .int .i64 (0), .int .i64 (mx)]) (by simp [results, Tryz.results49, go_sem, k0, k1, k2, k3]) rfl ?_
     refine ⟨?_, UF.out⟩
     rw [HE.out]; unfold metV; dsimp only; rw [if_neg (show ¬ s3 < rb from by omega), if_pos hl]
    ·have dl : decide (s3 < mx) = false := by simp [hl]
     go_upto_region 7 with fail
     clear z0 z1 z2 z3 g0 g1 g2 g3 e0 e1 e2 e3 t0' t1' t2' t3' t4' t5'
     have MZ := M5
     have UZ := hid (U0.out.trans (U4.out.trans U5.out))
     have RZ := R5
     generalize w5 = w6 at *
     obtain ⟨⟨z0, z1, z2, z3⟩, -⟩ := box4M MZ.out
     obtain ⟨⟨y0, y1, y2, y3⟩, g0, g1, g2, g3⟩ := box4M RZ.out
     go_wp2
     have RF := hid (Go.Joins.block_setCell (Go.Joins.block_setCell (Go.Joins.block_setCell (Go.Joins.block_setCell RZ.out (.bool (decide (s3 < ga))) (i := 0)) (.bool (decide (s3 < ra))) (i := 1)) (.int .i64 (0)) (i := 2)) (.int .i64 (0)) (i := 3))
     have UF := hid ((((UZ.out.setCell (p := ⟨rb0, 0, none⟩) HRB.out (.bool (decide (s3 < ga)))).setCell (p := ⟨rb0, 1, none⟩) HRB.out (.bool (decide (s3 < ra)))).setCell (p := ⟨rb0, 2, none⟩) HRB.out (.int .i64 (0))).setCell (p := ⟨rb0, 3, none⟩) HRB.out (.int .i64 (0)))
     obtain ⟨⟨k0, k1, k2, k3⟩, -⟩ := box4M RF.out
     refine bodyPost_ret (v := .agg #[.bool (decide (s3 < ga)), .bool (decide (s3 < ra)), .int .i64 (0), .int .i64 (0)]) (by simp [results, Tryz.results49, go_sem, k0, k1, k2, k3]) rfl ?_
     refine ⟨?_, UF.out⟩
     rw [HE.out]; unfold metV; dsimp only; rw [if_neg (show ¬ s3 < rb from by omega), if_neg (show ¬ s3 < mx from by omega)]
end Go.Proofs.YtgeinnaljlajoaaGreat
namespace Go.Proofs.YtgeinnaljlajoaaGreat
abbrev oCe60 : Oper := { dst := some 8, op := .move (.tmp 0), type := 26, pos := "cert.go:77", after := #[], guard := none }
abbrev oCe61 : Oper := { dst := some 9, op := .nilCheck (.tmp 8), type := 0, pos := "cert.go:77", after := #[⟨0, .data⟩], guard := none }
abbrev oCe62 : Oper := { dst := some 10, op := .fieldAddr 59 (.tmp 9) 4, type := 0, pos := "cert.go:77", after := #[⟨1, .data⟩], guard := none }
abbrev oCe63 : Oper := { dst := some 11, op := .load 55 (.tmp 10), type := 55, pos := "cert.go:77", after := #[⟨2, .data⟩], guard := none }
abbrev oCe64 : Oper := { dst := some 12, op := .load 25 (.tmp 3), type := 25, pos := "cert.go:77", after := #[], guard := none }
abbrev oCe65 : Oper := { dst := some 13, op := .call { callee := Callee.value (.func 49), args := #[.tmp 11, .tmp 12], argTypes := #[55, 25] }, type := 64, pos := "cert.go:77", after := #[⟨3, .data⟩, ⟨4, .data⟩], guard := none }
abbrev oCe66 : Oper := { dst := some 5, op := .alloc 64, type := 0, pos := "cert.go:77", after := #[], guard := none }
abbrev oCe67 : Oper := { dst := none, op := .store 64 (.tmp 5) (.tmp 13), type := 0, pos := "cert.go:77", after := #[⟨6, .data⟩, ⟨5, .data⟩, ⟨5, .chain⟩, ⟨0, .phase⟩, ⟨1, .phase⟩, ⟨2, .phase⟩, ⟨3, .phase⟩, ⟨4, .phase⟩, ⟨5, .phase⟩, ⟨6, .phase⟩], guard := none }
open Go.RowKit Go.Lib
set_option linter.unusedVariables false
set_option linter.unusedSimpArgs false
set_option maxRecDepth 20000
attribute [local go_sem] run_bits run_frombits run_store_float eqF
def KIn (w : World) (g o : Nat) (k : Kg) : Prop := w.cell? ⟨g, o, none⟩ = some (.int .i64 k.p.n) ∧ w.cell? ⟨g, o + 1, none⟩ = some (.int .i64 k.p.u.s1) ∧ w.cell? ⟨g, o + 2, none⟩ = some (.int .i64 k.p.u.s2) ∧ w.cell? ⟨g, o + 3, none⟩ = some (.int .i64 k.p.u.s3) ∧ w.cell? ⟨g, o + 4, none⟩ = some k.v1 ∧ w.cell? ⟨g, o + 5, none⟩ = some k.v2 ∧ w.cell? ⟨g, o + 6, none⟩ = some k.v3 ∧ w.cell? ⟨g, o + 7, none⟩ = some (.bool k.p.o)
theorem KIn.old {w w' : World} {g o : Nat} {k : Kg} (h : KIn w g o k) (u : Old w w') : KIn w' g o k := ⟨u.keep h.1, u.keep h.2.1, u.keep h.2.2.1, u.keep h.2.2.2.1, u.keep h.2.2.2.2.1, u.keep h.2.2.2.2.2.1, u.keep h.2.2.2.2.2.2.1, u.keep h.2.2.2.2.2.2.2⟩
theorem krow_at {base : Nat} {w : World} {v : Value} {L : List Kg} (h : w.ownsRow base 93 8 v L.length (kgcs L)) (hn : 0 < L.length) : ∃ g cap, v = .slice (some ⟨g, 0, none⟩) L.length cap ∧ base ≤ g ∧ g < w.heap.size ∧ L.length ≤ cap ∧ ∀ i (hi : i < L.length), KIn w g (i * 8) L[i] := by
 have h2 := h
 rcases h2.2 with ⟨_, e⟩ | ⟨g, cap, cur, rfl, hb, hg, hnc, hcm, hcs, htk⟩
 ·omega
 ·refine ⟨g, cap, rfl, hb, heap_lt hg, hnc, fun i hi => ?_⟩
  have H : ∀ j, j < 8 → w.cell? ⟨g, i * 8 + j, none⟩ = (kgc L[i])[j]? := fun j hj => by
   rw [h.cellAt (i * 8 + j) (by omega)]; exact flat_get kgc 8 (fun _ => rfl) L i j hi hj
  exact ⟨H 0 (by omega), H 1 (by omega), H 2 (by omega), H 3 (by omega), H 4 (by omega), H 5 (by omega), H 6 (by omega), H 7 (by omega)⟩
theorem krow_len {base : Nat} {w : World} {v : Value} {L : List Kg} (h : w.ownsRow base 93 8 v L.length (kgcs L)) : ∃ a c, v = .slice a L.length c ∧ L.length ≤ c ∧ c ≤ maxLen := by
 rcases h.2 with ⟨rfl, e⟩ | ⟨g, cap, cur, rfl, hb, hg, hnc, hcm, _⟩
 ·exact ⟨none, 0, by rw [e], by omega, by unfold maxLen; omega⟩
 ·exact ⟨_, _, rfl, hnc, hcm⟩
abbrev CB8 (cb : Nat) (ke cn ho : Int) (vr : Value) (t1 t2 t3 t4 : Nat) (w : World) : Prop := w.cell? ⟨cb, 0, none⟩ = some (.int .i64 ke) ∧ w.cell? ⟨cb, 1, none⟩ = some (.int .i64 cn) ∧ w.cell? ⟨cb, 2, none⟩ = some (.int .i64 ho) ∧ w.cell? ⟨cb, 3, none⟩ = some vr ∧ w.cell? ⟨cb, 4, none⟩ = some (pV t1) ∧ w.cell? ⟨cb, 5, none⟩ = some (pV t2) ∧ w.cell? ⟨cb, 6, none⟩ = some (pV t3) ∧ w.cell? ⟨cb, 7, none⟩ = some (pV t4)
theorem CB8.old {cb : Nat} {ke cn ho : Int} {vr : Value} {t1 t2 t3 t4 : Nat} {w w' : World} (u : Old w w') (h : CB8 cb ke cn ho vr t1 t2 t3 t4 w) : CB8 cb ke cn ho vr t1 t2 t3 t4 w' := ⟨u.keep h.1, u.keep h.2.1, u.keep h.2.2.1, u.keep h.2.2.2.1, u.keep h.2.2.2.2.1, u.keep h.2.2.2.2.2.1, u.keep h.2.2.2.2.2.2.1, u.keep h.2.2.2.2.2.2.2⟩
theorem CtAt.cells {base cb : Nat} {G : Cg} {w : World} (h : CtAt base cb G w) : CB8 cb G.c.keep G.c.cnt G.c.hor G.vr G.P.t1 G.P.t2 G.P.t3 G.P.t4 w ∧ ∀ o, w.frozen? ⟨cb, o, none⟩ = false := by
 refine ⟨⟨?_, ?_, ?_, ?_, ?_, ?_, ?_, ?_⟩, fun o => Go.Joins.unfrozen_of_block h.bx o⟩ <;> (rw [Go.Joins.cell_of_block h.bx]; rfl)
abbrev SmC (cb : Nat) (ke cn ho : Int) (vr : Value) (t1 t2 t3 t4 sb : Nat) (s1 s2 s3 : Int) (v1 v2 v3 : Value) (w : World) : Prop := (w.cell? ⟨cb, 0, none⟩ = some (.int .i64 ke) ∧ w.cell? ⟨cb, 1, none⟩ = some (.int .i64 cn) ∧ w.cell? ⟨cb, 2, none⟩ = some (.int .i64 ho) ∧ w.cell? ⟨cb, 3, none⟩ = some vr ∧ w.cell? ⟨cb, 4, none⟩ = some (pV t1) ∧ w.cell? ⟨cb, 5, none⟩ = some (pV t2) ∧ w.cell? ⟨cb, 6, none⟩ = some (pV t3) ∧ w.cell? ⟨cb, 7, none⟩ = some (pV t4)) ∧ w.cell? ⟨sb, 0, none⟩ = some (.int .i64 s1) ∧ w.cell? ⟨sb, 1, none⟩ = some (.int .i64 s2) ∧ w.cell? ⟨sb, 2, none⟩ = some (.int .i64 s3) ∧ w.cell? ⟨sb, 3, none⟩ = some v1 ∧ w.cell? ⟨sb, 4, none⟩ = some v2 ∧ w.cell? ⟨sb, 5, none⟩ = some v3
theorem SmC.old {cb : Nat} {ke cn ho : Int} {vr : Value} {t1 t2 t3 t4 sb : Nat} {s1 s2 s3 : Int} {v1 v2 v3 : Value} {w w' : World} (u : Old w w') (h : SmC cb ke cn ho vr t1 t2 t3 t4 sb s1 s2 s3 v1 v2 v3 w) : SmC cb ke cn ho vr t1 t2 t3 t4 sb s1 s2 s3 v1 v2 v3 w' := ⟨CB8.old u h.1, SB6.old u h.2⟩
theorem SmC.chg {cb : Nat} {ke cn ho : Int} {vr : Value} {t1 t2 t3 t4 sb : Nat} {s1 s2 s3 : Int} {v1 v2 v3 : Value} {w w' : World} {S : List Nat} (u : Chg S w w') (h : SmC cb ke cn ho vr t1 t2 t3 t4 sb s1 s2 s3 v1 v2 v3 w) (n1 : cb ∉ S) (n2 : sb ∉ S) : SmC cb ke cn ho vr t1 t2 t3 t4 sb s1 s2 s3 v1 v2 v3 w' := ⟨⟨u.cell h.1.1 n1, u.cell h.1.2.1 n1, u.cell h.1.2.2.1 n1, u.cell h.1.2.2.2.1 n1, u.cell h.1.2.2.2.2.1 n1, u.cell h.1.2.2.2.2.2.1 n1, u.cell h.1.2.2.2.2.2.2.1 n1, u.cell h.1.2.2.2.2.2.2.2 n1⟩, SB6.chg h.2 u n2⟩
def foldM (u : Su) (m : Met) (L : List Kp) (j : Nat) : Met := (L.take j).foldl (stepM u) m
theorem foldM_zero (u : Su) (m : Met) (L : List Kp) : foldM u m L 0 = m := rfl
theorem foldM_succ (u : Su) (m : Met) (L : List Kp) (j : Nat) (k : Kp) (h : L[j]? = some k) : foldM u m L (j + 1) = stepM u (foldM u m L j) k := by
 unfold foldM
 obtain ⟨hj, e⟩ := List.getElem?_eq_some_iff.1 h
 rw [List.take_succ_eq_append_getElem hj, List.foldl_append, e]
 rfl
theorem foldM_all (u : Su) (m : Met) (L : List Kp) : foldM u m L L.length = L.foldl (stepM u) m := by
 unfold foldM; rw [List.take_length]
set_option maxHeartbeats 16000000 in
theorem cmeet_any (s : Sb) (base cb : Nat) (G : Cg) (w : World) (hs : s.Ok w) (h : CtAt base cb G w) (ok : CpOk G.c) (hz : 0 ≤ s.s3) (hz2 : s.s3 ≤ 1099511627776) :
    Calls Tryz.prog 23 #[.pointer (some ⟨cb, 0, none⟩), .agg #[.int .i64 s.s1, .int .i64 s.s2, .int .i64 s.s3, .slice s.a1 s.n1 s.c1, .slice s.a2 s.n2 s.c2, .slice s.a3 s.n3 s.c3]] w fun e w' => e = .returned (.agg (metV (metC G.c s.pl))) ∧ Old w w' := by
 have HSM := hid (fun (W : World) (u : Old w W) => smeet_any s base G.P G.V G.c.most G.c.tb W (hs.old u) (h.ta.old u) ok.tb ok.m2 hz hz2)
 have HKn := hid (fun (W : World) (u : Old w W) (k : Kg) (hk : k ∈ G.kn) => ((h.kk k hk).old u).sb)
 have HSo := hid (fun (W : World) (u : Old w W) => hs.old u)
 have HRw := hid h.row
 have HKp := hid h.kp
 have HLn := hid (show G.kn.length ≤ 32 from by have a1 := ok.r; rw [← h.kp, List.length_map] at a1; have := ok.k2; omega)
 have HCB := hid h.cells.1
 have HCl := hid (heap_lt h.bx)
 have HME := hid (show metC G.c s.pl = foldM s.pl (met0T G.c.tb s.pl) G.c.rc G.c.rc.length from (foldM_all _ _ _).symm)
 have HP3 := hid (show s.pl.s3 = s.s3 from rfl)
 obtain ⟨sv, hsv⟩ : ∃ sv : Sb, sv = s := ⟨_, rfl⟩
 obtain ⟨u0, hu0⟩ : ∃ u0, s.pl = u0 := ⟨_, rfl⟩
 rw [hu0] at HSM HME HP3 ⊢
 generalize met0T G.c.tb u0 = M0 at *
 generalize metC G.c u0 = R at *
 obtain ⟨⟨ke, mo, cn, ho, rc, lw, lm, lr, ls⟩, kn, vr, ⟨t1, t2, t3, t4⟩, V⟩ := G
 dsimp only at HSM HKn HRw HKp HLn HCB HME
 clear h ok
 have HAd := hid (fun (k : Kg) (b : Nat) (m : Met) (W : World) (hm : MBx b m W) (h1 : ∀ W', Chg [b] W W' → s.Ok W') (h2 : ∀ W', Chg [b] W W' → k.sb.Ok W') => add_any s k b m W hm h1 h2)
 rw [hu0] at HAd
 obtain ⟨s1, s2, s3, a1, a2, a3, n1, n2, n3, c1, c2, c3, x1, x3, f2⟩ := s
 have HSv := hid hsv
 rw [← HSv.out] at HSo
 rw [← HSv.out] at HAd
 have HAd2 := hid (fun (k : Kg) (b : Nat) (m : Met) (W : World) (hm : MBx b m W) (h1 : ∀ W', Chg [b] W W' → sv.Ok W') (h2 : ∀ W', Chg [b] W W' → k.sb.Ok W') => HAd.out k b m W hm h1 h2)
 clear HAd
 have HVs := hid (show sv.s1 = s1 ∧ sv.s2 = s2 ∧ sv.s3 = s3 ∧ sv.a1 = a1 ∧ sv.a2 = a2 ∧ sv.a3 = a3 ∧ sv.n1 = n1 ∧ sv.n2 = n2 ∧ sv.n3 = n3 ∧ sv.c1 = c1 ∧ sv.c2 = c2 ∧ sv.c3 = c3 from by rw [hsv]; exact ⟨rfl, rfl, rfl, rfl, rfl, rfl, rfl, rfl, rfl, rfl, rfl, rfl⟩)
 rw [HVs.out.1, HVs.out.2.1, HVs.out.2.2.1, HVs.out.2.2.2.1, HVs.out.2.2.2.2.1, HVs.out.2.2.2.2.2.1, HVs.out.2.2.2.2.2.2.1, HVs.out.2.2.2.2.2.2.2.1, HVs.out.2.2.2.2.2.2.2.2.1, HVs.out.2.2.2.2.2.2.2.2.2.1, HVs.out.2.2.2.2.2.2.2.2.2.2.1, HVs.out.2.2.2.2.2.2.2.2.2.2.2] at HAd2
 clear HVs HSv
 dsimp only at HSM hz hz2 HP3 ⊢
 clear hsv hu0 hs x1 x3 f2
 obtain ⟨va, vc, hvr, hvc, hvm⟩ := krow_len HRw.out
 subst hvr
 obtain ⟨n, hn⟩ : ∃ n, kn.length = n := ⟨_, rfl⟩
 have HNl := hid hn
 rw [hn] at HRw HLn HCB hvc
 clear hn
 go_enter Tryz.func23, Tryz.ntmps23
 go_upto_region 1 with fail
 have U0 := hid (((Old.refl w).alloc (.cells #[.int .i64 s1, .int .i64 s2, .int .i64 s3, .slice a1 n1 c1, .slice a2 n2 c2, .slice a3 n3 c3] 25)).alloc (.cells #[.bool false, .bool false, .int .i64 0, .int .i64 0] 64))
 have N0 := hid (two_newK w (.cells #[.int .i64 s1, .int .i64 s2, .int .i64 s3, .slice a1 n1 c1, .slice a2 n2 c2, .slice a3 n3 c3] 25) (.cells #[.bool false, .bool false, .int .i64 0, .int .i64 0] 64))
 generalize (w.alloc (.cells #[.int .i64 s1, .int .i64 s2, .int .i64 s3, .slice a1 n1 c1, .slice a2 n2 c2, .slice a3 n3 c3] 25)).alloc (.cells #[.bool false, .bool false, .int .i64 0, .int .i64 0] 64) = w0 at *
 obtain ⟨sb, hsb⟩ : ∃ sb, w.heap.size = sb := ⟨_, rfl⟩
 have HSZ := hid hsb
 rw [hsb] at N0 ⊢
 obtain ⟨rb0, hrb⟩ : ∃ rb0, sb + 1 = rb0 := ⟨_, rfl⟩
 have HRB := hid (show w.heap.size ≤ rb0 from by omega)
 rw [hrb] at N0 ⊢
 clear hsb hrb
 have S0 := hid (show SmC cb ke cn ho (.slice va n vc) t1 t2 t3 t4 sb s1 s2 s3 (.slice a1 n1 c1) (.slice a2 n2 c2) (.slice a3 n3 c3) w0 from ⟨CB8.old U0.out HCB.out, box6K N0.out.1⟩)
 have R0 := hid N0.out.2
 have HC5 := hid (fun (W : World) (u : Old w0 W) => HSM.out W (U0.out.trans u))
 have HSl := hid (heap_lt N0.out.1)
 clear HSM N0 HCB
 focus
  refine wp_region_noPanic ?_
  refine wp_region_held_drew (S := SmC cb ke cn ho (.slice va n vc) t1 t2 t3 t4 sb s1 s2 s3 (.slice a1 n1 c1) (.slice a2 n2 c2) (.slice a3 n3 c3)) (by kernel_rfl) ?_ (fun hHeld => ?_)
  ·exact SmC.old ((Old.refl w0).drew) S0.out
  try simp only [Act.put, puA, puB, puC]
  clear hHeld
  all_goals
   refine atA [false, false, false, false, false, false, false, false] ?_
   refine tkA (i := 0) (oi := oCe60) (SmC.old ((Old.refl w0).drew) S0.out) ?_
   try simp only [Act.put, puA, puB, puC]
   refine tkA (i := 1) (oi := oCe61) (SmC.old ((Old.refl w0).drew) S0.out) ?_
   try simp only [Act.put, puA, puB, puC]
   refine tkA (i := 2) (oi := oCe62) (SmC.old ((Old.refl w0).drew) S0.out) ?_
   try simp only [Act.put, puA, puB, puC]
   refine tkA (i := 3) (oi := oCe63) (SmC.old ((Old.refl w0).drew) S0.out) ?_
   try simp only [Act.put, puA, puB, puC]
   refine tkA (i := 4) (oi := oCe64) (SmC.old ((Old.refl w0).drew) S0.out) ?_
   try simp only [Act.put, puA, puB, puC]
   refine rdA [5, 6] ?_
   refine AllReadyH.cons (o := oCe65) rfl (fun K hK => ?_) (AllReadyH.cons (o := oCe66) rfl (fun K hK => ?_) AllReadyH.nil)
   refine wantCall2 ?_ 49 (.tmp 11) (.tmp 12) #[55, 25] ?_ (.agg #[pV t1, pV t2, pV t3, pV t4]) (.agg #[.int .i64 s1, .int .i64 s2, .int .i64 s3, .slice a1 n1 c1, .slice a2 n2 c2, .slice a3 n3 c3]) ?_ ?_ ?_ ((enters_of Tryz.func49 (by kernel_rfl) rfl) _ _) ?_
   iterate 5 rfl
   refine (HC5.out _ ((Old.refl w0).drew)).mono ?_
   rintro o x100n ⟨rfl, b100n⟩
   refine ⟨_, rfl, ?_⟩
   have U100n := ((Old.refl w0).drew).trans b100n
   refine hK.out _ _ (SmC.old U100n S0.out) (fun _ => ?_)
   clear hK K
   try simp only [Act.put, puA, puB, puC]
   have UU_100 := U100n
   obtain ⟨xw_100, rfl⟩ : ∃ z, z = x100n := ⟨_, rfl⟩
   rotate_left
   refine stepAllocM ?_ ?_ ?_
   iterate 2 rfl
   intro m100n x100n hm100n hx100n
   have b100n : Old w0.drew x100n := by rw [hx100n]; exact (Old.refl _).alloc _
   have M100n := hid (show x100n.heap[m100n]? = some (.cells #[.bool false, .bool false, .int .i64 0, .int .i64 0] 64) from by rw [hx100n, hm100n]; exact alloc_at _ _)
   have G100n := hid (show w0.heap.size ≤ m100n from by rw [hm100n]; exact ((Old.refl w0).drew).size)
   clear hm100n hx100n
   have U100n := ((Old.refl w0).drew).trans b100n
   refine hK.out _ _ (SmC.old U100n S0.out) (fun _ => ?_)
   clear hK K
   try simp only [Act.put, puA, puB, puC]
   have GG_100 := G100n
   have MM_100 := M100n
   have UU_100 := U100n
   obtain ⟨mm_100, rfl⟩ : ∃ z, z = m100n := ⟨_, rfl⟩
   obtain ⟨xw_100, rfl⟩ : ∃ z, z = x100n := ⟨_, rfl⟩
   rotate_left
  all_goals first
   |refine atA [true, true, true, true, true, true, false, false] ?_
    refine rdA [6] ?_
    refine AllReadyH.cons (o := oCe66) rfl (fun K hK => ?_) AllReadyH.nil
    refine stepAllocM ?_ ?_ ?_
    iterate 2 rfl
    intro m100n x100n hm100n hx100n
    have b100n : Old xw_100 x100n := by rw [hx100n]; exact (Old.refl _).alloc _
    have M100n := hid (show x100n.heap[m100n]? = some (.cells #[.bool false, .bool false, .int .i64 0, .int .i64 0] 64) from by rw [hx100n, hm100n]; exact alloc_at _ _)
    have G100n := hid (show w0.heap.size ≤ m100n from by rw [hm100n]; exact UU_100.size)
    clear hm100n hx100n
    have U100n := UU_100.trans b100n
    refine hK.out _ _ (SmC.old U100n S0.out) (fun _ => ?_)
    clear hK K
    try simp only [Act.put, puA, puB, puC]
    have GG_100 := G100n
    have MM_100 := M100n
    have UU_100 := U100n
    obtain ⟨mm_100, rfl⟩ : ∃ z, z = m100n := ⟨_, rfl⟩
    obtain ⟨xw_100, rfl⟩ : ∃ z, z = x100n := ⟨_, rfl⟩
   |refine atA [true, true, true, true, true, false, true, false] ?_
    refine rdA [5] ?_
    refine AllReadyH.cons (o := oCe65) rfl (fun K hK => ?_) AllReadyH.nil
    refine wantCall2 ?_ 49 (.tmp 11) (.tmp 12) #[55, 25] ?_ (.agg #[pV t1, pV t2, pV t3, pV t4]) (.agg #[.int .i64 s1, .int .i64 s2, .int .i64 s3, .slice a1 n1 c1, .slice a2 n2 c2, .slice a3 n3 c3]) ?_ ?_ ?_ ((enters_of Tryz.func49 (by kernel_rfl) rfl) _ _) ?_
    iterate 5 rfl
    refine (HC5.out _ UU_100).mono ?_
    rintro o x100n ⟨rfl, b100n⟩
    refine ⟨_, rfl, ?_⟩
    have U100n := UU_100.trans b100n
    have M100n := hid (b100n.block MM_100.out)
    refine hK.out _ _ (SmC.old U100n S0.out) (fun _ => ?_)
    clear hK K
    try simp only [Act.put, puA, puB, puC]
    have MM_100 := M100n
    have UU_100 := U100n
    obtain ⟨xw_100, rfl⟩ : ∃ z, z = x100n := ⟨_, rfl⟩
  all_goals
   refine atA [true, true, true, true, true, true, true, false] ?_
   refine rdA [7] ?_
   refine AllReadyH.cons (o := oCe67) rfl (fun K hK => ?_) AllReadyH.nil
   refine stepStoreM ?_ (.tmp 5) (.tmp 13) ?_ mm_100 (.bool M0.w) (.bool M0.m) (.int .i64 M0.f) (.int .i64 M0.l) ?_ ?_ (there4 MM_100.out) rfl ?_
   iterate 4 rfl
   have M100n := hid (blk4_set (p := .bool M0.w) (q := .bool M0.m) (r := .int .i64 M0.f) (s := .int .i64 M0.l) MM_100.out)
   have U100n := Old.cells4 GG_100.out UU_100 (.bool M0.w) (.bool M0.m) (.int .i64 M0.f) (.int .i64 M0.l)
   refine hK.out _ _ (SmC.old U100n S0.out) (fun _ => ?_)
   clear hK K
   try simp only [Act.put, puA, puB, puC]
   have MM_100 := M100n
   have UU_100 := U100n
  all_goals
   refine atA [true, true, true, true, true, true, true, true] ?_
   refine wpAnyH_done (by kernel_rfl) ?_ _
   refine NoPanic.normal ?_
   have HM := hid MM_100.out
   have U2 := hid UU_100
   have HG := hid GG_100.out
   generalize (xw_100.setCells mm_100 0 [.bool M0.w, .bool M0.m, .int .i64 M0.f, .int .i64 M0.l]) = w2 at *
   generalize mm_100 = m at *
   have R2 := hid (U2.out.block R0.out)
   have HMN := hid (show rb0 ≠ m from fun e => by have := heap_lt R0.out; have := HG.out; omega)
   have hn32 : (n : Int) ≤ 32 := by have := HLn.out; omega
   have HNc := hid (show cb ∉ [m] ∧ sb ∉ [m] from ⟨by simp; exact fun e => by have := HCl.out; have := HG.out; have := U0.out.size; omega, by simp; exact fun e => by have := HSl.out; have := HG.out; omega⟩)
   have HGw := hid (show w.heap.size ≤ m from Nat.le_trans U0.out.size HG.out)
   have S2' := hid (SmC.old U2.out S0.out)
   have HSC := hid (fun (W : World) {W1 : World} (u : Chg [m] W1 W) (q : SmC cb ke cn ho (.slice va n vc) t1 t2 t3 t4 sb s1 s2 s3 (.slice a1 n1 c1) (.slice a2 n2 c2) (.slice a3 n3 c3) W1) => SmC.chg u q HNc.out.1 HNc.out.2)
   obtain ⟨⟨e0, e1, e2, e3, e4, e5, e6, e7⟩, y0, y1, y2, y3, y4, y5⟩ := S2'.out
   go_upto_region 3 with fail
   clear e0 e1 e2 e3 e4 e5 e6 e7 y0 y1 y2 y3 y4 y5
   go_wp2
   go_loopw [19] (fun i wx => ∃ j : Nat, j ≤ n ∧ i = .int .i64 (j : Nat) ∧ Hid (MBx m (foldM u0 M0 rc j) wx ∧ Old w wx ∧ SmC cb ke cn ho (.slice va n vc) t1 t2 t3 t4 sb s1 s2 s3 (.slice a1 n1 c1) (.slice a2 n2 c2) (.slice a3 n3 c3) wx ∧ wx.heap[rb0]? = some (.cells #[.bool false, .bool false, .int .i64 0, .int .i64 0] 64))) (fun i _ => n - (intOf i).toNat)
   case atStart => exact ⟨0, Nat.zero_le _, rfl, hid ⟨HM.out, U0.out.trans U2.out, S2'.out, R2.out⟩⟩
   case round =>
    obtain ⟨j, hj, rfl, HI⟩ := hrel
    by_cases hlt : j < n
    ·have hjk : j < kn.length := by rw [HNl.out]; exact hlt
     obtain ⟨g, cap, ev, -, -, -, hki⟩ := krow_at (by rw [HNl.out]; exact HRw.out) (by omega)
     simp only [Value.slice.injEq] at ev
     obtain ⟨rfl, -, -⟩ := ev
     have HKI := hid ((hki j hjk).old HI.out.2.1)
     have HKm := hid (List.getElem_mem hjk)
     have HFo := hid (foldM_succ u0 M0 rc j kn[j].p (by rw [← HKp.out, List.getElem?_map, List.getElem?_eq_getElem hjk]; rfl))
     generalize kn[j] = K at *
     clear hki hjk
     have l1' : (0 : Int) ≤ (j : Int) := by omega
     have l2' : (j : Int) < (n : Int) := by omega
     have HKs := hid (fun (W : World) (u : Chg [m] wr W) => HKn.out W (HI.out.2.1.below (u.below w.heap.size (fun k q => by simp at q; subst q; exact HGw.out) HI.out.2.1.size)) K HKm.out)
     have HSs := hid (fun (W : World) (u : Chg [m] wr W) => HSo.out W (HI.out.2.1.below (u.below w.heap.size (fun k q => by simp at q; subst q; exact HGw.out) HI.out.2.1.size)))
     have HAk := hid (fun (W : World) (u : Old wr W) => HAd2.out K m (foldM u0 M0 rc j) W (MBx.old HI.out.1 u) (fun W' c => HSs.out W' ((Chg.ofOld u).trans c)) (fun W' c => HKs.out W' ((Chg.ofOld u).trans c)))
     have HSt := hid (show stepM u0 (foldM u0 M0 rc j) K.p = if s3 < K.p.n then addM u0 (foldM u0 M0 rc j) K.p else foldM u0 M0 rc j from by unfold stepM; rw [HP3.out])
     obtain ⟨z0, z1, z2, z3, z4, z5, z6, z7⟩ := HKI.out
     unfold Kg.v1 at z4 HAk
     unfold Kg.v2 at z5 HAk
     unfold Kg.v3 at z6 HAk
     clear HKI HKs HSs HKm
     obtain ⟨⟨kn0, ⟨k1, k2, k3, kR, kP, kW⟩, ko⟩, ka1, ka2, ka3, kc1, kc2, kc3⟩ := K
     dsimp only at z0 z1 z2 z3 z4 z5 z6 z7 HAk HSt HFo
     obtain ⟨l1, hl1⟩ : ∃ l1, kR.length = l1 := ⟨_, rfl⟩
     obtain ⟨l2, hl2⟩ : ∃ l2, kP.length = l2 := ⟨_, rfl⟩
     obtain ⟨l3, hl3⟩ : ∃ l3, kW.length = l3 := ⟨_, rfl⟩
     rw [hl1] at z4 HAk
     rw [hl2] at z5 HAk
     rw [hl3] at z6 HAk
     clear hl1 hl2 hl3
     obtain ⟨mj, hmj⟩ : ∃ mj, foldM u0 M0 rc j = mj := ⟨_, rfl⟩
     have HMj := hid hmj
     rw [hmj] at HAk HSt
     clear hmj
     generalize addM u0 mj ⟨kn0, ⟨k1, k2, k3, kR, kP, kW⟩, ko⟩ = Mn at *
     obtain ⟨⟨e0, e1, e2, e3, e4, e5, e6, e7⟩, y0, y1, y2, y3, y4, y5⟩ := HI.out.2.2.1
     go_upto_region 5 with fail
     have UJ := hid ((Old.refl wr).alloc (.cells #[.int .i64 kn0, .int .i64 k1, .int .i64 k2, .int .i64 k3, .slice ka1 l1 kc1, .slice ka2 l2 kc2, .slice ka3 l3 kc3, .bool ko] 93))
     have BJ := hid (box8K (alloc_at wr (.cells #[.int .i64 kn0, .int .i64 k1, .int .i64 k2, .int .i64 k3, .slice ka1 l1 kc1, .slice ka2 l2 kc2, .slice ka3 l3 kc3, .bool ko] 93)))
     generalize wr.alloc (.cells #[.int .i64 kn0, .int .i64 k1, .int .i64 k2, .int .i64 k3, .slice ka1 l1 kc1, .slice ka2 l2 kc2, .slice ka3 l3 kc3, .bool ko] 93) = wj at *
     generalize wr.heap.size = kb at *
     clear z0 z1 z2 z3 z4 z5 z6 z7 e0 e1 e2 e3 e4 e5 e6 e7 y0 y1 y2 y3 y4 y5
     obtain ⟨z0, z1, z2, z3, z4, z5, z6, z7⟩ := BJ.out
     obtain ⟨⟨e0, e1, e2, e3, e4, e5, e6, e7⟩, y0, y1, y2, y3, y4, y5⟩ := SmC.old UJ.out HI.out.2.2.1
     by_cases hq : s3 < kn0
     ·have dq : decide (s3 < kn0) = true := by simp [hq]
      have HSt2 := hid (HSt.out.trans (if_pos hq))
      clear HSt
      go_upto_region 7 with (go_at_call 50; refine (HAk.out _ UJ.out).mono ?_; rintro e wk ⟨rfl, mk, ck⟩; have MK := hid mk; have CK := hid ck; clear mk ck)
      have UK := hid (HI.out.2.1.below (((Chg.ofOld UJ.out).trans CK.out).below w.heap.size (fun k q => by simp at q; subst q; exact HGw.out) HI.out.2.1.size))
      have SK := hid (HSC.out wk (CK.out) (SmC.old UJ.out HI.out.2.2.1))
      have RK := hid (CK.out.heapAt (UJ.out.block HI.out.2.2.2) (by simp; exact HMN.out))
      go_wp2
      exact ⟨⟨j + 1, hlt, by go_num, hid ⟨by rw [HFo.out, HMj.out, HSt2.out]; exact MK.out, UK.out, SK.out, RK.out⟩⟩, by simp [intOf]; omega⟩
     ·have dq : decide (s3 < kn0) = false := decide_eq_false (by omega)
      have HSt2 := hid (HSt.out.trans (if_neg hq))
      clear HSt
      go_wp2
      exact ⟨⟨j + 1, hlt, by go_num, hid ⟨by rw [HFo.out, HMj.out, HSt2.out]; exact MBx.old (by rw [← HMj.out]; exact HI.out.1) UJ.out, HI.out.2.1.trans UJ.out, SmC.old UJ.out HI.out.2.2.1, UJ.out.block HI.out.2.2.2⟩⟩, by simp [intOf]; omega⟩
    ·obtain rfl : n = j := by omega
     have MZ := hid HI.out.1
     have UZ := hid HI.out.2.1
     have RZ := hid HI.out.2.2.2
     have HFi := hid (show foldM u0 M0 rc n = R from by rw [HME.out, ← HKp.out, List.length_map, HNl.out])
     rw [HFi.out] at MZ
     clear HI HFi
     obtain ⟨Rw, Rm, Rf, Rl⟩ := R
     obtain ⟨⟨z0, z1, z2, z3⟩, -⟩ := box4M MZ.out
     obtain ⟨⟨y0, y1, y2, y3⟩, g0, g1, g2, g3⟩ := box4M RZ.out
     go_wp2
     have RF := hid (Go.Joins.block_setCell (Go.Joins.block_setCell (Go.Joins.block_setCell (Go.Joins.block_setCell RZ.out (.bool Rw) (i := 0)) (.bool Rm) (i := 1)) (.int .i64 Rf) (i := 2)) (.int .i64 Rl) (i := 3))
     have UF := hid ((((UZ.out.setCell (p := ⟨rb0, 0, none⟩) HRB.out (.bool Rw)).setCell (p := ⟨rb0, 1, none⟩) HRB.out (.bool Rm)).setCell (p := ⟨rb0, 2, none⟩) HRB.out (.int .i64 Rf)).setCell (p := ⟨rb0, 3, none⟩) HRB.out (.int .i64 Rl))
     obtain ⟨⟨k0, k1, k2, k3⟩, -⟩ := box4M RF.out
     refine bodyPost_ret (v := .agg #[.bool Rw, .bool Rm, .int .i64 Rf, .int .i64 Rl]) (by simp [results, Tryz.results23, go_sem, k0, k1, k2, k3]) rfl ?_
     exact ⟨rfl, UF.out⟩
end Go.Proofs.YtgeinnaljlajoaaGreat
