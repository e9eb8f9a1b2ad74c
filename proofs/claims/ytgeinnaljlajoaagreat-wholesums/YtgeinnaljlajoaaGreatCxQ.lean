/- A Cert that turns: its number, its row, its horizon; Cert.fault; conditions: it lies in memory. -/
import Derived.Test.YtgeinnaljlajoaaGreatSqa
import Derived.Test.YtgeinnaljlajoaaGreatCxP
namespace Go.Proofs.YtgeinnaljlajoaaGreat
abbrev oCe90 : Oper := { dst := some 19, op := .fieldAddr 25 (.tmp 3) 2, type := 0, pos := "cert.go:57", after := #[], guard := none }
abbrev oCe91 : Oper := { dst := some 20, op := .load 2 (.tmp 19), type := 2, pos := "cert.go:57", after := #[⟨0, .data⟩], guard := none }
abbrev oCe92 : Oper := { dst := some 21, op := .move (.tmp 0), type := 26, pos := "cert.go:57", after := #[], guard := none }
abbrev oCe93 : Oper := { dst := some 22, op := .nilCheck (.tmp 21), type := 0, pos := "cert.go:57", after := #[⟨2, .data⟩], guard := none }
abbrev oCe94 : Oper := { dst := some 23, op := .fieldAddr 59 (.tmp 22) 1, type := 0, pos := "cert.go:57", after := #[⟨3, .data⟩], guard := none }
abbrev oCe95 : Oper := { dst := some 24, op := .load 2 (.tmp 23), type := 2, pos := "cert.go:57", after := #[⟨4, .data⟩], guard := none }
abbrev oCe96 : Oper := { dst := some 25, op := .binOp .gtr 2 (.tmp 20) (.tmp 24) 2, type := 4, pos := "cert.go:57", after := #[⟨1, .data⟩, ⟨5, .data⟩], guard := none }
abbrev oCe97 : Oper := { dst := some 18, op := .assign (.tmp 25), type := 4, pos := "cert.go:57", after := #[⟨6, .data⟩], guard := none }
abbrev oCe98 : Oper := { dst := some 27, op := .fieldAddr 25 (.tmp 3) 2, type := 0, pos := "cert.go:59", after := #[], guard := none }
abbrev oCe99 : Oper := { dst := some 28, op := .load 2 (.tmp 27), type := 2, pos := "cert.go:59", after := #[⟨0, .data⟩], guard := none }
abbrev oCe910 : Oper := { dst := some 29, op := .move (.tmp 0), type := 26, pos := "cert.go:59", after := #[], guard := none }
abbrev oCe911 : Oper := { dst := some 30, op := .nilCheck (.tmp 29), type := 0, pos := "cert.go:59", after := #[⟨2, .data⟩], guard := none }
abbrev oCe912 : Oper := { dst := some 31, op := .fieldAddr 59 (.tmp 30) 2, type := 0, pos := "cert.go:59", after := #[⟨3, .data⟩], guard := none }
abbrev oCe913 : Oper := { dst := some 32, op := .load 2 (.tmp 31), type := 2, pos := "cert.go:59", after := #[⟨4, .data⟩], guard := none }
abbrev oCe914 : Oper := { dst := some 33, op := .binOp .lss 2 (.tmp 28) (.tmp 32) 2, type := 4, pos := "cert.go:59", after := #[⟨1, .data⟩, ⟨5, .data⟩], guard := none }
abbrev oCe915 : Oper := { dst := some 26, op := .assign (.tmp 33), type := 4, pos := "cert.go:59", after := #[⟨6, .data⟩], guard := none }
open Go.RowKit Go.Lib
set_option linter.unusedVariables false
set_option linter.unusedSimpArgs false
set_option maxRecDepth 20000
attribute [local go_sem] run_bits run_frombits run_store_float eqF
theorem CtAt.setN {base cb : Nat} {G : Cg} {w : World} (h : CtAt base cb G w) (x : Int) : CtAt base cb { G with c := { G.c with cnt := x } } (w.setCell ⟨cb, 1, none⟩ (.int .i64 x)) ∧ CMov cb w G (w.setCell ⟨cb, 1, none⟩ (.int .i64 x)) { G with c := { G.c with cnt := x } } := by
 have c : Chg [cb] w (w.setCell ⟨cb, 1, none⟩ (.int .i64 x)) := Chg.set (S := [cb]) _ ⟨cb, 1, none⟩ _ (by simp)
 refine ⟨⟨Go.Joins.block_setCell h.bx _ (i := 1), h.bb, own_chg h.row c (fun g e q => ?_), fun k hk => (h.kk k hk).chg c (fun g hg q => ?_), h.kp, h.ta.chg c (fun k hk q => ?_), h.n1, h.n2, h.n3, h.far⟩, ⟨c.mono (fun k q _ => ?_), fun k hk => .inl hk⟩⟩
 ·simp at q; subst q; exact h.n1 e
 ·simp at q; subst q; exact h.far k hk _ hg (mem_mblC.2 (.inl rfl))
 ·simp at q; subst q; exact h.n2 hk
 ·simp at q; subst q; exact mem_mblC.2 (.inl rfl)
theorem CtAt.setH {base cb : Nat} {G : Cg} {w : World} (h : CtAt base cb G w) (x : Int) : CtAt base cb { G with c := { G.c with hor := x } } (w.setCell ⟨cb, 2, none⟩ (.int .i64 x)) ∧ CMov cb w G (w.setCell ⟨cb, 2, none⟩ (.int .i64 x)) { G with c := { G.c with hor := x } } := by
 have c : Chg [cb] w (w.setCell ⟨cb, 2, none⟩ (.int .i64 x)) := Chg.set (S := [cb]) _ ⟨cb, 2, none⟩ _ (by simp)
 refine ⟨⟨Go.Joins.block_setCell h.bx _ (i := 2), h.bb, own_chg h.row c (fun g e q => ?_), fun k hk => (h.kk k hk).chg c (fun g hg q => ?_), h.kp, h.ta.chg c (fun k hk q => ?_), h.n1, h.n2, h.n3, h.far⟩, ⟨c.mono (fun k q _ => ?_), fun k hk => .inl hk⟩⟩
 ·simp at q; subst q; exact h.n1 e
 ·simp at q; subst q; exact h.far k hk _ hg (mem_mblC.2 (.inl rfl))
 ·simp at q; subst q; exact h.n2 hk
 ·simp at q; subst q; exact mem_mblC.2 (.inl rfl)
theorem Chg.grownB {w w' : World} {row : Option Nat} (g : w.grownBy w' row) : Chg row.toList w w' := ⟨g.os, g.tape, g.output, g.size, fun k hk hn => g.block k hk (fun e => hn (by rw [← e]; simp))⟩
theorem CtAt.setR {base cb : Nat} {G : Cg} {w w' : World} (h : CtAt base cb G w) {v' : Value} {kn' : List Kg} (c : Chg G.vr.ownBlock.toList w w') (o : w'.ownsRow base 93 8 v' kn'.length (kgcs kn')) (hv : v'.ownBlock = G.vr.ownBlock ∨ v'.ownBlock = some w.heap.size) (hk : ∀ k ∈ kn', k ∈ G.kn ∨ (KOk base k w ∧ ∀ g ∈ k.bl, g ∉ mblC cb G)) :
    CtAt base cb { G with kn := kn', vr := v', c := { G.c with rc := kn'.map (·.p) } } (w'.setCell ⟨cb, 3, none⟩ v') ∧ CMov cb w G (w'.setCell ⟨cb, 3, none⟩ v') { G with kn := kn', vr := v', c := { G.c with rc := kn'.map (·.p) } } := by
 have hcb := heap_lt h.bx
 have hS : ∀ k ∈ G.vr.ownBlock.toList, k ∈ mblC cb G := fun k q => mem_mblC.2 (.inr (.inl (by simpa [Option.mem_toList] using q)))
 have hb : w'.heap[cb]? = some (.cells (boxC G.c G.vr G.P) 59 (0, 0)) := c.heapAt h.bx (fun q => h.n1 (by simpa [Option.mem_toList] using q))
 have c2 : Chg [cb] w' (w'.setCell ⟨cb, 3, none⟩ v') := Chg.set (S := [cb]) _ ⟨cb, 3, none⟩ _ (by simp)
 have hn : ∀ g, v'.ownBlock = some g → G.vr.ownBlock = some g ∨ w.heap.size ≤ g := fun g e => by
  rcases hv with q | q
  ·exact .inl (q ▸ e)
  ·rw [q] at e; cases e; exact .inr (Nat.le_refl _)
 have hf : ∀ k ∈ kn', (∀ g ∈ k.bl, g < w.heap.size ∧ g ∉ mblC cb G) ∧ KOk base k w := fun k q => by
  rcases hk k q with z | z
  ·exact ⟨fun g hg => ⟨((h.kk k z).lt g hg).2, h.far k z g hg⟩, h.kk k z⟩
  ·exact ⟨fun g hg => ⟨(z.1.lt g hg).2, z.2 g hg⟩, z.1⟩
 have n1' : v'.ownBlock ≠ some cb := fun e => by
  rcases hn cb e with q | q
  ·exact h.n1 q
  ·omega
 refine ⟨⟨Go.Joins.block_setCell hb _ (i := 3), h.bb, own_chg o c2 (fun g e q => by simp at q; subst q; exact n1' e), fun k q => ?_, rfl, ?_, n1', h.n2, fun g e q => ?_, fun k q g hg z => ?_⟩, ⟨chg_after (c.mono (fun k q _ => hS k q)) c2 (fun i hi => by simp at hi; subst hi; exact .inl (mem_mblC.2 (.inl rfl))), fun k q => ?_⟩⟩
 ·refine ((hf k q).2.chg c (fun g hg z => ((hf k q).1 g hg).2 (hS g z))).chg c2 (fun g hg z => ?_)
  simp at z; subst z
  exact ((hf k q).1 _ hg).2 (mem_mblC.2 (.inl rfl))
 ·refine (h.ta.chg c (fun k q z => h.n3 k (by simpa [Option.mem_toList] using z) q)).chg c2 (fun k q z => ?_)
  simp at z; subst z; exact h.n2 q
 ·rcases hn g e with z | z
  ·exact h.n3 g z q
  ·have := (h.ta.lt g q).2; omega
 ·rcases mem_mblC.1 z with y | y | y
  ·exact ((hf k q).1 g hg).2 (mem_mblC.2 (.inl y))
  ·rcases hn g y with x | x
   ·exact ((hf k q).1 g hg).2 (mem_mblC.2 (.inr (.inl x)))
   ·have := ((hf k q).1 g hg).1; omega
  ·exact ((hf k q).1 g hg).2 (mem_mblC.2 (.inr (.inr y)))
 ·rcases mem_mblC.1 q with y | y | y
  ·exact .inl (mem_mblC.2 (.inl y))
  ·rcases hn k y with x | x
   ·exact .inl (mem_mblC.2 (.inr (.inl x)))
   ·exact .inr x
  ·exact .inl (mem_mblC.2 (.inr (.inr y)))
theorem faultC_eq (c : Cp) (u : Su) (ck cn ho s3 : Int) (h1 : c.cnt = cn) (h2 : c.hor = ho) (h3 : u.s3 = s3) (r : Int) (e : r = if ck ≠ 0 then ck else if 1099511627776 ≤ cn then 3 else if cn < s3 then 113 else if s3 < ho then 110 else 0) : faultC c u ck = r := by
 subst h1 h2 h3 e; rfl
set_option maxHeartbeats 8000000 in
theorem fault_any (s : Sb) (base cb : Nat) (G : Cg) (w : World) (hs : s.Ok w) (h : CtAt base cb G w) :
    Calls Tryz.prog 22 #[.pointer (some ⟨cb, 0, none⟩), .agg #[.int .i64 s.s1, .int .i64 s.s2, .int .i64 s.s3, .slice s.a1 s.n1 s.c1, .slice s.a2 s.n2 s.c2, .slice s.a3 s.n3 s.c3]] w fun e w' => e = .returned (.int .i64 (faultC G.c s.pl s.chk)) ∧ Old w w' := by
 have HCk := hid (fun (W : World) (u : Old w W) => check_any s.s1 s.s2 s.s3 s.a1 s.a2 s.a3 s.n1 s.n2 s.n3 s.c1 s.c2 s.c3 s.x1 s.x3 s.f2 hs.b1 hs.b2 hs.b3 W (hs.h1.old u) (hs.h2.old u) (hs.h3.old u))
 have HCB := hid h.cells.1
 obtain ⟨ck, hck⟩ : ∃ ck, s.chk = ck := ⟨_, rfl⟩
 obtain ⟨cn, hcn⟩ : ∃ cn, G.c.cnt = cn := ⟨_, rfl⟩
 obtain ⟨ho, hho⟩ : ∃ ho, G.c.hor = ho := ⟨_, rfl⟩
 obtain ⟨z3, hz3⟩ : ∃ z3, s.s3 = z3 := ⟨_, rfl⟩
 have HE := hid (faultC_eq G.c s.pl ck cn ho z3 hcn hho hz3)
 have hck2 : chkV s.s1 s.s2 s.s3 s.n1 s.n2 s.n3 s.x1 s.x3 s.f2 = ck := hck
 rw [hck2] at HCk
 rw [hck]
 rw [hcn, hho] at HCB
 clear hck hck2 hcn hho
 obtain ⟨s1, s2, s3, a1, a2, a3, n1, n2, n3, c1, c2, c3, x1, x3, f2⟩ := s
 dsimp only at HCk hz3 ⊢
 subst hz3
 have HQ := hid (fun (r : Int) (e : Ending.returned (.int .i64 r) = Ending.returned (.int .i64 r)) => e)
 generalize faultC G.c _ ck = R at *
 generalize G.c.keep = ke at *
 generalize G.vr = vr at *
 generalize G.P.t1 = t1 at *
 generalize G.P.t2 = t2 at *
 generalize G.P.t3 = t3 at *
 generalize G.P.t4 = t4 at *
 clear hs h x1 x3 f2 HQ
 go_enter Tryz.func22, Tryz.ntmps22
 go_upto_region 1 with fail
 have U0 := hid ((Old.refl w).alloc (.cells #[.int .i64 s1, .int .i64 s2, .int .i64 s3, .slice a1 n1 c1, .slice a2 n2 c2, .slice a3 n3 c3] 25))
 have S0 := hid (show SmC cb ke cn ho vr t1 t2 t3 t4 w.heap.size s1 s2 s3 (.slice a1 n1 c1) (.slice a2 n2 c2) (.slice a3 n3 c3) (w.alloc (.cells #[.int .i64 s1, .int .i64 s2, .int .i64 s3, .slice a1 n1 c1, .slice a2 n2 c2, .slice a3 n3 c3] 25)) from ⟨CB8.old U0.out HCB.out, box6K (alloc_at w (.cells #[.int .i64 s1, .int .i64 s2, .int .i64 s3, .slice a1 n1 c1, .slice a2 n2 c2, .slice a3 n3 c3] 25))⟩)
 generalize w.alloc (.cells #[.int .i64 s1, .int .i64 s2, .int .i64 s3, .slice a1 n1 c1, .slice a2 n2 c2, .slice a3 n3 c3] 25) = w0 at *
 generalize w.heap.size = sb at *
 obtain ⟨⟨e0, e1, e2, e3, e4, e5, e6, e7⟩, y0, y1, y2, y3, y4, y5⟩ := S0.out
 go_upto_region 2 with (go_at_call 40; refine (HCk.out _ U0.out).mono ?_; rintro e w1 ⟨rfl, o1⟩; have U1 := hid (U0.out.trans o1); have S1 := hid (SmC.old o1 S0.out); clear o1)
 clear e0 e1 e2 e3 e4 e5 e6 e7 y0 y1 y2 y3 y4 y5 S0 HCk
 obtain ⟨⟨e0, e1, e2, e3, e4, e5, e6, e7⟩, y0, y1, y2, y3, y4, y5⟩ := S1.out
 by_cases h0 : ck = 0
 ·subst h0
  by_cases h1 : 1099511627776 ≤ cn
  ·have d1 : decide (1099511627776 ≤ cn) = true := by simp [h1]
   go_wp2
   go_ret
   exact ⟨by rw [HE.out 3 (by simp [h1])]; rfl, U1.out⟩
  ·have d1 : decide (1099511627776 ≤ cn) = false := decide_eq_false (by omega)
   go_upto_region 6 with fail
   refine wp_region_noPanic ?_
   refine wp_region_held_drew (S := SmC cb ke cn ho vr t1 t2 t3 t4 sb s1 s2 s3 (.slice a1 n1 c1) (.slice a2 n2 c2) (.slice a3 n3 c3)) (by kernel_rfl) ?_ (fun hHeld => ?_)
   ·exact SmC.old ((Old.refl _).drew) S1.out
   try simp only [Act.put, puA, puB, puC]
   clear hHeld
   refine tkA (i := 0) (oi := oCe90) (SmC.old ((Old.refl w1).drew) S1.out) ?_
   try simp only [Act.put, puA, puB, puC]
   refine tkA (i := 1) (oi := oCe91) (SmC.old ((Old.refl w1).drew) S1.out) ?_
   try simp only [Act.put, puA, puB, puC]
   refine tkA (i := 2) (oi := oCe92) (SmC.old ((Old.refl w1).drew) S1.out) ?_
   try simp only [Act.put, puA, puB, puC]
   refine tkA (i := 3) (oi := oCe93) (SmC.old ((Old.refl w1).drew) S1.out) ?_
   try simp only [Act.put, puA, puB, puC]
   refine tkA (i := 4) (oi := oCe94) (SmC.old ((Old.refl w1).drew) S1.out) ?_
   try simp only [Act.put, puA, puB, puC]
   refine tkA (i := 5) (oi := oCe95) (SmC.old ((Old.refl w1).drew) S1.out) ?_
   try simp only [Act.put, puA, puB, puC]
   refine tkA (i := 6) (oi := oCe96) (SmC.old ((Old.refl w1).drew) S1.out) ?_
   try simp only [Act.put, puA, puB, puC]
   refine rdB 7 oCe97 fun K hK => ?_
   go_simp
   refine hK.out _ _ (SmC.old ((Old.refl w1).drew) S1.out) (fun _ => ?_)
   clear hK K
   try simp only [Act.put, puA, puB, puC]
   refine wpAnyH_done (by kernel_rfl) ?_ _
   refine NoPanic.normal ?_
   have U6 := ((Old.refl w1).drew)
   have S6 := hid (SmC.old U6 S1.out)
   have V6 := hid (U1.out.trans U6)
   generalize w1.drew = w6 at *
   by_cases h2 : cn < s3
   ·have d2 : decide (cn < s3) = true := by simp [h2]
    go_wp2
    go_ret
    exact ⟨by rw [HE.out 113 (by simp; rw [if_neg (show ¬ 1099511627776 ≤ cn from by omega), if_pos h2])]; rfl, V6.out⟩
   ·have d2 : decide (cn < s3) = false := decide_eq_false (by omega)
    go_upto_region 8 with fail
    refine wp_region_noPanic ?_
    refine wp_region_held_drew (S := SmC cb ke cn ho vr t1 t2 t3 t4 sb s1 s2 s3 (.slice a1 n1 c1) (.slice a2 n2 c2) (.slice a3 n3 c3)) (by kernel_rfl) ?_ (fun hHeld => ?_)
    ·exact SmC.old ((Old.refl _).drew) S6.out
    try simp only [Act.put, puA, puB, puC]
    clear hHeld
    refine tkA (i := 0) (oi := oCe98) (SmC.old ((Old.refl w6).drew) S6.out) ?_
    try simp only [Act.put, puA, puB, puC]
    refine tkA (i := 1) (oi := oCe99) (SmC.old ((Old.refl w6).drew) S6.out) ?_
    try simp only [Act.put, puA, puB, puC]
    refine tkA (i := 2) (oi := oCe910) (SmC.old ((Old.refl w6).drew) S6.out) ?_
    try simp only [Act.put, puA, puB, puC]
    refine tkA (i := 3) (oi := oCe911) (SmC.old ((Old.refl w6).drew) S6.out) ?_
    try simp only [Act.put, puA, puB, puC]
    refine tkA (i := 4) (oi := oCe912) (SmC.old ((Old.refl w6).drew) S6.out) ?_
    try simp only [Act.put, puA, puB, puC]
    refine tkA (i := 5) (oi := oCe913) (SmC.old ((Old.refl w6).drew) S6.out) ?_
    try simp only [Act.put, puA, puB, puC]
    refine tkA (i := 6) (oi := oCe914) (SmC.old ((Old.refl w6).drew) S6.out) ?_
    try simp only [Act.put, puA, puB, puC]
    refine rdB 7 oCe915 fun K hK => ?_
    go_simp
    refine hK.out _ _ (SmC.old ((Old.refl w6).drew) S6.out) (fun _ => ?_)
    clear hK K
    try simp only [Act.put, puA, puB, puC]
    refine wpAnyH_done (by kernel_rfl) ?_ _
    refine NoPanic.normal ?_
    have V8 := hid (V6.out.trans ((Old.refl w6).drew))
    by_cases h3 : s3 < ho
    ·have d3 : decide (s3 < ho) = true := by simp [h3]
     go_wp2
     go_ret
     exact ⟨by rw [HE.out 110 (by simp; rw [if_neg (show ¬ 1099511627776 ≤ cn from by omega), if_neg (show ¬ cn < s3 from by omega), if_pos h3])]; rfl, V8.out⟩
    ·have d3 : decide (s3 < ho) = false := decide_eq_false (by omega)
     go_wp2
     go_ret
     exact ⟨by rw [HE.out 0 (by simp; rw [if_neg (show ¬ 1099511627776 ≤ cn from by omega), if_neg (show ¬ cn < s3 from by omega), if_neg (show ¬ s3 < ho from by omega)])]; rfl, V8.out⟩
 ·have d0 : (ck != 0) = true := by simp [h0]
  go_wp2
  go_ret
  exact ⟨by rw [HE.out ck (by simp [h0])]; rfl, U1.out⟩
end Go.Proofs.YtgeinnaljlajoaaGreat
namespace Go.Proofs.YtgeinnaljlajoaaGreat
abbrev oCea0 : Oper := { dst := some 14, op := .move (.tmp 0), type := 26, pos := "cert.go:106", after := #[], guard := none }
abbrev oCea1 : Oper := { dst := some 15, op := .move (.tmp 0), type := 26, pos := "cert.go:106", after := #[], guard := none }
abbrev oCea2 : Oper := { dst := some 16, op := .nilCheck (.tmp 15), type := 0, pos := "cert.go:106", after := #[⟨1, .data⟩], guard := none }
abbrev oCea3 : Oper := { dst := some 17, op := .fieldAddr 59 (.tmp 16) 3, type := 0, pos := "cert.go:106", after := #[⟨2, .data⟩], guard := none }
abbrev oCea4 : Oper := { dst := some 19, op := .move (.tmp 0), type := 26, pos := "cert.go:106", after := #[], guard := none }
abbrev oCea5 : Oper := { dst := some 20, op := .nilCheck (.tmp 19), type := 0, pos := "cert.go:106", after := #[⟨5, .data⟩], guard := none }
abbrev oCea6 : Oper := { dst := some 21, op := .fieldAddr 59 (.tmp 20) 1, type := 0, pos := "cert.go:106", after := #[⟨6, .data⟩], guard := none }
abbrev oCea7 : Oper := { dst := some 22, op := .load 2 (.tmp 21), type := 2, pos := "cert.go:106", after := #[⟨7, .data⟩], guard := none }
abbrev oCea8 : Oper := { dst := some 23, op := .load 25 (.tmp 4), type := 25, pos := "cert.go:106", after := #[], guard := none }
abbrev oCea9 : Oper := { dst := some 26, op := .move (.tmp 2), type := 4, pos := "cert.go:106", after := #[], guard := none }
abbrev oCea10 : Oper := { dst := some 18, op := .load 57 (.tmp 17), type := 57, pos := "cert.go:106", after := #[⟨3, .data⟩], guard := none }
abbrev oCea11 : Oper := { dst := some 24, op := .call { callee := Callee.value (.func 48), args := #[.tmp 23], argTypes := #[25] }, type := 25, pos := "cert.go:106", after := #[⟨9, .data⟩], guard := none }
abbrev oCea12 : Oper := { dst := some 25, op := .build 44 #[(0, .tmp 22), (1, .tmp 24)], type := 44, pos := "cert.go:106", after := #[⟨8, .data⟩, ⟨10, .data⟩], guard := none }
abbrev oCea13 : Oper := { dst := some 27, op := .build 93 #[(0, .tmp 25), (1, .tmp 26)], type := 93, pos := "cert.go:106", after := #[⟨11, .data⟩, ⟨12, .data⟩], guard := none }
abbrev oCea14 : Oper := { dst := some 28, op := .buildSlice 57 1 #[(0, .tmp 27)], type := 57, pos := "cert.go:106", after := #[⟨13, .data⟩], guard := none }
abbrev oCea15 : Oper := { dst := some 29, op := .call { callee := Callee.builtin Builtin.append, args := #[.tmp 18, .tmp 28], argTypes := #[57, 57] }, type := 57, pos := "cert.go:106", after := #[⟨4, .data⟩, ⟨14, .data⟩, ⟨10, .chain⟩], guard := none }
abbrev oCea16 : Oper := { dst := some 30, op := .nilCheck (.tmp 14), type := 0, pos := "cert.go:106", after := #[⟨0, .data⟩, ⟨0, .phase⟩, ⟨1, .phase⟩, ⟨2, .phase⟩, ⟨3, .phase⟩, ⟨4, .phase⟩, ⟨5, .phase⟩, ⟨6, .phase⟩, ⟨7, .phase⟩, ⟨8, .phase⟩, ⟨9, .phase⟩, ⟨10, .phase⟩, ⟨11, .phase⟩, ⟨12, .phase⟩, ⟨13, .phase⟩, ⟨14, .phase⟩, ⟨15, .phase⟩], guard := none }
abbrev oCea17 : Oper := { dst := some 31, op := .fieldAddr 59 (.tmp 30) 3, type := 0, pos := "cert.go:106", after := #[⟨16, .data⟩, ⟨0, .phase⟩, ⟨1, .phase⟩, ⟨2, .phase⟩, ⟨3, .phase⟩, ⟨4, .phase⟩, ⟨5, .phase⟩, ⟨6, .phase⟩, ⟨7, .phase⟩, ⟨8, .phase⟩, ⟨9, .phase⟩, ⟨10, .phase⟩, ⟨11, .phase⟩, ⟨12, .phase⟩, ⟨13, .phase⟩, ⟨14, .phase⟩, ⟨15, .phase⟩], guard := none }
abbrev oCea18 : Oper := { dst := none, op := .store 57 (.tmp 31) (.tmp 29), type := 0, pos := "cert.go:106", after := #[⟨17, .data⟩, ⟨15, .data⟩, ⟨15, .chain⟩, ⟨0, .phase⟩, ⟨1, .phase⟩, ⟨2, .phase⟩, ⟨3, .phase⟩, ⟨4, .phase⟩, ⟨5, .phase⟩, ⟨6, .phase⟩, ⟨7, .phase⟩, ⟨8, .phase⟩, ⟨9, .phase⟩, ⟨10, .phase⟩, ⟨11, .phase⟩, ⟨12, .phase⟩, ⟨13, .phase⟩, ⟨14, .phase⟩, ⟨15, .phase⟩], guard := none }
abbrev oCea19 : Oper := { dst := some 32, op := .move (.tmp 0), type := 26, pos := "cert.go:107", after := #[], guard := none }
abbrev oCea20 : Oper := { dst := some 33, op := .nilCheck (.tmp 32), type := 0, pos := "cert.go:107", after := #[⟨0, .data⟩], guard := none }
abbrev oCea21 : Oper := { dst := some 34, op := .fieldAddr 59 (.tmp 33) 3, type := 0, pos := "cert.go:107", after := #[⟨1, .data⟩], guard := none }
abbrev oCea22 : Oper := { dst := some 35, op := .load 57 (.tmp 34), type := 57, pos := "cert.go:107", after := #[⟨2, .data⟩], guard := none }
abbrev oCea23 : Oper := { dst := some 37, op := .move (.tmp 0), type := 26, pos := "cert.go:107", after := #[], guard := none }
abbrev oCea24 : Oper := { dst := some 38, op := .nilCheck (.tmp 37), type := 0, pos := "cert.go:107", after := #[⟨5, .data⟩], guard := none }
abbrev oCea25 : Oper := { dst := some 39, op := .fieldAddr 59 (.tmp 38) 0, type := 0, pos := "cert.go:107", after := #[⟨6, .data⟩], guard := none }
abbrev oCea26 : Oper := { dst := some 40, op := .load 3 (.tmp 39), type := 3, pos := "cert.go:107", after := #[⟨7, .data⟩], guard := none }
abbrev oCea27 : Oper := { dst := some 36, op := .call { callee := Callee.builtin Builtin.len, args := #[.tmp 35], argTypes := #[57] }, type := 3, pos := "cert.go:107", after := #[⟨3, .data⟩], guard := none }
abbrev oCea28 : Oper := { dst := some 41, op := .binOp .leq 3 (.tmp 36) (.tmp 40) 3, type := 4, pos := "cert.go:107", after := #[⟨4, .data⟩, ⟨8, .data⟩], guard := none }
abbrev oCea29 : Oper := { dst := some 56, op := .move (.tmp 0), type := 26, pos := "cert.go:112", after := #[], guard := none }
abbrev oCea30 : Oper := { dst := some 57, op := .nilCheck (.tmp 56), type := 0, pos := "cert.go:112", after := #[⟨0, .data⟩], guard := none }
abbrev oCea31 : Oper := { dst := some 58, op := .fieldAddr 59 (.tmp 57) 4, type := 0, pos := "cert.go:112", after := #[⟨1, .data⟩], guard := none }
abbrev oCea32 : Oper := { dst := some 59, op := .load 55 (.tmp 58), type := 55, pos := "cert.go:112", after := #[⟨2, .data⟩], guard := none }
abbrev oCea33 : Oper := { dst := some 60, op := .load 93 (.tmp 6), type := 93, pos := "cert.go:112", after := #[], guard := none }
abbrev oCea34 : Oper := { dst := some 61, op := .call { callee := Callee.value (.func 52), args := #[.tmp 59, .tmp 60], argTypes := #[55, 93] }, type := 4, pos := "cert.go:112", after := #[⟨3, .data⟩, ⟨4, .data⟩], guard := none }
abbrev oCea35 : Oper := { dst := some 62, op := .unOp UnOp.not 4 (.tmp 61), type := 4, pos := "cert.go:112", after := #[⟨5, .data⟩], guard := none }
open Go.RowKit Go.Lib
set_option linter.unusedVariables false
set_option linter.unusedSimpArgs false
set_option maxRecDepth 20000
attribute [local go_sem] run_bits run_frombits run_store_float eqF
theorem stepLdK {ops : Array Oper} {o : Oper} {a : Act} {w : World} {K : Act → World → Prop} {Q : Exit → Act → World → Prop} {E : Prop} (hg : o.guard = none) (x : Operand) (hop : o.op = Op.load 57 x) (b j : Nat) (p : Option Addr) (n c : Nat)
    (hx : a.eval x = .pointer (some ⟨b, j, none⟩)) (hc : w.cell? ⟨b, j, none⟩ = some (.slice p n c))
    (hK : K (a.put o.dst (.slice p n c)) w) :
    if Region.wanted o (yielded ops a.tmps) = true then Oper.wp Tryz.prog o a w K Q else E := by
 have hw : Region.wanted o (yielded ops a.tmps) = true := by simp [Region.wanted, hg]
 rw [if_pos hw]
 obtain ⟨d, p', t, ps, af, gd⟩ := o
 subst hop
 unfold Oper.wp execOp
 simp only [hx]
 go_simp
 exact hK
theorem stepStK {ops : Array Oper} {o : Oper} {a : Act} {w : World} {K : Act → World → Prop} {Q : Exit → Act → World → Prop} {E : Prop} (hg : o.guard = none) (x y : Operand) (hop : o.op = Op.store 57 x y) (b j : Nat) (p : Option Addr) (n c : Nat) (u : Value)
    (hx : a.eval x = .pointer (some ⟨b, j, none⟩)) (hy : a.eval y = .slice p n c) (hc : w.cell? ⟨b, j, none⟩ = some u) (hf : w.frozen? ⟨b, j, none⟩ = false)
    (hK : K (a.put o.dst undef) (w.setCell ⟨b, j, none⟩ (.slice p n c))) :
    if Region.wanted o (yielded ops a.tmps) = true then Oper.wp Tryz.prog o a w K Q else E := by
 have hw : Region.wanted o (yielded ops a.tmps) = true := by simp [Region.wanted, hg]
 rw [if_pos hw]
 obtain ⟨d, p', t, ps, af, gd⟩ := o
 subst hop
 unfold Oper.wp execOp
 simp only [hx, hy]
 go_simp
 exact hK
theorem stepBuildK {ops : Array Oper} {o : Oper} {a : Act} {w : World} {K : Act → World → Prop} {Q : Exit → Act → World → Prop} {E : Prop} (hg : o.guard = none) (x : Operand) (hop : o.op = Op.buildSlice 57 1 #[(0, x)]) (n s1 s2 s3 : Int) (p1 p2 p3 : Option Addr) (n1 c1 n2 c2 n3 c3 : Nat) (ko : Bool)
    (hx : a.eval x = .agg #[.int .i64 n, .int .i64 s1, .int .i64 s2, .int .i64 s3, .slice p1 n1 c1, .slice p2 n2 c2, .slice p3 n3 c3, .bool ko])
    (hK : ∀ m w', m = w.heap.size → w' = w.alloc (.cells #[.int .i64 n, .int .i64 s1, .int .i64 s2, .int .i64 s3, .slice p1 n1 c1, .slice p2 n2 c2, .slice p3 n3 c3, .bool ko] 93) → K (a.put o.dst (.slice (some ⟨m, 0, none⟩) 1 1)) w') :
    if Region.wanted o (yielded ops a.tmps) = true then Oper.wp Tryz.prog o a w K Q else E := by
 have hw : Region.wanted o (yielded ops a.tmps) = true := by simp [Region.wanted, hg]
 rw [if_pos hw]
 obtain ⟨d, p', t, ps, af, gd⟩ := o
 subst hop
 unfold Oper.wp execOp
 simp only [List.map_toArray, List.map_cons, List.map_nil, hx]
 go_simp
 exact hK _ _ rfl rfl
theorem step_appK {ops : Array Oper} {o : Oper} {a : Act} {w : World} {K : Act → World → Prop} {Q : Exit → Act → World → Prop} {E : Prop} (hgd : o.guard = none) (s x : Operand)
    (ho : o.op = .call { callee := .builtin .append, args := #[s, x], argTypes := #[57, 57] }) (base : Nat) (v : Value) (L : List Kg) (g : Nat) (k : Kg)
    (hs : a.eval s = v) (hx : a.eval x = .slice (some ⟨g, 0, none⟩) 1 1) (hown : w.ownsRow base 93 8 v L.length (kgcs L)) (hc : KB8 g k.p.n k.p.u.s1 k.p.u.s2 k.p.u.s3 k.v1 k.v2 k.v3 k.p.o w) (hb : L.length ≤ 40) (hbase : base ≤ w.heap.size)
    (h : ∀ v' w', w'.ownsRow base 93 8 v' (L ++ [k]).length (kgcs (L ++ [k])) → w.grownBy w' v.ownBlock → (v'.ownBlock = v.ownBlock ∨ v'.ownBlock = some w.heap.size) → K (a.put o.dst v') w') :
    if Region.wanted o (yielded ops a.tmps) = true then Oper.wp Tryz.prog o a w K Q else E := by
 refine step_liftC hgd ?_
 obtain ⟨i0, hi, hz0, hz1, hz2⟩ := info_parts infoKn
 refine wpList_append_own_at w hgd s x 57 ho base 93 i0 _ 8 112 Tryz.underlying57 hi hz0 hz1 hz2 rfl (by decide) v L.length (kgcs L) hs hown ⟨g, 0, none⟩ 1 1 (kgcs [k]) hx rfl ?_ (kgcs_one _) (by unfold maxLen; omega) (by omega) hbase ?_
 ·intro j u hj
  rw [Go.WideShapes.add_plain, Nat.zero_add]
  obtain ⟨x0, x1, x2, x3, x4, x5, x6, x7⟩ := hc
  match j with
  | 0 => simp [kgcs, kgc] at hj; subst hj; exact x0
  | 1 => simp [kgcs, kgc] at hj; subst hj; exact x1
  | 2 => simp [kgcs, kgc] at hj; subst hj; exact x2
  | 3 => simp [kgcs, kgc] at hj; subst hj; exact x3
  | 4 => simp [kgcs, kgc] at hj; subst hj; exact x4
  | 5 => simp [kgcs, kgc] at hj; subst hj; exact x5
  | 6 => simp [kgcs, kgc] at hj; subst hj; exact x6
  | 7 => simp [kgcs, kgc] at hj; subst hj; exact x7
  | j + 8 => simp [kgcs, kgc] at hj
 ·intro v' w' h1 h2 h3 h4
  unfold wpList
  rw [kgcs_app] at h1
  exact ⟨rfl, h v' w' (by rw [List.length_append]; exact h1) h2 h4⟩
def CmPost (base cb : Nat) (G : Cg) (c' : Cp) (w : World) (e : Ending) (w' : World) : Prop := ∃ G', e = .returned (.tuple #[]) ∧ CtAt base cb G' w' ∧ CMov cb w G w' G' ∧ G'.c = c' ∧ ∀ k ∈ G'.kn, k ∈ G.kn ∨ ∀ g ∈ k.bl, w.heap.size ≤ g
abbrev SCm (cb : Nat) (nn : Int) (sb : Nat) (s1 s2 s3 : Int) (v1 v2 v3 : Value) (w : World) : Prop := w.cell? ⟨cb, 1, none⟩ = some (.int .i64 nn) ∧ w.cell? ⟨sb, 0, none⟩ = some (.int .i64 s1) ∧ w.cell? ⟨sb, 1, none⟩ = some (.int .i64 s2) ∧ w.cell? ⟨sb, 2, none⟩ = some (.int .i64 s3) ∧ w.cell? ⟨sb, 3, none⟩ = some v1 ∧ w.cell? ⟨sb, 4, none⟩ = some v2 ∧ w.cell? ⟨sb, 5, none⟩ = some v3
theorem SCm.chg {S : List Nat} {cb : Nat} {nn : Int} {sb : Nat} {s1 s2 s3 : Int} {v1 v2 v3 : Value} {w w' : World} (u : Chg S w w') (h : SCm cb nn sb s1 s2 s3 v1 v2 v3 w) (n1 : cb ∉ S) (n2 : sb ∉ S) : SCm cb nn sb s1 s2 s3 v1 v2 v3 w' := ⟨u.cell h.1 n1, SB6.chg h.2 u n2⟩
theorem SCm.set {cb : Nat} {nn : Int} {sb : Nat} {s1 s2 s3 : Int} {v1 v2 v3 : Value} {w : World} (h : SCm cb nn sb s1 s2 s3 v1 v2 v3 w) (x : Value) (n2 : sb ≠ cb) : SCm cb nn sb s1 s2 s3 v1 v2 v3 (w.setCell ⟨cb, 3, none⟩ x) := by
 have u : Chg [cb] w (w.setCell ⟨cb, 3, none⟩ x) := Chg.set (S := [cb]) _ ⟨cb, 3, none⟩ _ (by simp)
 refine ⟨?_, SB6.chg h.2 u (by simp; exact n2)⟩
 exact (World.cell?_setCell_other w ⟨cb, 3, none⟩ ⟨cb, 1, none⟩ x (by intro e; cases e)).trans h.1
theorem SCm.old {cb : Nat} {nn : Int} {sb : Nat} {s1 s2 s3 : Int} {v1 v2 v3 : Value} {w w' : World} (u : Old w w') (h : SCm cb nn sb s1 s2 s3 v1 v2 v3 w) : SCm cb nn sb s1 s2 s3 v1 v2 v3 w' := ⟨u.keep h.1, SB6.old u h.2⟩
theorem commit_eq (c c2 : Cp) (u : Su) (o : Bool) (e : c2 = pushC c u o) : commitC c u o = if ((c2.rc.length : Nat) : Int) ≤ c2.keep then c2 else dropC c2 := by
 subst e; rfl
theorem drop_eq (c : Cp) (k : Kp) (r : List Kp) (t : Bool × Tb) (e : c.rc = k :: r) (ht : sumT c.most k c.tb = t) : dropC c = if t.1 = true then { c.with t.2 with rc := r } else { c with rc := r, lw := [], lm := [], lr := [], ls := [], hor := k.n } := by
 subst ht
 unfold dropC
 rw [e]
abbrev S6C (cb t1 t2 t3 t4 kb : Nat) (n s1 s2 s3 : Int) (v1 v2 v3 : Value) (o : Bool) (w : World) : Prop := (w.cell? ⟨cb, 4, none⟩ = some (pV t1) ∧ w.cell? ⟨cb, 5, none⟩ = some (pV t2) ∧ w.cell? ⟨cb, 6, none⟩ = some (pV t3) ∧ w.cell? ⟨cb, 7, none⟩ = some (pV t4)) ∧ w.cell? ⟨kb, 0, none⟩ = some (.int .i64 n) ∧ w.cell? ⟨kb, 1, none⟩ = some (.int .i64 s1) ∧ w.cell? ⟨kb, 2, none⟩ = some (.int .i64 s2) ∧ w.cell? ⟨kb, 3, none⟩ = some (.int .i64 s3) ∧ w.cell? ⟨kb, 4, none⟩ = some v1 ∧ w.cell? ⟨kb, 5, none⟩ = some v2 ∧ w.cell? ⟨kb, 6, none⟩ = some v3 ∧ w.cell? ⟨kb, 7, none⟩ = some (.bool o)
theorem S6C.chg {S : List Nat} {cb t1 t2 t3 t4 kb : Nat} {n s1 s2 s3 : Int} {v1 v2 v3 : Value} {o : Bool} {w w' : World} (u : Chg S w w') (h : S6C cb t1 t2 t3 t4 kb n s1 s2 s3 v1 v2 v3 o w) (n1 : cb ∉ S) (n2 : kb ∉ S) : S6C cb t1 t2 t3 t4 kb n s1 s2 s3 v1 v2 v3 o w' := ⟨⟨u.cell h.1.1 n1, u.cell h.1.2.1 n1, u.cell h.1.2.2.1 n1, u.cell h.1.2.2.2 n1⟩, KB8.chg h.2 u n2⟩
theorem S6C.old {cb t1 t2 t3 t4 kb : Nat} {n s1 s2 s3 : Int} {v1 v2 v3 : Value} {o : Bool} {w w' : World} (u : Old w w') (h : S6C cb t1 t2 t3 t4 kb n s1 s2 s3 v1 v2 v3 o w) : S6C cb t1 t2 t3 t4 kb n s1 s2 s3 v1 v2 v3 o w' := S6C.chg (Chg.ofOld (S := []) u) h (by simp) (by simp)
structure Push (base cb : Nat) (G : Cg) (u : Su) (o : Bool) (w : World) (G2 : Cg) (w2 : World) : Prop where
 h : CtAt base cb G2 w2
 m : CMov cb w G w2 G2
 e : G2.c = pushC G.c u o
 l : G2.kn.length ≤ 33
 l0 : 0 < G2.kn.length
 f : ∀ k ∈ G2.kn, k ∈ G.kn ∨ ∀ g ∈ k.bl, w.heap.size ≤ g
set_option maxHeartbeats 16000000 in
theorem commit_any (s : Sb) (o : Bool) (base cb : Nat) (G : Cg) (w : World) (hs : s.Ok w) (hf : s.Far (mblC cb G)) (h : CtAt base cb G w) (ok : CpOk G.c) (hc : G.c.cnt < 1099511627776) :
    Calls Tryz.prog 25 #[.pointer (some ⟨cb, 0, none⟩), .agg #[.int .i64 s.s1, .int .i64 s.s2, .int .i64 s.s3, .slice s.a1 s.n1 s.c1, .slice s.a2 s.n2 s.c2, .slice s.a3 s.n3 s.c3], .bool o] w fun e w' => CmPost base cb G (commitC G.c s.pl o) w e w' := by
 have HOk := hid ok
 have HCt := hid h
 have HFe := hid (Sb.few hs)
 have HFF := hid (Sb.plF hs)
 have hn0 := ok.n1
 have HLe := hid (show G.kn.length ≤ 32 from by have a1 := ok.r; rw [← h.kp, List.length_map] at a1; have := ok.k2; omega)
 have HCl := hid (fun (W : World) (u : Chg (mblC cb G) w W) => clone_any s W (hs.chg u hf))
 unfold ClPost at HCl
 obtain ⟨u0, hu0⟩ : ∃ u0, s.pl = u0 := ⟨_, rfl⟩
 have HU := hid (show u0 = ⟨s.s1, s.s2, s.s3, lsG s.x1 s.n1, lsG s.f2 s.n2, lsG s.x3 s.n3⟩ from hu0.symm)
 have HLL := hid (And.intro (lsG_len s.x1 s.n1) (And.intro (lsG_len s.f2 s.n2) (lsG_len s.x3 s.n3)))
 rw [hu0] at HFe HFF ⊢
 clear hu0
 obtain ⟨s1, s2, s3, a1, a2, a3, n1, n2, n3, c1, c2, c3, x1, x3, f2⟩ := s
 dsimp only at HCl HU HLL ⊢
 generalize lsG x1 n1 = L1 at *
 generalize lsG f2 n2 = L2 at *
 generalize lsG x3 n3 = L3 at *
 clear hs hf h ok x1 x3 f2
 obtain ⟨cn, hcn⟩ : ∃ cn, G.c.cnt = cn := ⟨_, rfl⟩
 have HCn := hid hcn
 rw [hcn] at hc hn0
 have HBx := hid HCt.out.cells
 rw [hcn] at HBx
 clear hcn
 obtain ⟨ke, hke⟩ : ∃ ke, G.c.keep = ke := ⟨_, rfl⟩
 obtain ⟨ho, hho⟩ : ∃ ho, G.c.hor = ho := ⟨_, rfl⟩
 rw [hke, hho] at HBx
 have HKH := hid (And.intro hke hho)
 clear hke hho
 go_enter Tryz.func25, Tryz.ntmps25
 go_upto_region 1 with fail
 have U0 := hid ((Old.refl w).alloc (.cells #[.int .i64 s1, .int .i64 s2, .int .i64 s3, .slice a1 n1 c1, .slice a2 n2 c2, .slice a3 n3 c3] 25))
 have S0 := hid (box6K (alloc_at w (.cells #[.int .i64 s1, .int .i64 s2, .int .i64 s3, .slice a1 n1 c1, .slice a2 n2 c2, .slice a3 n3 c3] 25)))
 have HSl := hid (show w.heap.size < (w.alloc (.cells #[.int .i64 s1, .int .i64 s2, .int .i64 s3, .slice a1 n1 c1, .slice a2 n2 c2, .slice a3 n3 c3] 25)).heap.size from heap_lt (alloc_at w (.cells #[.int .i64 s1, .int .i64 s2, .int .i64 s3, .slice a1 n1 c1, .slice a2 n2 c2, .slice a3 n3 c3] 25)))
 generalize w.alloc (.cells #[.int .i64 s1, .int .i64 s2, .int .i64 s3, .slice a1 n1 c1, .slice a2 n2 c2, .slice a3 n3 c3] 25) = w0 at *
 obtain ⟨sb, hsb⟩ : ∃ sb, w.heap.size = sb := ⟨_, rfl⟩
 rw [hsb] at S0 HSl ⊢
 have HNs := hid (show sb ∉ mblC cb G from fun q => by have := (HCt.out.lt _ q).2; omega)
 clear hsb
 have C0 := hid (HCt.out.old U0.out)
 have w1e : IntKind.i64.wrap (cn + 1) = cn + 1 := IntWalk.i64_in _ (by omega)
 obtain ⟨e0, e1, e2, e3, e4, e5, e6, e7⟩ := CB8.old U0.out HBx.out.1
 have f1 := U0.out.keepF HBx.out.1.2.1 (HBx.out.2 1)
 go_upto_region 2 with fail
 clear e0 e1 e2 e3 e4 e5 e6 e7 f1
 have C1 := hid (C0.out.setN (cn + 1))
 have HNc := hid (show sb ≠ cb from fun e => HNs.out (mem_mblC.2 (.inl e)))
 have S1 := hid (S0.out.chg (Chg.set (S := [cb]) w0 ⟨cb, 1, none⟩ (.int .i64 (cn + 1)) (by simp)) (by simp; exact HNc.out))
 generalize w0.setCell ⟨cb, 1, none⟩ (.int .i64 (cn + 1)) = w1 at *
 have HGd := hid (show ({ G with c := { G.c with cnt := cn + 1 } } : Cg).vr = G.vr from rfl)
 have M1 := hid ((CMov.old (cb := cb) (G := G) U0.out).trans C1.out.2)
 have H1 := hid C1.out.1
 have S2 := hid (show SCm cb (cn + 1) sb s1 s2 s3 (.slice a1 n1 c1) (.slice a2 n2 c2) (.slice a3 n3 c3) w1 from ⟨H1.out.cells.1.2.1, S1.out⟩)
 clear C1 S0 S1 C0
 have HPush := hid (show ∀ (k : Kg) (W W' : World) (v' : Value), Old w1 W → KOk base k W → (∀ g ∈ k.bl, w1.heap.size ≤ g) → k.p = ⟨cn + 1, u0, o⟩ → W'.ownsRow base 93 8 v' (G.kn ++ [k]).length (kgcs (G.kn ++ [k])) → W.grownBy W' G.vr.ownBlock → (v'.ownBlock = G.vr.ownBlock ∨ v'.ownBlock = some W.heap.size) → ∃ G2, G2.vr = v' ∧ G2.P = G.P ∧ G2.V = G.V ∧ Push base cb G u0 o w G2 (W'.setCell ⟨cb, 3, none⟩ v') from fun k W W' v' u kk kf kp ow gb hv => by
  have q := (H1.out.old u).setR (kn' := G.kn ++ [k]) (Chg.grownB gb) ow hv (fun x hx => by
   rcases List.mem_append.1 hx with z | z
   ·exact .inl z
   ·simp only [List.mem_singleton] at z
    subst z
    refine .inr ⟨kk, fun g hg z => ?_⟩
    have := kf g hg
    have := (H1.out.lt g z).2
    omega)
  refine ⟨⟨{ { G.c with cnt := cn + 1 } with rc := (G.kn ++ [k]).map (·.p) }, G.kn ++ [k], v', G.P, G.V⟩, rfl, rfl, rfl, q.1, (M1.out.trans (CMov.old u)).trans q.2, ?_, by have := HLe.out; show (G.kn ++ [k]).length ≤ 33; rw [List.length_append, List.length_singleton]; omega, by show 0 < (G.kn ++ [k]).length; rw [List.length_append, List.length_singleton]; omega, fun x hx => by rcases List.mem_append.1 hx with z | z; exact .inl z; simp only [List.mem_singleton] at z; subst z; exact .inr (fun g hg => Nat.le_trans M1.out.1.size (kf g hg))⟩
  show ({ { G.c with cnt := cn + 1 } with rc := (G.kn ++ [k]).map (·.p) } : Cp) = _
  unfold pushC
  rw [List.map_append, HCt.out.kp, ← HCn.out]
  simp [kp, ← HCn.out])
 have HRw := hid (fun (W : World) (u : Old w1 W) => (H1.out.old u).row)
 have HBs := hid (show base ≤ w1.heap.size from by have := H1.out.bb; have := heap_lt H1.out.bx; omega)
 have HV := hid (show SCm cb (cn + 1) sb s1 s2 s3 (.slice a1 n1 c1) (.slice a2 n2 c2) (.slice a3 n3 c3) w1 from S2.out)
 have HVb := hid (fun (W : World) (u : Old w1 W) => (H1.out.old u).cells)
 have HN1 := hid (show G.vr.ownBlock ≠ some cb ∧ G.vr.ownBlock ≠ some sb from ⟨H1.out.n1, fun e => HNs.out (mem_mblC.2 (.inr (.inl e)))⟩)
 obtain ⟨va, vc, hvr, -, -⟩ := krow_len HCt.out.row
 obtain ⟨vn, hvn⟩ : ∃ vn, G.kn.length = vn := ⟨_, rfl⟩
 rw [hvn] at hvr
 have HVr := hid hvr
 clear hvr hvn
 focus
  refine wp_region_noPanic ?_
  refine wp_region_held_drew (S := SCm cb (cn + 1) sb s1 s2 s3 (.slice a1 n1 c1) (.slice a2 n2 c2) (.slice a3 n3 c3)) (by kernel_rfl) ?_ (fun hHeld => ?_)
  ·exact SCm.old ((Old.refl w1).drew) HV.out
  try simp only [Act.put, puA, puB, puC]
  clear hHeld
  all_goals
   refine atA [false, false, false, false, false, false, false, false, false, false, false, false, false, false, false, false, false, false, false] ?_
   refine tkA (i := 0) (oi := oCea0) (SCm.old ((Old.refl w1).drew) HV.out) ?_
   try simp only [Act.put, puA, puB, puC]
   refine tkA (i := 1) (oi := oCea1) (SCm.old ((Old.refl w1).drew) HV.out) ?_
   try simp only [Act.put, puA, puB, puC]
   refine tkA (i := 2) (oi := oCea2) (SCm.old ((Old.refl w1).drew) HV.out) ?_
   try simp only [Act.put, puA, puB, puC]
   refine tkA (i := 3) (oi := oCea3) (SCm.old ((Old.refl w1).drew) HV.out) ?_
   try simp only [Act.put, puA, puB, puC]
   refine tkA (i := 5) (oi := oCea4) (SCm.old ((Old.refl w1).drew) HV.out) ?_
   try simp only [Act.put, puA, puB, puC]
   refine tkA (i := 6) (oi := oCea5) (SCm.old ((Old.refl w1).drew) HV.out) ?_
   try simp only [Act.put, puA, puB, puC]
   refine tkA (i := 7) (oi := oCea6) (SCm.old ((Old.refl w1).drew) HV.out) ?_
   try simp only [Act.put, puA, puB, puC]
   refine tkA (i := 8) (oi := oCea7) (SCm.old ((Old.refl w1).drew) HV.out) ?_
   try simp only [Act.put, puA, puB, puC]
   refine tkA (i := 9) (oi := oCea8) (SCm.old ((Old.refl w1).drew) HV.out) ?_
   try simp only [Act.put, puA, puB, puC]
   refine tkA (i := 12) (oi := oCea9) (SCm.old ((Old.refl w1).drew) HV.out) ?_
   try simp only [Act.put, puA, puB, puC]
   refine rdA [4, 10] ?_
   refine AllReadyH.cons (o := oCea10) rfl (fun K hK => ?_) (AllReadyH.cons (o := oCea11) rfl (fun K hK => ?_) AllReadyH.nil)
   have eb := (HVb.out _ ((Old.refl w1).drew)).1.2.2.2.1
   dsimp only at eb
   rw [HVr.out] at eb
   refine stepLdK ?_ (.tmp 17) ?_ cb 3 va vn vc ?_ eb ?_
   iterate 3 rfl
   clear eb
   refine hK.out _ _ (SCm.old ((Old.refl w1).drew) HV.out) (fun _ => ?_)
   clear hK K
   try simp only [Act.put, puA, puB, puC]
   rotate_left
   refine wantCall1 ?_ 48 (.tmp 23) #[25] ?_ (.agg #[.int .i64 s1, .int .i64 s2, .int .i64 s3, .slice a1 n1 c1, .slice a2 n2 c2, .slice a3 n3 c3]) ?_ ?_ ((enters_of Tryz.func48 (by kernel_rfl) rfl) _ _) ?_
   iterate 4 rfl
   refine (HCl.out _ (chg_after M1.out.1 (Chg.ofOld (S := []) ((Old.refl w1).drew)) (fun i q => by cases q))).mono ?_
   rintro o' x100n ⟨q1, q2, q3, d1, d2, d3, rfl, r1, r2, r3, b100n⟩
   refine ⟨_, rfl, ?_⟩
   have R1 := hid (own_base r1 (show base ≤ _ from Nat.le_trans HBs.out ((Old.refl w1).drew).size))
   have R2 := hid (own_base r2 (show base ≤ _ from Nat.le_trans HBs.out ((Old.refl w1).drew).size))
   have R3 := hid (own_base r3 (show base ≤ _ from Nat.le_trans HBs.out ((Old.refl w1).drew).size))
   have F1 := hid (fun g e => Nat.le_trans ((Old.refl w1).drew).size (World.ownsRow.lt r1 g e).1)
   have F2 := hid (fun g e => Nat.le_trans ((Old.refl w1).drew).size (World.ownsRow.lt r2 g e).1)
   have F3 := hid (fun g e => Nat.le_trans ((Old.refl w1).drew).size (World.ownsRow.lt r3 g e).1)
   clear r1 r2 r3
   have U100n := ((Old.refl w1).drew).trans b100n
   refine hK.out _ _ (SCm.old U100n HV.out) (fun _ => ?_)
   clear hK K
   try simp only [Act.put, puA, puB, puC]
   have UU_100 := U100n
   obtain ⟨xw_100, rfl⟩ : ∃ z, z = x100n := ⟨_, rfl⟩
   rotate_left
  all_goals first
   |refine atA [true, true, true, true, true, true, true, true, true, true, false, false, true, false, false, false, false, false, false] ?_
    refine rdA [10] ?_
    refine AllReadyH.cons (o := oCea11) rfl (fun K hK => ?_) AllReadyH.nil
    refine wantCall1 ?_ 48 (.tmp 23) #[25] ?_ (.agg #[.int .i64 s1, .int .i64 s2, .int .i64 s3, .slice a1 n1 c1, .slice a2 n2 c2, .slice a3 n3 c3]) ?_ ?_ ((enters_of Tryz.func48 (by kernel_rfl) rfl) _ _) ?_
    iterate 4 rfl
    refine (HCl.out _ (chg_after M1.out.1 (Chg.ofOld (S := []) ((Old.refl w1).drew)) (fun i q => by cases q))).mono ?_
    rintro o' x100n ⟨q1, q2, q3, d1, d2, d3, rfl, r1, r2, r3, b100n⟩
    refine ⟨_, rfl, ?_⟩
    have R1 := hid (own_base r1 (show base ≤ _ from Nat.le_trans HBs.out ((Old.refl w1).drew).size))
    have R2 := hid (own_base r2 (show base ≤ _ from Nat.le_trans HBs.out ((Old.refl w1).drew).size))
    have R3 := hid (own_base r3 (show base ≤ _ from Nat.le_trans HBs.out ((Old.refl w1).drew).size))
    have F1 := hid (fun g e => Nat.le_trans ((Old.refl w1).drew).size (World.ownsRow.lt r1 g e).1)
    have F2 := hid (fun g e => Nat.le_trans ((Old.refl w1).drew).size (World.ownsRow.lt r2 g e).1)
    have F3 := hid (fun g e => Nat.le_trans ((Old.refl w1).drew).size (World.ownsRow.lt r3 g e).1)
    clear r1 r2 r3
    have U100n := ((Old.refl w1).drew).trans b100n
    refine hK.out _ _ (SCm.old U100n HV.out) (fun _ => ?_)
    clear hK K
    try simp only [Act.put, puA, puB, puC]
    have UU_100 := U100n
    obtain ⟨xw_100, rfl⟩ : ∃ z, z = x100n := ⟨_, rfl⟩
   |refine atA [true, true, true, true, false, true, true, true, true, true, true, false, true, false, false, false, false, false, false] ?_
    refine tkA (i := 11) (oi := oCea12) (SCm.old UU_100 HV.out) ?_
    try simp only [Act.put, puA, puB, puC]
    refine tkA (i := 13) (oi := oCea13) (SCm.old UU_100 HV.out) ?_
    try simp only [Act.put, puA, puB, puC]
    refine rdA [4, 14] ?_
    refine AllReadyH.cons (o := oCea10) rfl (fun K hK => ?_) (AllReadyH.cons (o := oCea14) rfl (fun K hK => ?_) AllReadyH.nil)
    have eb := (HVb.out _ UU_100).1.2.2.2.1
    dsimp only at eb
    rw [HVr.out] at eb
    refine stepLdK ?_ (.tmp 17) ?_ cb 3 va vn vc ?_ eb ?_
    iterate 3 rfl
    clear eb
    refine hK.out _ _ (SCm.old UU_100 HV.out) (fun _ => ?_)
    clear hK K
    try simp only [Act.put, puA, puB, puC]
    rotate_left
    refine stepBuildK ?_ (.tmp 27) ?_ (cn + 1) s1 s2 s3 q1 q2 q3 n1 d1 n2 d2 n3 d3 o ?_ ?_
    iterate 3 rfl
    intro m100n x100n hm100n hx100n
    have b100n : Old xw_100 x100n := by rw [hx100n]; exact (Old.refl _).alloc _
    have M100n := hid (show KB8 m100n (cn + 1) s1 s2 s3 (.slice q1 n1 d1) (.slice q2 n2 d2) (.slice q3 n3 d3) o x100n from by rw [hx100n, hm100n]; exact box8K (alloc_at _ _))
    clear hm100n hx100n
    have U100n := UU_100.trans b100n
    have B100n := hid b100n
    refine hK.out _ _ (SCm.old U100n HV.out) (fun _ => ?_)
    clear hK K
    try simp only [Act.put, puA, puB, puC]
    have MM_100 := M100n
    have UU_100 := U100n
    obtain ⟨mm_100, rfl⟩ : ∃ z, z = m100n := ⟨_, rfl⟩
    obtain ⟨xw_100, rfl⟩ : ∃ z, z = x100n := ⟨_, rfl⟩
    have BO_100 := B100n
    rotate_left
  all_goals first
   |refine atA [true, true, true, true, true, true, true, true, true, true, true, false, true, false, false, false, false, false, false] ?_
    refine tkA (i := 11) (oi := oCea12) (SCm.old UU_100 HV.out) ?_
    try simp only [Act.put, puA, puB, puC]
    refine tkA (i := 13) (oi := oCea13) (SCm.old UU_100 HV.out) ?_
    try simp only [Act.put, puA, puB, puC]
    refine rdA [14] ?_
    refine AllReadyH.cons (o := oCea14) rfl (fun K hK => ?_) AllReadyH.nil
    refine stepBuildK ?_ (.tmp 27) ?_ (cn + 1) s1 s2 s3 q1 q2 q3 n1 d1 n2 d2 n3 d3 o ?_ ?_
    iterate 3 rfl
    intro m100n x100n hm100n hx100n
    have b100n : Old xw_100 x100n := by rw [hx100n]; exact (Old.refl _).alloc _
    have M100n := hid (show KB8 m100n (cn + 1) s1 s2 s3 (.slice q1 n1 d1) (.slice q2 n2 d2) (.slice q3 n3 d3) o x100n from by rw [hx100n, hm100n]; exact box8K (alloc_at _ _))
    clear hm100n hx100n
    have U100n := UU_100.trans b100n
    have B100n := hid b100n
    refine hK.out _ _ (SCm.old U100n HV.out) (fun _ => ?_)
    clear hK K
    try simp only [Act.put, puA, puB, puC]
    have MM_100 := M100n
    have UU_100 := U100n
    obtain ⟨mm_100, rfl⟩ : ∃ z, z = m100n := ⟨_, rfl⟩
    obtain ⟨xw_100, rfl⟩ : ∃ z, z = x100n := ⟨_, rfl⟩
    have BO_100 := B100n
   |refine atA [true, true, true, true, true, true, true, true, true, true, true, true, true, true, false, false, false, false, false] ?_
    refine rdA [14] ?_
    refine AllReadyH.cons (o := oCea14) rfl (fun K hK => ?_) AllReadyH.nil
    refine stepBuildK ?_ (.tmp 27) ?_ (cn + 1) s1 s2 s3 q1 q2 q3 n1 d1 n2 d2 n3 d3 o ?_ ?_
    iterate 3 rfl
    intro m100n x100n hm100n hx100n
    have b100n : Old xw_100 x100n := by rw [hx100n]; exact (Old.refl _).alloc _
    have M100n := hid (show KB8 m100n (cn + 1) s1 s2 s3 (.slice q1 n1 d1) (.slice q2 n2 d2) (.slice q3 n3 d3) o x100n from by rw [hx100n, hm100n]; exact box8K (alloc_at _ _))
    clear hm100n hx100n
    have U100n := UU_100.trans b100n
    have B100n := hid b100n
    refine hK.out _ _ (SCm.old U100n HV.out) (fun _ => ?_)
    clear hK K
    try simp only [Act.put, puA, puB, puC]
    have MM_100 := M100n
    have UU_100 := U100n
    obtain ⟨mm_100, rfl⟩ : ∃ z, z = m100n := ⟨_, rfl⟩
    obtain ⟨xw_100, rfl⟩ : ∃ z, z = x100n := ⟨_, rfl⟩
    have BO_100 := B100n
   |refine atA [true, true, true, true, false, true, true, true, true, true, true, true, true, true, true, false, false, false, false] ?_
    refine rdA [4] ?_
    refine AllReadyH.cons (o := oCea10) rfl (fun K hK => ?_) AllReadyH.nil
    have eb := (HVb.out _ UU_100).1.2.2.2.1
    dsimp only at eb
    rw [HVr.out] at eb
    refine stepLdK ?_ (.tmp 17) ?_ cb 3 va vn vc ?_ eb ?_
    iterate 3 rfl
    clear eb
    refine hK.out _ _ (SCm.old UU_100 HV.out) (fun _ => ?_)
    clear hK K
    try simp only [Act.put, puA, puB, puC]
  all_goals
   refine atA [true, true, true, true, true, true, true, true, true, true, true, true, true, true, true, false, false, false, false] ?_
   refine rdA [15] ?_
   refine AllReadyH.cons (o := oCea15) rfl (fun K hK => ?_) AllReadyH.nil
   have KK := hid (show KOk base (⟨⟨cn + 1, ⟨s1, s2, s3, L1, L2, L3⟩, o⟩, q1, q2, q3, d1, d2, d3⟩ : Kg) xw_100 from ⟨by show OwnF base _ (.slice q1 L1.length d1) L1; rw [HLL.out.1]; exact own_old R1.out BO_100.out, by show OwnS base _ (.slice q2 L2.length d2) L2; rw [HLL.out.2.1]; exact own_old R2.out BO_100.out, by show OwnF base _ (.slice q3 L3.length d3) L3; rw [HLL.out.2.2]; exact own_old R3.out BO_100.out, by have := HFF.out; rw [HU.out] at this; exact this, by have := HFe.out; rw [HU.out] at this; exact this⟩)
   have KF := hid (show ∀ g ∈ (⟨⟨cn + 1, ⟨s1, s2, s3, L1, L2, L3⟩, o⟩, q1, q2, q3, d1, d2, d3⟩ : Kg).bl, w1.heap.size ≤ g from fun g hg => by rcases mem_kbl.1 hg with z | z | z; exact F1.out g (by rw [← HLL.out.1]; exact z); exact F2.out g (by rw [← HLL.out.2.1]; exact z); exact F3.out g (by rw [← HLL.out.2.2]; exact z))
   refine step_appK ?_ (.tmp 18) (.tmp 28) ?_ base G.vr G.kn mm_100 (⟨⟨cn + 1, ⟨s1, s2, s3, L1, L2, L3⟩, o⟩, q1, q2, q3, d1, d2, d3⟩ : Kg) ?_ ?_ (HRw.out _ UU_100) ?_ (by have := HLe.out; omega) (Nat.le_trans HBs.out UU_100.size) ?_
   iterate 2 rfl
   ·rw [HVr.out]; rfl
   ·rfl
   ·unfold Kg.v1 Kg.v2 Kg.v3; dsimp only; rw [HLL.out.1, HLL.out.2.1, HLL.out.2.2]; exact MM_100.out
   intro v100n x100n ow100n gb100n hv100n
   have CH100n := Chg.grownB gb100n
   obtain ⟨G2, hG2, hP2, hV2, PU⟩ := HPush.out (⟨⟨cn + 1, ⟨s1, s2, s3, L1, L2, L3⟩, o⟩, q1, q2, q3, d1, d2, d3⟩ : Kg) xw_100 x100n v100n UU_100 KK.out KF.out (by rw [HU.out]) ow100n gb100n hv100n
   have PUh := hid PU
   have G2h := hid (And.intro hG2 (And.intro hP2 hV2))
   clear PU hG2 hP2 hV2
   obtain ⟨va2, vc2, ev100n, -, -⟩ := krow_len ow100n
   obtain ⟨nn2, hnn2⟩ : ∃ nn2, (G.kn ++ [(⟨⟨cn + 1, ⟨s1, s2, s3, L1, L2, L3⟩, o⟩, q1, q2, q3, d1, d2, d3⟩ : Kg)]).length = nn2 := ⟨_, rfl⟩
   rw [hnn2] at ev100n
   subst ev100n
   have S100n := SCm.chg CH100n (SCm.old UU_100 HV.out) (fun q => HN1.out.1 (by simpa [Option.mem_toList] using q)) (fun q => HN1.out.2 (by simpa [Option.mem_toList] using q))
   have BX100n := hid (show x100n.heap[cb]? = some _ from CH100n.heapAt (H1.out.old UU_100).bx (fun q => HN1.out.1 (by simpa [Option.mem_toList] using q)))
   clear ow100n gb100n hv100n KK KF hnn2
   refine hK.out _ _ S100n (fun _ => ?_)
   clear hK K
   try simp only [Act.put, puA, puB, puC]
   have BXBX_100 := BX100n
   have SS_100 := S100n
   obtain ⟨xw_100, rfl⟩ : ∃ z, z = x100n := ⟨_, rfl⟩
  all_goals
   refine atA [true, true, true, true, true, true, true, true, true, true, true, true, true, true, true, true, false, false, false] ?_
   refine tkA (i := 16) (oi := oCea16) SS_100 ?_
   try simp only [Act.put, puA, puB, puC]
   refine tkA (i := 17) (oi := oCea17) SS_100 ?_
   try simp only [Act.put, puA, puB, puC]
   refine rdA [18] ?_
   refine AllReadyH.cons (o := oCea18) rfl (fun K hK => ?_) AllReadyH.nil
   refine stepStK ?_ (.tmp 31) (.tmp 29) ?_ cb 3 va2 nn2 vc2 G.vr ?_ ?_ (by rw [Go.Joins.cell_of_block BXBX_100.out]; rfl) (Go.Joins.unfrozen_of_block BXBX_100.out 3) ?_
   iterate 4 rfl
   refine hK.out _ _ (SCm.set SS_100 (.slice va2 nn2 vc2) HNc.out) (fun _ => ?_)
   clear hK K
   try simp only [Act.put, puA, puB, puC]
  all_goals
   refine atA [true, true, true, true, true, true, true, true, true, true, true, true, true, true, true, true, true, true, true] ?_
   refine wpAnyH_done (by kernel_rfl) ?_ _
   refine NoPanic.normal ?_
   generalize (xw_100.setCell ⟨cb, 3, none⟩ (.slice va2 nn2 vc2)) = w2 at *
   have HD := hid (commit_eq G.c G2.c u0 o PUh.out.e)
   have H2 := hid PUh.out.h
   have M2 := hid PUh.out.m
   have HL2 := hid (And.intro PUh.out.l PUh.out.l0)
   have TO := hid (show TbOk G2.c.most G2.c.tb ∧ G2.c.most ≤ 64 from by rw [PUh.out.e]; exact ⟨HOk.out.tb, HOk.out.m2⟩)
   have HG2r := hid G2h.out.1
   have HFK := hid PUh.out.f
   have HKe := hid (show 1 ≤ G2.c.keep from by rw [PUh.out.e]; exact HOk.out.k1)
   clear PUh G2h HPush HRw HBs HV HVb HN1 HVr HCl HNs HNc M1 H1 HGd S2 w1e HLe HOk HU HLL HCt HBx HCn HKH HFe HFF U0 HSl
   obtain ⟨⟨ke2, mo2, cn2, ho2, rc2, lw2, lm2, lr2, ls2⟩, kn2, vr2, ⟨t1, t2, t3, t4⟩, V2⟩ := G2
   dsimp only at HD HL2 TO HG2r HKe HFK
   have hvr2 := HG2r.out
   subst hvr2
   obtain ⟨kl, hkl⟩ : ∃ kl, kn2.length = kl := ⟨_, rfl⟩
   have HKl := hid hkl
   have HRl := hid (show rc2.length = kl ∧ nn2 = kl from ⟨by have := H2.out.kp; dsimp only at this; rw [← this, List.length_map]; exact hkl, by have := H2.out.row; obtain ⟨a', c', e', -, -⟩ := krow_len this; dsimp only at e'; simp only [Value.slice.injEq] at e'; rw [← hkl]; exact e'.2.1⟩)
   rw [hkl] at HL2
   clear hkl
   obtain rfl : nn2 = kl := HRl.out.2
   have S3' := hid (show CB8 cb ke2 cn2 ho2 (.slice va2 nn2 vc2) t1 t2 t3 t4 w2 from H2.out.cells.1)
   rw [HRl.out.1] at HD
   have hk33 : (nn2 : Int) ≤ 33 := by have := HL2.out.1; omega
   have hk0 : (1 : Int) ≤ (nn2 : Int) := by have := HL2.out.2; omega
   go_upto_region 3 with fail
   refine wp_region_noPanic ?_
   refine wp_region_held_drew (S := CB8 cb ke2 cn2 ho2 (.slice va2 nn2 vc2) t1 t2 t3 t4) (by kernel_rfl) ?_ (fun hHeld => ?_)
   ·exact CB8.old ((Old.refl _).drew) S3'.out
   try simp only [Act.put, puA, puB, puC]
   clear hHeld
   refine tkA (i := 0) (oi := oCea19) (CB8.old ((Old.refl w2).drew) S3'.out) ?_
   try simp only [Act.put, puA, puB, puC]
   refine tkA (i := 1) (oi := oCea20) (CB8.old ((Old.refl w2).drew) S3'.out) ?_
   try simp only [Act.put, puA, puB, puC]
   refine tkA (i := 2) (oi := oCea21) (CB8.old ((Old.refl w2).drew) S3'.out) ?_
   try simp only [Act.put, puA, puB, puC]
   refine tkA (i := 3) (oi := oCea22) (CB8.old ((Old.refl w2).drew) S3'.out) ?_
   try simp only [Act.put, puA, puB, puC]
   refine tkA (i := 5) (oi := oCea23) (CB8.old ((Old.refl w2).drew) S3'.out) ?_
   try simp only [Act.put, puA, puB, puC]
   refine tkA (i := 6) (oi := oCea24) (CB8.old ((Old.refl w2).drew) S3'.out) ?_
   try simp only [Act.put, puA, puB, puC]
   refine tkA (i := 7) (oi := oCea25) (CB8.old ((Old.refl w2).drew) S3'.out) ?_
   try simp only [Act.put, puA, puB, puC]
   refine tkA (i := 8) (oi := oCea26) (CB8.old ((Old.refl w2).drew) S3'.out) ?_
   try simp only [Act.put, puA, puB, puC]
   refine rdB 4 oCea27 fun K hK => ?_
   go_simp
   refine hK.out _ _ (CB8.old ((Old.refl w2).drew) S3'.out) (fun _ => ?_)
   clear hK K
   try simp only [Act.put, puA, puB, puC]
   refine tkA (i := 9) (oi := oCea28) (CB8.old ((Old.refl w2).drew) S3'.out) ?_
   try simp only [Act.put, puA, puB, puC]
   refine wpAnyH_done (by kernel_rfl) ?_ _
   refine NoPanic.normal ?_
   have U3 := hid ((Old.refl w2).drew)
   generalize w2.drew = w3 at *
   have H3 := hid (H2.out.old U3.out)
   have M3 := hid (M2.out.trans (CMov.old U3.out))
   by_cases hle : (nn2 : Int) ≤ ke2
   ·have dle : decide ((nn2 : Int) ≤ ke2) = true := by simp [hle]
    go_wp2
    exact bodyPost_ret (v := .tuple #[]) (by simp [results, Tryz.results25, go_sem]) rfl ⟨_, rfl, H3.out, M3.out, by rw [HD.out, if_pos hle], HFK.out⟩
   ·have dle : decide ((nn2 : Int) ≤ ke2) = false := decide_eq_false hle
    have HD2 := hid (HD.out.trans (if_neg hle))
    clear HD dle
    obtain ⟨k0, L0, hkn⟩ : ∃ k0 L0, kn2 = k0 :: L0 := by
     cases hx : kn2 with
     | nil => exfalso; have a := HKl.out; have b := HL2.out.2; rw [hx] at a; simp at a; omega
     | cons a b => exact ⟨a, b, rfl⟩
    subst hkn
    obtain ⟨m0, hm0⟩ : ∃ m0, L0.length = m0 := ⟨_, rfl⟩
    have hnm : nn2 = m0 + 1 := by have a := HKl.out; rw [List.length_cons, hm0] at a; exact a.symm
    subst hnm
    have HM0 := hid hm0
    clear hm0
    have hke2 : 1 ≤ ke2 := by have := HKe.out; exact this
    have hm1 : 0 < m0 := by omega
    obtain ⟨g0, cap0, ev0, -, -, -, hki⟩ := krow_at (w := w3) H3.out.row (by simp)
    simp only [Value.slice.injEq] at ev0
    obtain ⟨rfl, -, -⟩ := ev0
    have HKI := hid (hki 0 (by simp))
    simp only [List.getElem_cons_zero, Nat.zero_mul] at HKI
    clear hki
    have HRow := hid (fun (W : World) (u : Old w3 W) => by have := (H3.out.old u).row; rw [HKl.out] at this; exact this)
    have HDe := hid (fun (W : World) (u : Old w3 W) => del_any base g0 vc2 m0 k0 L0 W (HRow.out W u) HM0.out hm1 (by omega))
    have HK0 := hid (fun (W : World) (c : Chg (mblC cb ⟨⟨ke2, mo2, cn2, ho2, rc2, lw2, lm2, lr2, ls2⟩, k0 :: L0, .slice (some ⟨g0, 0, none⟩) (m0 + 1) vc2, ⟨t1, t2, t3, t4⟩, V2⟩) w3 W) => ((H3.out.kk k0 (by simp)).chg c (fun g hg => H3.out.far k0 (by simp) g hg)).sb)
    have HKn0 := hid (fun (k : Nat) (q : k ∈ mblC cb ⟨⟨ke2, mo2, cn2, ho2, rc2, lw2, lm2, lr2, ls2⟩, k0 :: L0, .slice (some ⟨g0, 0, none⟩) (m0 + 1) vc2, ⟨t1, t2, t3, t4⟩, V2⟩) => (H3.out.lt k q).2)
    have HTT := hid (fun (t : Bool × Tb) (e : sumT mo2 k0.p ⟨lw2, lm2, lr2, ls2⟩ = t) => drop_eq ⟨ke2, mo2, cn2, ho2, rc2, lw2, lm2, lr2, ls2⟩ k0.p (L0.map (·.p)) t (by have := H3.out.kp; dsimp only at this; rw [← this]; rfl) e)
    have HSet := hid (fun (W W' : World) (u : Old w3 W) (c : Chg [g0] W W') (o : W'.ownsRow base 93 8 (.slice (some ⟨g0, 0, none⟩) m0 vc2) m0 (kgcs L0)) => (H3.out.old u).setR (kn' := L0) (v' := .slice (some ⟨g0, 0, none⟩) m0 vc2) c (by rw [HM0.out]; exact o) (.inl rfl) (fun k hk => .inl (by simp [hk])))
    have HPu0 := hid (fun (V' : Tv) (W : World) (hk : ∀ W', Chg (tbl ⟨t1, t2, t3, t4⟩ V') W W' → k0.sb.Ok W') (a : TabsAt base ⟨t1, t2, t3, t4⟩ V' mo2 ⟨lw2, lm2, lr2, ls2⟩ W) => sput_any k0 base ⟨t1, t2, t3, t4⟩ V' mo2 ⟨lw2, lm2, lr2, ls2⟩ W hk a TO.out.1 TO.out.2)
    obtain ⟨tt, htt⟩ : ∃ tt, sumT mo2 k0.p ⟨lw2, lm2, lr2, ls2⟩ = tt := ⟨_, rfl⟩
    have HDr := hid (HTT.out tt htt)
    rw [htt] at HPu0
    clear htt HTT
    obtain ⟨z0, z1, z2, z3, z4, z5, z6, z7⟩ := HKI.out
    have HC3 := hid H3.out.cells
    obtain ⟨e0, e1, e2, e3, e4, e5, e6, e7⟩ := HC3.out.1
    unfold Kg.v1 at z4
    unfold Kg.v2 at z5
    unfold Kg.v3 at z6
    unfold Kg.v1 Kg.v2 Kg.v3 at HPu0
    obtain ⟨⟨kn0, ⟨k1, k2, k3, kR, kP, kW⟩, ko⟩, ka1, ka2, ka3, kc1, kc2, kc3⟩ := k0
    dsimp only at z0 z1 z2 z3 z4 z5 z6 z7 HPu0 HDr
    obtain ⟨l1, hl1⟩ : ∃ l1, kR.length = l1 := ⟨_, rfl⟩
    obtain ⟨l2, hl2⟩ : ∃ l2, kP.length = l2 := ⟨_, rfl⟩
    obtain ⟨l3, hl3⟩ : ∃ l3, kW.length = l3 := ⟨_, rfl⟩
    rw [hl1] at z4 HPu0
    rw [hl2] at z5 HPu0
    rw [hl3] at z6 HPu0
    clear hl1 hl2 hl3
    go_upto_region 5 with fail
    have UJ := hid ((Old.refl w3).alloc (.cells #[.int .i64 kn0, .int .i64 k1, .int .i64 k2, .int .i64 k3, .slice ka1 l1 kc1, .slice ka2 l2 kc2, .slice ka3 l3 kc3, .bool ko] 93))
    have BJ := hid (box8K (alloc_at w3 (.cells #[.int .i64 kn0, .int .i64 k1, .int .i64 k2, .int .i64 k3, .slice ka1 l1 kc1, .slice ka2 l2 kc2, .slice ka3 l3 kc3, .bool ko] 93)))
    have HKb := hid (heap_lt (alloc_at w3 (.cells #[.int .i64 kn0, .int .i64 k1, .int .i64 k2, .int .i64 k3, .slice ka1 l1 kc1, .slice ka2 l2 kc2, .slice ka3 l3 kc3, .bool ko] 93)))
    have HKn := hid (fun q => (absurd (HKn0.out w3.heap.size q) (Nat.lt_irrefl _) : False))
    clear HKn0
    generalize w3.alloc (.cells #[.int .i64 kn0, .int .i64 k1, .int .i64 k2, .int .i64 k3, .slice ka1 l1 kc1, .slice ka2 l2 kc2, .slice ka3 l3 kc3, .bool ko] 93) = wj at *
    generalize w3.heap.size = kb at *
    clear z0 z1 z2 z3 z4 z5 z6 z7 e0 e1 e2 e3 e4 e5 e6 e7
    obtain ⟨e0, e1, e2, e3, e4, e5, e6, e7⟩ := CB8.old UJ.out HC3.out.1
    have HNg := hid (show cb ≠ g0 from fun e => H3.out.n1 (by rw [e]; rfl))
    go_upto_region 6 with (go_at_call 51; refine (HDe.out _ UJ.out).mono ?_; rintro e wd ⟨rfl, od, cd⟩; have OD := hid od; have CD := hid cd; have CTd := hid (HSet.out wj wd UJ.out cd od); clear od cd e0 e1 e2 e3 e4 e5 e6 e7; have e3 := CD.out.cell (CB8.old UJ.out HC3.out.1).2.2.2.1 (by simp; exact HNg.out); have fz3 := CD.out.keepF (CB8.old UJ.out HC3.out.1).2.2.2.1 (UJ.out.keepF HC3.out.1.2.2.2.1 (HC3.out.2 3)) (by simp; exact HNg.out))
    clear e3 fz3
    have M4 := hid ((CMov.old UJ.out).trans CTd.out.2)
    have H4 := hid CTd.out.1
    have HKc := hid (show kb ≠ cb ∧ kb ≠ g0 from ⟨fun e => HKn.out (mem_mblC.2 (.inl e)), fun e => HKn.out (mem_mblC.2 (.inr (.inl (by rw [e]; rfl))))⟩)
    have BQ := hid ((KB8.chg BJ.out CD.out (by simp; exact HKc.out.2)).chg (Chg.set (S := [cb]) wd ⟨cb, 3, none⟩ (.slice (some ⟨g0, 0, none⟩) m0 vc2) (by simp)) (by simp; exact HKc.out.1))
    generalize wd.setCell ⟨cb, 3, none⟩ (.slice (some ⟨g0, 0, none⟩) m0 vc2) = wq at *
    have HS6 := hid (show S6C cb t1 t2 t3 t4 kb kn0 k1 k2 k3 (.slice ka1 l1 kc1) (.slice ka2 l2 kc2) (.slice ka3 l3 kc3) ko wq from ⟨H4.out.cells.1.2.2.2.2, BQ.out⟩)
    have HN6 := hid (show cb ∉ tbl ⟨t1, t2, t3, t4⟩ V2 ∧ kb ∉ tbl ⟨t1, t2, t3, t4⟩ V2 from ⟨H4.out.n2, fun q => HKn.out (mem_mblC.2 (.inr (.inr q)))⟩)
    have HPu := hid (fun (W : World) (u : Old wq W) => HPu0.out V2 W (fun W' c => HK0.out W' (chg_after (M4.out.1.trans (Chg.ofOld u)) c (fun i q => M4.out.2 i (mem_mblC.2 (.inr (.inr q)))))) (H4.out.ta.old u))
    have HKq := hid (show kb < wq.heap.size from World.block_lt_of_cell? wq _ HS6.out.2.1)
    clear HDe HRow HSet HPu0 HK0 CTd OD CD
    focus
     refine wp_region_noPanic ?_
     refine wp_region_held_drew (S := S6C cb t1 t2 t3 t4 kb kn0 k1 k2 k3 (.slice ka1 l1 kc1) (.slice ka2 l2 kc2) (.slice ka3 l3 kc3) ko) (by kernel_rfl) ?_ (fun hHeld => ?_)
     ·exact HS6.out
     try simp only [Act.put, puA, puB, puC]
     clear hHeld
     all_goals
      refine atA [false, false, false, false, false, false, false] ?_
      refine tkA (i := 0) (oi := oCea29) (S6C.old ((Old.refl wq).drew) HS6.out) ?_
      try simp only [Act.put, puA, puB, puC]
      refine tkA (i := 1) (oi := oCea30) (S6C.old ((Old.refl wq).drew) HS6.out) ?_
      try simp only [Act.put, puA, puB, puC]
      refine tkA (i := 2) (oi := oCea31) (S6C.old ((Old.refl wq).drew) HS6.out) ?_
      try simp only [Act.put, puA, puB, puC]
      refine tkA (i := 3) (oi := oCea32) (S6C.old ((Old.refl wq).drew) HS6.out) ?_
      try simp only [Act.put, puA, puB, puC]
      refine tkA (i := 4) (oi := oCea33) (S6C.old ((Old.refl wq).drew) HS6.out) ?_
      try simp only [Act.put, puA, puB, puC]
      refine rdA [5] ?_
      refine AllReadyH.cons (o := oCea34) rfl (fun K hK => ?_) AllReadyH.nil
      refine wantCall2 ?_ 52 (.tmp 59) (.tmp 60) #[55, 93] ?_ (.agg #[pV t1, pV t2, pV t3, pV t4]) (.agg #[.int .i64 kn0, .int .i64 k1, .int .i64 k2, .int .i64 k3, .slice ka1 l1 kc1, .slice ka2 l2 kc2, .slice ka3 l3 kc3, .bool ko]) ?_ ?_ ?_ ((enters_of Tryz.func52 (by kernel_rfl) rfl) _ _) ?_
      iterate 5 rfl
      refine (HPu.out _ ((Old.refl wq).drew)).mono ?_
      rintro o' x200n ⟨V7, rfl, a7, m7⟩
      refine ⟨_, rfl, ?_⟩
      have A7 := hid a7
      have M7 := hid ((TMov.old ((Old.refl wq).drew)).trans m7)
      clear a7 m7
      refine hK.out _ _ (S6C.chg M7.out.1 HS6.out HN6.out.1 HN6.out.2) (fun _ => ?_)
      clear hK K
      try simp only [Act.put, puA, puB, puC]
      obtain ⟨xw_200, rfl⟩ : ∃ z, z = x200n := ⟨_, rfl⟩
     all_goals
      refine atA [true, true, true, true, true, true, false] ?_
      refine tkA (i := 6) (oi := oCea35) (S6C.chg M7.out.1 HS6.out HN6.out.1 HN6.out.2) ?_
      try simp only [Act.put, puA, puB, puC]
      refine wpAnyH_done (by kernel_rfl) ?_ _
      refine NoPanic.normal ?_
      have S7 := hid (S6C.chg M7.out.1 HS6.out HN6.out.1 HN6.out.2)
      generalize xw_200 = w7 at *
      have CT7 := hid (H4.out.setT A7.out M7.out)
      obtain ⟨b7, T7⟩ := tt
      dsimp only at CT7 HDr
      cases b7
      ·obtain ⟨⟨e4, e5, e6, e7⟩, z0, z1, z2, z3, z4, z5, z6, z7⟩ := S7.out
       have HEm := hid (fun (W : World) (u : Old w7 W) => sempty_any base ⟨t1, t2, t3, t4⟩ V7 mo2 T7 W (A7.out.old u))
       unfold EmPost at HEm
       go_upto_region 8 with (go_at_call 53; refine (HEm.out _ (Old.refl w7)).mono ?_; rintro e w8 ⟨V8, rfl, a8, m8⟩; have CT8 := hid (CT7.out.1.setT a8 m8); have S8 := hid (S6C.chg m8.1 S7.out (fun q => by rcases M7.out.2 _ q with z | z; exact HN6.out.1 z; have := heap_lt H4.out.bx; omega) (fun q => by rcases M7.out.2 _ q with z | z; exact HN6.out.2 z; have := HKq.out; omega)); clear a8 m8)
       clear e4 e5 e6 e7 z0 z1 z2 z3 z4 z5 z6 z7 HEm
       obtain ⟨⟨e4, e5, e6, e7⟩, z0, z1, z2, z3, z4, z5, z6, z7⟩ := S8.out
       have e2 := CT8.out.1.cells.1.2.2.1
       have f2 := CT8.out.1.cells.2 2
       dsimp only at e2
       have CT9 := hid (CT8.out.1.setH kn0)
       go_wp2
       exact bodyPost_end (v := .tuple #[]) (by simp [results, Tryz.results25, go_sem]) rfl ⟨_, rfl, CT9.out.1, (((M3.out.trans M4.out).trans CT7.out.2).trans CT8.out.2).trans CT9.out.2, by rw [HD2.out, HDr.out]; rfl, fun k q => HFK.out k (List.mem_cons_of_mem _ q)⟩
      ·go_wp2
       exact bodyPost_end (v := .tuple #[]) (by simp [results, Tryz.results25, go_sem]) rfl ⟨_, rfl, CT7.out.1, ((M3.out.trans M4.out).trans CT7.out.2), by rw [HD2.out, HDr.out]; rfl, fun k q => HFK.out k (List.mem_cons_of_mem _ q)⟩
end Go.Proofs.YtgeinnaljlajoaaGreat
namespace Go.Proofs.YtgeinnaljlajoaaGreat
abbrev oCeb0 : Oper := { dst := some 3, op := .fieldAddr 29 (.tmp 1) 0, type := 0, pos := "cert.go:30", after := #[], guard := none }
abbrev oCeb1 : Oper := { dst := some 4, op := .load 3 (.tmp 3), type := 3, pos := "cert.go:30", after := #[⟨0, .data⟩], guard := none }
abbrev oCeb2 : Oper := { dst := some 7, op := .fieldAddr 29 (.tmp 1) 1, type := 0, pos := "cert.go:30", after := #[], guard := none }
abbrev oCeb3 : Oper := { dst := some 8, op := .load 3 (.tmp 7), type := 3, pos := "cert.go:30", after := #[⟨4, .data⟩], guard := none }
abbrev oCeb4 : Oper := { dst := some 5, op := .call { callee := Callee.builtin Builtin.min, args := #[.tmp 4, .const (.int IntKind.i64 32)], argTypes := #[3, 3] }, type := 3, pos := "cert.go:30", after := #[⟨1, .data⟩], guard := none }
abbrev oCeb5 : Oper := { dst := some 9, op := .call { callee := Callee.value (.func 18), args := #[.tmp 8], argTypes := #[3] }, type := 55, pos := "cert.go:30", after := #[⟨5, .data⟩], guard := none }
abbrev oCeb6 : Oper := { dst := some 6, op := .call { callee := Callee.builtin Builtin.max, args := #[.const (.int IntKind.i64 1), .tmp 5], argTypes := #[3, 3] }, type := 3, pos := "cert.go:30", after := #[⟨2, .data⟩], guard := none }
abbrev oCeb7 : Oper := { dst := some 10, op := .build 59 #[(0, .tmp 6), (4, .tmp 9)], type := 59, pos := "cert.go:30", after := #[⟨3, .data⟩, ⟨6, .data⟩], guard := none }
abbrev oCeb8 : Oper := { dst := some 11, op := .box 59 (.tmp 10), type := 26, pos := "cert.go:30", after := #[⟨7, .data⟩], guard := none }
abbrev oCeb9 : Oper := { dst := some 2, op := .assign (.tmp 11), type := 26, pos := "cert.go:30", after := #[⟨8, .data⟩, ⟨6, .chain⟩, ⟨0, .phase⟩, ⟨1, .phase⟩, ⟨2, .phase⟩, ⟨3, .phase⟩, ⟨4, .phase⟩, ⟨5, .phase⟩, ⟨6, .phase⟩, ⟨7, .phase⟩, ⟨8, .phase⟩], guard := none }
open Go.RowKit Go.Lib
set_option linter.unusedVariables false
set_option linter.unusedSimpArgs false
set_option maxRecDepth 20000
attribute [local go_sem] run_bits run_frombits run_store_float eqF
theorem own_ty {base : Nat} {w : World} {t : TypeId} {k n : Nat} {xs : List Value} {v : Value} (h : w.ownsRow base t k v n xs) {g : Nat} (e : v.ownBlock = some g) : ∃ cur, w.heap[g]? = some (.cells cur t (0, 0)) := by
 rcases h.2 with ⟨rfl, _⟩ | ⟨g', cap, cur, rfl, _, hg, _⟩
 ·cases e
 ·cases e; exact ⟨cur, hg⟩
theorem kbl_ty {base : Nat} {k : Kg} {w : World} (h : KOk base k w) {g : Nat} (hg : g ∈ k.bl) : ∃ cur T, w.heap[g]? = some (.cells cur T (0, 0)) ∧ (T = 37 ∨ T = 74) := by
 rcases mem_kbl.1 hg with q | q | q
 ·obtain ⟨cur, e⟩ := own_ty h.r q; exact ⟨cur, _, e, .inl rfl⟩
 ·obtain ⟨cur, e⟩ := own_ty h.s q; exact ⟨cur, _, e, .inr rfl⟩
 ·obtain ⟨cur, e⟩ := own_ty h.w q; exact ⟨cur, _, e, .inl rfl⟩
theorem kbl_ne {base : Nat} {k : Kg} {w : World} (h : KOk base k w) {b : Nat} {c : Array Value} {T : TypeId} (hb : w.heap[b]? = some (.cells c T (0, 0))) (h1 : T ≠ 37) (h2 : T ≠ 74) : b ∉ k.bl := fun q => by
 obtain ⟨cur, T', e, z⟩ := kbl_ty h q
 rw [hb] at e
 simp only [Option.some.injEq, Obj.cells.injEq] at e
 rcases z with z | z
 ·exact h1 (e.2.1.trans z)
 ·exact h2 (e.2.1.trans z)
theorem box2V {w : World} {b : Nat} {x y : Value} {T : TypeId} (h : w.heap[b]? = some (.cells #[x, y] T (0, 0))) : (w.cell? ⟨b, 0, none⟩ = some x ∧ w.cell? ⟨b, 1, none⟩ = some y) ∧ ∀ o, w.frozen? ⟨b, o, none⟩ = false :=
 ⟨⟨by rw [Go.Joins.cell_of_block h]; rfl, by rw [Go.Joins.cell_of_block h]; rfl⟩, fun o => Go.Joins.unfrozen_of_block h o⟩
theorem ver_set {w : World} {b : Nat} {x y : Value} {T : TypeId} (h : w.heap[b]? = some (.cells #[x, y] T (0, 0))) (p q : Value) : ((w.setCell ⟨b, 0, none⟩ p).setCell ⟨b, 1, none⟩ q).heap[b]? = some (.cells #[p, q] T (0, 0)) := Go.Joins.block_setCell (Go.Joins.block_setCell h p (i := 0)) q (i := 1)
theorem ver_old {a w : World} {b : Nat} (hb : a.heap.size ≤ b) (h : Old a w) (p q : Value) : Old a ((w.setCell ⟨b, 0, none⟩ p).setCell ⟨b, 1, none⟩ q) := (h.setCell (p := ⟨b, 0, none⟩) hb p).setCell (p := ⟨b, 1, none⟩) hb q
theorem ver_chg {w : World} {b : Nat} (p q : Value) : Chg [b] w ((w.setCell ⟨b, 0, none⟩ p).setCell ⟨b, 1, none⟩ q) := (Chg.set (S := [b]) w ⟨b, 0, none⟩ p (by simp)).trans (Chg.set (S := [b]) _ ⟨b, 1, none⟩ q (by simp))
def DePost (base cb : Nat) (G : Cg) (r : Int × Int × Cp) (w : World) (e : Ending) (w' : World) : Prop := ∃ G', e = .returned (.agg #[.int .i64 r.1, .int .i64 r.2.1]) ∧ CtAt base cb G' w' ∧ CMov cb w G w' G' ∧ G'.c = r.2.2 ∧ ∀ k ∈ G'.kn, k ∈ G.kn ∨ ∀ g ∈ k.bl, w.heap.size ≤ g
theorem decC_eq (c : Cp) (u : Su) (ck f : Int) (m : Met) (hf : faultC c u ck = f) (hm : metC c u = m) (r : Int × Int × Cp) (e : r = if f ≠ 0 then (f, 0, c) else if m.w = true then (111, 0, c) else if dangM m = true then (112, 0, c) else (0, c.cnt + 1, commitC c u (decide (0 < m.f)))) : decC c u ck = r := by
 subst hf hm e; rfl
theorem commit_cnt (c : Cp) (u : Su) (o : Bool) : (commitC c u o).cnt = c.cnt + 1 := by
 unfold commitC
 split
 ·rfl
 ·unfold dropC
  split
  ·rfl
  ·split <;> rfl
theorem fault_zero {c : Cp} {u : Su} {ck : Int} (h : faultC c u ck = 0) : ck = 0 ∧ c.cnt < 1099511627776 ∧ u.s3 ≤ c.cnt ∧ c.hor ≤ u.s3 := by
 unfold faultC at h
 by_cases h0 : ck ≠ 0
 ·rw [if_pos h0] at h; exact absurd h h0
 rw [if_neg h0] at h
 by_cases h1 : 1099511627776 ≤ c.cnt
 ·rw [if_pos h1] at h; cases h
 rw [if_neg h1] at h
 by_cases h2 : c.cnt < u.s3
 ·rw [if_pos h2] at h; cases h
 rw [if_neg h2] at h
 by_cases h3 : u.s3 < c.hor
 ·rw [if_pos h3] at h; cases h
 exact ⟨by simpa using h0, by omega, by omega, by omega⟩
theorem Sb.Far.mono {s : Sb} {S S' : List Nat} (h : s.Far S) (hs : ∀ k ∈ S', k ∈ S) : s.Far S' := ⟨fun a g e q => h.1 a g e (hs g q), fun a g e q => h.2.1 a g e (hs g q), fun a g e q => h.2.2 a g e (hs g q)⟩
set_option maxHeartbeats 8000000 in
theorem decide_any (s : Sb) (base cb : Nat) (G : Cg) (w : World) (hs : s.Ok w) (hf : s.Far (mblC cb G)) (h : CtAt base cb G w) (ok : CpOk G.c) :
    Calls Tryz.prog 8 #[.pointer (some ⟨cb, 0, none⟩), .agg #[.int .i64 s.s1, .int .i64 s.s2, .int .i64 s.s3, .slice s.a1 s.n1 s.c1, .slice s.a2 s.n2 s.c2, .slice s.a3 s.n3 s.c3]] w fun e w' => DePost base cb G (decC G.c s.pl s.chk) w e w' := by
 have HFa := hid (fun (W : World) (u : Old w W) => fault_any s base cb G W (hs.old u) (h.old u))
 have HMe := hid (fun (z1 : 0 ≤ s.s3) (z2 : s.s3 ≤ 1099511627776) (W : World) (u : Old w W) => cmeet_any s base cb G W (hs.old u) (h.old u) ok z1 z2)
 have HCo := hid (fun (o : Bool) (hc : G.c.cnt < 1099511627776) (W : World) (u : Old w W) => commit_any s o base cb G W (hs.old u) hf (h.old u) ok hc)
 have HCt := hid (fun (W : World) (u : Old w W) => h.old u)
 have HH := hid (And.intro ok.h1 (And.intro ok.n2 ok.n1))
 have HS3 := hid (show s.pl.s3 = s.s3 from rfl)
 obtain ⟨f, hff⟩ : ∃ f, faultC G.c s.pl s.chk = f := ⟨_, rfl⟩
 obtain ⟨m, hmm⟩ : ∃ m, metC G.c s.pl = m := ⟨_, rfl⟩
 have HE := hid (decC_eq G.c s.pl s.chk f m hff hmm)
 have HF0 := hid (fun (q : f = 0) => fault_zero (hff.trans q))
 rw [hff] at HFa
 rw [hmm] at HMe
 clear hff hmm hs hf h ok
 generalize s.chk = ck at *
 generalize s.pl = u0 at *
 obtain ⟨s1, s2, s3, a1, a2, a3, n1, n2, n3, c1, c2, c3, x1, x3, f2⟩ := s
 dsimp only at HFa HMe HCo HS3 ⊢
 clear x1 x3 f2
 go_enter Tryz.func8, Tryz.ntmps8
 go_upto_region 1 with fail
 have U0 := hid (((Old.refl w).alloc (.cells #[.int .i64 s1, .int .i64 s2, .int .i64 s3, .slice a1 n1 c1, .slice a2 n2 c2, .slice a3 n3 c3] 25)).alloc (.cells #[.int .i64 0, .int .i64 0] 33))
 have N0 := hid (two_newK w (.cells #[.int .i64 s1, .int .i64 s2, .int .i64 s3, .slice a1 n1 c1, .slice a2 n2 c2, .slice a3 n3 c3] 25) (.cells #[.int .i64 0, .int .i64 0] 33))
 generalize (w.alloc (.cells #[.int .i64 s1, .int .i64 s2, .int .i64 s3, .slice a1 n1 c1, .slice a2 n2 c2, .slice a3 n3 c3] 25)).alloc (.cells #[.int .i64 0, .int .i64 0] 33) = w0 at *
 obtain ⟨sb, hsb⟩ : ∃ sb, w.heap.size = sb := ⟨_, rfl⟩
 have HSb := hid hsb
 rw [hsb] at N0 ⊢
 obtain ⟨vb, hvb⟩ : ∃ vb, sb + 1 = vb := ⟨_, rfl⟩
 have HVb := hid (show w.heap.size ≤ vb from by omega)
 have HVs := hid (show w.heap.size ≤ sb from by omega)
 rw [hvb] at N0 ⊢
 clear hsb hvb
 have S0 := hid (box6K N0.out.1)
 have V0 := hid N0.out.2
 clear N0
 obtain ⟨y0, y1, y2, y3, y4, y5⟩ := S0.out
 go_upto_region 2 with (go_at_call 22; refine (HFa.out _ U0.out).mono ?_; rintro e w1 ⟨rfl, o1⟩; have U1 := hid (U0.out.trans o1); have S1 := hid (SB6.old o1 S0.out); have V1 := hid (o1.block V0.out); clear o1)
 clear y0 y1 y2 y3 y4 y5 S0 V0 HFa
 by_cases h0 : f = 0
 ·have HZ := hid (HF0.out h0)
  subst h0
  have z1 : 0 ≤ s3 := by have := HZ.out.2.2.2; have := HH.out.1; have := HS3.out; omega
  have z2 : s3 ≤ 1099511627776 := by have := HZ.out.2.2.1; have := HH.out.2.1; have := HS3.out; omega
  have HMm := hid (fun (W : World) (u : Old w W) => HMe.out z1 z2 W u)
  have HCm := hid (fun (o : Bool) (W : World) (u : Old w W) => HCo.out o HZ.out.2.1 W u)
  have HCb := hid HZ.out.2.1
  clear HMe HCo HF0 HZ HH HS3
  obtain ⟨y0, y1, y2, y3, y4, y5⟩ := S1.out
  have HMd := hid (fun (W : World) => dang_any m W)
  obtain ⟨mw, mm, mf, ml⟩ := m
  obtain ⟨dg, hdg⟩ : ∃ dg, dangM ⟨mw, mm, mf, ml⟩ = dg := ⟨_, rfl⟩
  have HDg := hid hdg
  rw [hdg] at HMd
  clear hdg
  unfold metV at HMm HMd
  dsimp only at HMm HMd HE
  go_upto_region 5 with (go_at_call 23; refine (HMm.out _ U1.out).mono ?_; rintro e w2 ⟨rfl, o2⟩; have U2 := hid (U1.out.trans o2); have S2 := hid (SB6.old o2 S1.out); have V2 := hid (o2.block V1.out); clear o2)
  clear y0 y1 y2 y3 y4 y5 S1 V1 HMm
  have U3 := hid (U2.out.trans ((Old.refl w2).alloc (.cells #[.bool mw, .bool mm, .int .i64 mf, .int .i64 ml] 64)))
  have S3 := hid (SB6.old ((Old.refl w2).alloc (.cells #[.bool mw, .bool mm, .int .i64 mf, .int .i64 ml] 64)) S2.out)
  have V3 := hid (((Old.refl w2).alloc (.cells #[.bool mw, .bool mm, .int .i64 mf, .int .i64 ml] 64)).block V2.out)
  have B3 := hid (alloc_at w2 (.cells #[.bool mw, .bool mm, .int .i64 mf, .int .i64 ml] 64))
  generalize w2.alloc (.cells #[.bool mw, .bool mm, .int .i64 mf, .int .i64 ml] 64) = w3 at *
  generalize w2.heap.size = mb at *
  obtain ⟨y0, y1, y2, y3, y4, y5⟩ := S3.out
  obtain ⟨⟨z0, z1', z2', z3⟩, -⟩ := box4M B3.out
  obtain ⟨⟨v0, v1⟩, vf⟩ := box2V V3.out
  have vf0 := vf 0
  have vf1 := vf 1
  clear vf
  cases mw
  ·cases dg
   ·by_cases hmf : 0 < mf
    ·have dm : decide (0 < mf) = true := by simp [hmf]
     have HCm2 := hid (fun (W : World) (u : Old w W) => HCm.out true W u)
     unfold CmPost at HCm2
     have HEe := hid (HE.out (0, G.c.cnt + 1, commitC G.c u0 true) (by simp [HDg.out, dm]))
     have HCc := hid (commit_cnt G.c u0 true)
     go_upto_region 10 with (first | (go_at_call 25; refine (HCm2.out _ U4.out).mono ?_; rintro e w5 ⟨G5, rfl, h5, m5, c5, k5⟩; have K5 := hid k5; clear k5; have H5 := hid h5; have M5 := hid ((CMov.old U4.out).trans m5); have C5 := hid c5; have HNm := hid (fun (k : Nat) (q : k ∈ mblC cb G5) => m5.2 k q); have V5 := hid (m5.1.heapAt V4.out (fun q => by have := ((HCt.out w (Old.refl w)).lt _ q).2; have := HVb.out; omega)); clear h5 m5 c5) | (go_at_call 24; refine (HMd.out _).mono ?_; rintro e w4 ⟨rfl, o4⟩; have U4 := hid (U3.out.trans o4); have V4 := hid (o4.block V3.out); have S4 := hid (SB6.old o4 S3.out); have B4 := hid (o4.block B3.out); clear o4 v0 v1 vf0 vf1 y0 y1 y2 y3 y4 y5 z0 z1' z2' z3; obtain ⟨y0, y1, y2, y3, y4, y5⟩ := S4.out; obtain ⟨⟨z0, z1', z2', z3⟩, -⟩ := box4M B4.out))
     clear y0 y1 y2 y3 y4 y5 z0 z1' z2' z3 HCm HCm2
     have e1 := H5.out.cells.1.2.1
     rw [C5.out, HCc.out] at e1
     obtain ⟨⟨v0, v1⟩, vf⟩ := box2V V5.out
     have vf0 := vf 0
     have vf1 := vf 1
     clear vf
     obtain ⟨⟨k0, k1⟩, -⟩ := box2V (ver_set V5.out (.int .i64 0) (.int .i64 (G.c.cnt + 1)))
     have HVn := hid (show ∀ k ∈ [vb], w.heap.size ≤ k from fun k q => by simp at q; subst q; exact HVb.out)
     have CV := hid (ver_chg (w := w5) (b := vb) (.int .i64 0) (.int .i64 (G.c.cnt + 1)))
     have H6 := hid (H5.out.chg CV.out (fun k q z => by simp at z; subst z; rcases HNm.out _ q with y | y; have := ((HCt.out w (Old.refl w)).lt _ y).2; have := HVb.out; omega; have := heap_lt V4.out; omega) (fun k q g hg z => by simp at z; subst z; exact kbl_ne (H5.out.kk k q) V5.out (by decide) (by decide) hg))
     have M6 := hid (show CMov cb w G _ G5 from ⟨chg_after M5.out.1 CV.out (fun i q => .inr (HVn.out i q)), M5.out.2⟩)
     go_wp2
     exact bodyPost_ret (v := .agg #[.int .i64 0, .int .i64 (G.c.cnt + 1)]) (by simp [results, Tryz.results8, go_sem, k0, k1]) rfl ⟨G5, by rw [HEe.out], H6.out, M6.out, by rw [HEe.out]; exact C5.out, fun k q => by rcases K5.out k q with z | z; exact .inl z; exact .inr (fun g hg => Nat.le_trans U4.out.size (z g hg))⟩
    ·have dm : decide (0 < mf) = false := by simp; omega
     have HCm2 := hid (fun (W : World) (u : Old w W) => HCm.out false W u)
     unfold CmPost at HCm2
     have HEe := hid (HE.out (0, G.c.cnt + 1, commitC G.c u0 false) (by simp [HDg.out, dm]))
     have HCc := hid (commit_cnt G.c u0 false)
     go_upto_region 10 with (first | (go_at_call 25; refine (HCm2.out _ U4.out).mono ?_; rintro e w5 ⟨G5, rfl, h5, m5, c5, k5⟩; have K5 := hid k5; clear k5; have H5 := hid h5; have M5 := hid ((CMov.old U4.out).trans m5); have C5 := hid c5; have HNm := hid (fun (k : Nat) (q : k ∈ mblC cb G5) => m5.2 k q); have V5 := hid (m5.1.heapAt V4.out (fun q => by have := ((HCt.out w (Old.refl w)).lt _ q).2; have := HVb.out; omega)); clear h5 m5 c5) | (go_at_call 24; refine (HMd.out _).mono ?_; rintro e w4 ⟨rfl, o4⟩; have U4 := hid (U3.out.trans o4); have V4 := hid (o4.block V3.out); have S4 := hid (SB6.old o4 S3.out); have B4 := hid (o4.block B3.out); clear o4 v0 v1 vf0 vf1 y0 y1 y2 y3 y4 y5 z0 z1' z2' z3; obtain ⟨y0, y1, y2, y3, y4, y5⟩ := S4.out; obtain ⟨⟨z0, z1', z2', z3⟩, -⟩ := box4M B4.out))
     clear y0 y1 y2 y3 y4 y5 z0 z1' z2' z3 HCm HCm2
     have e1 := H5.out.cells.1.2.1
     rw [C5.out, HCc.out] at e1
     obtain ⟨⟨v0, v1⟩, vf⟩ := box2V V5.out
     have vf0 := vf 0
     have vf1 := vf 1
     clear vf
     obtain ⟨⟨k0, k1⟩, -⟩ := box2V (ver_set V5.out (.int .i64 0) (.int .i64 (G.c.cnt + 1)))
     have HVn := hid (show ∀ k ∈ [vb], w.heap.size ≤ k from fun k q => by simp at q; subst q; exact HVb.out)
     have CV := hid (ver_chg (w := w5) (b := vb) (.int .i64 0) (.int .i64 (G.c.cnt + 1)))
     have H6 := hid (H5.out.chg CV.out (fun k q z => by simp at z; subst z; rcases HNm.out _ q with y | y; have := ((HCt.out w (Old.refl w)).lt _ y).2; have := HVb.out; omega; have := heap_lt V4.out; omega) (fun k q g hg z => by simp at z; subst z; exact kbl_ne (H5.out.kk k q) V5.out (by decide) (by decide) hg))
     have M6 := hid (show CMov cb w G _ G5 from ⟨chg_after M5.out.1 CV.out (fun i q => .inr (HVn.out i q)), M5.out.2⟩)
     go_wp2
     exact bodyPost_ret (v := .agg #[.int .i64 0, .int .i64 (G.c.cnt + 1)]) (by simp [results, Tryz.results8, go_sem, k0, k1]) rfl ⟨G5, by rw [HEe.out], H6.out, M6.out, by rw [HEe.out]; exact C5.out, fun k q => by rcases K5.out k q with z | z; exact .inl z; exact .inr (fun g hg => Nat.le_trans U4.out.size (z g hg))⟩
   ·have RF := hid (ver_set V3.out (.int .i64 112) (.int .i64 0))
    have UF := hid (ver_old HVb.out U3.out (.int .i64 112) (.int .i64 0))
    obtain ⟨⟨k0, k1⟩, -⟩ := box2V RF.out
    go_wp2_with (go_at_call 24; refine (HMd.out _).mono ?_; rintro e w4 ⟨rfl, o4⟩; have U4 := hid (U3.out.trans o4); have V4 := hid (o4.block V3.out); clear o4 v0 v1 vf0 vf1 k0 k1; obtain ⟨⟨v0, v1⟩, vf⟩ := box2V V4.out; have vf0 := vf 0; have vf1 := vf 1; clear vf; obtain ⟨⟨k0, k1⟩, -⟩ := box2V (ver_set V4.out (.int .i64 112) (.int .i64 0)))
    have UG := hid (ver_old HVb.out U4.out (.int .i64 112) (.int .i64 0))
    exact bodyPost_ret (v := .agg #[.int .i64 112, .int .i64 0]) (by simp [results, Tryz.results8, go_sem, k0, k1]) rfl ⟨G, by rw [HE.out (112, 0, G.c) (by simp [HDg.out])], HCt.out _ UG.out, CMov.old UG.out, by rw [HE.out (112, 0, G.c) (by simp [HDg.out])], fun k q => .inl q⟩
  ·have UF := hid (ver_old HVb.out U3.out (.int .i64 111) (.int .i64 0))
   obtain ⟨⟨k0, k1⟩, -⟩ := box2V (ver_set V3.out (.int .i64 111) (.int .i64 0))
   go_wp2
   exact bodyPost_ret (v := .agg #[.int .i64 111, .int .i64 0]) (by simp [results, Tryz.results8, go_sem, k0, k1]) rfl ⟨G, by rw [HE.out (111, 0, G.c) (by simp)], HCt.out _ UF.out, CMov.old UF.out, by rw [HE.out (111, 0, G.c) (by simp)], fun k q => .inl q⟩
 ·have dn : (f != 0) = true := by simp [h0]
  have UF := hid (ver_old HVb.out U1.out (.int .i64 f) (.int .i64 0))
  obtain ⟨⟨v0, v1⟩, vf⟩ := box2V V1.out
  have vf0 := vf 0
  have vf1 := vf 1
  clear vf
  obtain ⟨⟨k0, k1⟩, -⟩ := box2V (ver_set V1.out (.int .i64 f) (.int .i64 0))
  go_wp2
  exact bodyPost_ret (v := .agg #[.int .i64 f, .int .i64 0]) (by simp [results, Tryz.results8, go_sem, k0, k1]) rfl ⟨G, by rw [HE.out (f, 0, G.c) (by simp [h0])], HCt.out _ UF.out, CMov.old UF.out, by rw [HE.out (f, 0, G.c) (by simp [h0])], fun k q => .inl q⟩
set_option maxHeartbeats 1000000 in
theorem count_any (base cb : Nat) (G : Cg) (w : World) (h : CtAt base cb G w) : Calls Tryz.prog 10 #[.pointer (some ⟨cb, 0, none⟩)] w fun e w' => e = .returned (.int .i64 G.c.cnt) ∧ w' = w := by
 have e1 := h.cells.1.2.1
 generalize G.c.cnt = cn at *
 clear h
 go_enter Tryz.func10, Tryz.ntmps10
 go_wp2
 go_ret
 exact ⟨rfl, rfl⟩
set_option maxHeartbeats 1000000 in
theorem horizon_any (base cb : Nat) (G : Cg) (w : World) (h : CtAt base cb G w) : Calls Tryz.prog 20 #[.pointer (some ⟨cb, 0, none⟩)] w fun e w' => e = .returned (.int .i64 G.c.hor) ∧ w' = w := by
 have e1 := h.cells.1.2.2.1
 generalize G.c.hor = cn at *
 clear h
 go_enter Tryz.func20, Tryz.ntmps20
 go_wp2
 go_ret
 exact ⟨rfl, rfl⟩
theorem Vx.TabAt.mono {base b' : Nat} {w : World} {b : Nat} {most : Int} {v : Value} {L : List Vx.It} (h : Vx.TabAt base w b most v L) (hb : b' ≤ base) : Vx.TabAt b' w b most v L := ⟨Nat.le_trans hb h.1, h.2.1, h.2.2.1, h.2.2.2.1, own_base h.2.2.2.2.1 hb, h.2.2.2.2.2⟩
theorem Py.TabAt.mono {base b' : Nat} {w : World} {b : Nat} {most : Int} {v : Value} {L : List Py.It} (h : Py.TabAt base w b most v L) (hb : b' ≤ base) : Py.TabAt b' w b most v L := ⟨Nat.le_trans hb h.1, h.2.1, h.2.2.1, h.2.2.2.1, own_base h.2.2.2.2.1 hb, h.2.2.2.2.2⟩
def noV : Tv := ⟨.slice none 0 0, .slice none 0 0, .slice none 0 0, .slice none 0 0⟩
def NsPost (most : Int) (w : World) (e : Ending) (w' : World) : Prop := ∃ P : Tp, e = .returned (.agg #[pV P.t1, pV P.t2, pV P.t3, pV P.t4]) ∧ TabsAt w.heap.size P noV most ⟨[], [], [], []⟩ w' ∧ Old w w'
set_option maxHeartbeats 4000000 in
theorem newSum_any (m : Int) (w : World) : Calls Tryz.prog 18 #[.int .i64 m] w fun e w' => NsPost (Vx.mostC m) w e w' := by
 have HV := hid (fun W => Vx.new_any m W)
 have HP := hid (fun W => Py.new_any m W)
 have HMs := hid (show Py.mostC m = Vx.mostC m from rfl)
 go_enter Tryz.func18, Tryz.ntmps18
 go_upto_region 1 with fail
 have U0 := hid ((Old.refl w).alloc (.cells #[.pointer none, .pointer none, .pointer none, .pointer none] 55))
 have S0 := hid (alloc_at w (.cells #[.pointer none, .pointer none, .pointer none, .pointer none] 55))
 generalize w.alloc (.cells #[.pointer none, .pointer none, .pointer none, .pointer none] 55) = w0 at *
 have HRB := hid (Nat.le_refl w.heap.size)
 obtain ⟨rb, hrb⟩ : ∃ rb, w.heap.size = rb := ⟨_, rfl⟩
 have HR := hid hrb
 rw [hrb] at S0 HRB ⊢
 clear hrb
 have HNs := hid (show ∀ (t1 t2 t3 t4 : Nat) (W W' : World), Vx.TabAt t1 W t1 (Vx.mostC m) (.slice none 0 0) [] → Vx.TabAt t2 W t2 (Vx.mostC m) (.slice none 0 0) [] → Vx.TabAt t3 W t3 (Vx.mostC m) (.slice none 0 0) [] → Py.TabAt t4 W t4 (Vx.mostC m) (.slice none 0 0) [] → rb < t1 → t1 < t2 → t2 < t3 → t3 < t4 → Chg [rb] W W' → TabsAt w.heap.size ⟨t1, t2, t3, t4⟩ noV (Vx.mostC m) ⟨[], [], [], []⟩ W' from fun t1 t2 t3 t4 W W' h1 h2 h3 h4 l0 l1 l2 l3 c => by
  have a : ∀ t k : Nat, k ∈ Vx.blks t (.slice none 0 0) → k = t := fun t k q => by rcases Vx.mem_blks.1 q with z | z; exact z; cases z
  have b : ∀ t k : Nat, k ∈ Py.blks t (.slice none 0 0) → k = t := fun t k q => by rcases Py.mem_blks.1 q with z | z; exact z; cases z
  have hb := HR.out
  refine ⟨(h1.mono (by omega)).far c ?_, (h2.mono (by omega)).far c ?_, (h3.mono (by omega)).far c ?_, (h4.mono (by omega)).far c ?_, ?_, ?_, ?_, ?_, ?_, ?_⟩
  ·intro k q z; have := a _ _ q; simp at z; omega
  ·intro k q z; have := a _ _ q; simp at z; omega
  ·intro k q z; have := a _ _ q; simp at z; omega
  ·intro k q z; have := b _ _ q; simp at z; omega
  ·intro k q z; have := a _ _ q; have := a _ _ z; dsimp only at *; omega
  ·intro k q z; have := a _ _ q; have := a _ _ z; dsimp only at *; omega
  ·intro k q z; have := a _ _ q; have := b _ _ z; dsimp only at *; omega
  ·intro k q z; have := a _ _ q; have := a _ _ z; dsimp only at *; omega
  ·intro k q z; have := a _ _ q; have := b _ _ z; dsimp only at *; omega
  ·intro k q z; have := a _ _ q; have := b _ _ z; dsimp only at *; omega)
 obtain ⟨⟨v0, v1, v2, v3⟩, f0, f1, f2, f3⟩ := box4M S0.out
 go_wp2_with (first | (go_at_call 47; refine (HP.out w3).mono ?_; rintro e w4 ⟨rfl, h4, o4⟩; rw [HMs.out] at h4; have H4 := hid h4; have O4 := hid o4; have V4 := hid ((((o1.out.trans o2.out).trans o3.out).trans o4).block S0.out); clear h4 o4 v0 v1 v2 v3 f0 f1 f2 f3; obtain ⟨⟨v0, v1, v2, v3⟩, f0, f1, f2, f3⟩ := box4M V4.out) | (go_at_call 46; refine (HV.out w2).mono ?_; rintro e w3 ⟨rfl, h3, o3'⟩; have H3 := hid h3; have o3 := hid o3'; clear h3 o3') | (go_at_call 46; refine (HV.out w1).mono ?_; rintro e w2 ⟨rfl, h2, o2'⟩; have H2 := hid h2; have o2 := hid o2'; clear h2 o2') | (go_at_call 46; refine (HV.out w0).mono ?_; rintro e w1 ⟨rfl, h1, o1'⟩; have H1 := hid h1; have o1 := hid o1'; clear h1 o1'))
 have R4 := hid (Go.Joins.block_setCell (Go.Joins.block_setCell (Go.Joins.block_setCell (Go.Joins.block_setCell V4.out (pV w0.heap.size) (i := 0)) (pV w1.heap.size) (i := 1)) (pV w2.heap.size) (i := 2)) (pV w3.heap.size) (i := 3))
 have C4 := hid ((((Chg.set (S := [rb]) w4 ⟨rb, 0, none⟩ (pV w0.heap.size) (by simp)).trans (Chg.set (S := [rb]) _ ⟨rb, 1, none⟩ (pV w1.heap.size) (by simp))).trans (Chg.set (S := [rb]) _ ⟨rb, 2, none⟩ (pV w2.heap.size) (by simp))).trans (Chg.set (S := [rb]) _ ⟨rb, 3, none⟩ (pV w3.heap.size) (by simp)))
 obtain ⟨⟨k0, k1, k2, k3⟩, -⟩ := box4M R4.out
 refine bodyPost_ret (v := .agg #[pV w0.heap.size, pV w1.heap.size, pV w2.heap.size, pV w3.heap.size]) (by simp [results, Tryz.results18, go_sem, k0, k1, k2, k3]) rfl ⟨⟨w0.heap.size, w1.heap.size, w2.heap.size, w3.heap.size⟩, rfl, HNs.out _ _ _ _ w4 _ (H1.out.old ((o2.out.trans o3.out).trans O4.out)) (H2.out.old (o3.out.trans O4.out)) (H3.out.old O4.out) H4.out (heap_lt S0.out) (Nat.lt_of_lt_of_le H1.out.lt (Nat.le_refl _)) (Nat.lt_of_lt_of_le H2.out.lt (Nat.le_refl _)) (Nat.lt_of_lt_of_le H3.out.lt (Nat.le_refl _)) C4.out, ?_⟩
 exact (U0.out.trans (((o1.out.trans o2.out).trans o3.out).trans O4.out)).below (C4.out.below w.heap.size (fun k q => by simp at q; have := HR.out; omega) (U0.out.trans (((o1.out.trans o2.out).trans o3.out).trans O4.out)).size)
def NwPost (keep old : Int) (w : World) (e : Ending) (w' : World) : Prop := ∃ cb G, e = .returned (.pointer (some ⟨cb, 0, none⟩)) ∧ CtAt w.heap.size cb G w' ∧ Old w w' ∧ G.c = newC keep old
theorem stepBoxC {ops : Array Oper} {o : Oper} {a : Act} {w : World} {K : Act → World → Prop} {Q : Exit → Act → World → Prop} {E : Prop} (hg : o.guard = none) (x : Operand) (hop : o.op = Op.box 59 x) (ke cn ho : Int) (t1 t2 t3 t4 : Nat)
    (hx : a.eval x = .agg #[.int .i64 ke, .int .i64 cn, .int .i64 ho, .slice none 0 0, pV t1, pV t2, pV t3, pV t4])
    (hK : ∀ m w', m = w.heap.size → w' = w.alloc (.cells #[.int .i64 ke, .int .i64 cn, .int .i64 ho, .slice none 0 0, pV t1, pV t2, pV t3, pV t4] 59) → K (a.put o.dst (.pointer (some ⟨m, 0, none⟩))) w') :
    if Region.wanted o (yielded ops a.tmps) = true then Oper.wp Tryz.prog o a w K Q else E := by
 have hw : Region.wanted o (yielded ops a.tmps) = true := by simp [Region.wanted, hg]
 rw [if_pos hw]
 obtain ⟨d, p', t, ps, af, gd⟩ := o
 subst hop
 unfold Oper.wp execOp
 simp only [hx]
 go_simp
 exact hK _ _ rfl rfl
theorem new_ct {base : Nat} {P : Tp} {keep old ke : Int} {w w0 : World} (hb : base ≤ w0.heap.size) (hk : ke = max 1 (min keep 32)) (h : TabsAt w0.heap.size P noV (Vx.mostC old) ⟨[], [], [], []⟩ w) (hs : w0.heap.size ≤ w.heap.size) :
    CtAt base w.heap.size ⟨newC keep old, [], .slice none 0 0, P, noV⟩ (w.alloc (.cells #[.int .i64 ke, .int .i64 0, .int .i64 0, .slice none 0 0, pV P.t1, pV P.t2, pV P.t3, pV P.t4] 59)) := by
 subst hk
 have a := alloc_at w (.cells #[.int .i64 (max 1 (min keep 32)), .int .i64 0, .int .i64 0, .slice none 0 0, pV P.t1, pV P.t2, pV P.t3, pV P.t4] 59)
 have u : Old w _ := (Old.refl w).alloc (.cells #[.int .i64 (max 1 (min keep 32)), .int .i64 0, .int .i64 0, .slice none 0 0, pV P.t1, pV P.t2, pV P.t3, pV P.t4] 59)
 have h2 : TabsAt base P noV (Vx.mostC old) ⟨[], [], [], []⟩ w := ⟨h.a1.mono hb, h.a2.mono hb, h.a3.mono hb, h.a4.mono hb, h.d12, h.d13, h.d14, h.d23, h.d24, h.d34⟩
 refine ⟨a, by omega, World.ownsRow_nil _ _ _ _, fun k q => (by cases q), rfl, h2.old u, (fun q => by cases q), fun q => ?_, fun g q => (by cases q), fun k q => (by cases q)⟩
 have := (h.lt _ q).2
 omega
abbrev CfB (b : Nat) (x y : Int) (w : World) : Prop := w.cell? ⟨b, 0, none⟩ = some (.int .i64 x) ∧ w.cell? ⟨b, 1, none⟩ = some (.int .i64 y)
theorem CfB.old {b : Nat} {x y : Int} {w w' : World} (u : Old w w') (h : CfB b x y w) : CfB b x y w' := ⟨u.keep h.1, u.keep h.2⟩
set_option maxHeartbeats 8000000 in
theorem cnew_any (keep old : Int) (w : World) : Calls Tryz.prog 6 #[.agg #[.int .i64 keep, .int .i64 old]] w fun e w' => NwPost keep old w e w' := by
 have HS := hid (fun W => newSum_any old W)
 unfold NsPost at HS
 go_enter Tryz.func6, Tryz.ntmps6
 go_upto_region 1 with fail
 have U0 := hid ((Old.refl w).alloc (.cells #[.int .i64 keep, .int .i64 old] 29))
 have S0 := hid (show CfB w.heap.size keep old (w.alloc (.cells #[.int .i64 keep, .int .i64 old] 29)) from (box2V (alloc_at w (.cells #[.int .i64 keep, .int .i64 old] 29))).1)
 have HSz := hid U0.out.size
 generalize w.alloc (.cells #[.int .i64 keep, .int .i64 old] 29) = w0 at *
 generalize hfb : w.heap.size = fb at *
 have HFb := hid hfb
 clear hfb
 focus
  refine wp_region_noPanic ?_
  refine wp_region_held_drew (S := CfB fb keep old) (by kernel_rfl) ?_ (fun hHeld => ?_)
  ·exact CfB.old ((Old.refl w0).drew) S0.out
  try simp only [Act.put, puA, puB, puC]
  clear hHeld
  all_goals
   refine atA [false, false, false, false, false, false, false, false, false, false] ?_
   refine tkA (i := 0) (oi := oCeb0) (CfB.old ((Old.refl w0).drew) S0.out) ?_
   try simp only [Act.put, puA, puB, puC]
   refine tkA (i := 1) (oi := oCeb1) (CfB.old ((Old.refl w0).drew) S0.out) ?_
   try simp only [Act.put, puA, puB, puC]
   refine tkA (i := 4) (oi := oCeb2) (CfB.old ((Old.refl w0).drew) S0.out) ?_
   try simp only [Act.put, puA, puB, puC]
   refine tkA (i := 5) (oi := oCeb3) (CfB.old ((Old.refl w0).drew) S0.out) ?_
   try simp only [Act.put, puA, puB, puC]
   refine rdA [2, 6] ?_
   refine AllReadyH.cons (o := oCeb4) rfl (fun K hK => ?_) (AllReadyH.cons (o := oCeb5) rfl (fun K hK => ?_) AllReadyH.nil)
   go_simp
   refine hK.out _ _ (CfB.old ((Old.refl w0).drew) S0.out) (fun _ => ?_)
   clear hK K
   try simp only [Act.put, puA, puB, puC]
   rotate_left
   refine wantCall1 ?_ 18 (.tmp 8) #[3] ?_ (.int .i64 old) ?_ ?_ ((enters_of Tryz.func18 (by kernel_rfl) rfl) _ _) ?_
   iterate 4 rfl
   refine (HS.out _).mono ?_
   rintro o' x100n ⟨P, rfl, h100n, b100n⟩
   refine ⟨_, rfl, ?_⟩
   have TB := hid h100n
   have TL := hid b100n.size
   have TU := hid ((Old.refl w0).drew).size
   have U100n := ((Old.refl w0).drew).trans b100n
   refine hK.out _ _ (CfB.old U100n S0.out) (fun _ => ?_)
   clear hK K
   try simp only [Act.put, puA, puB, puC]
   have UU_100 := U100n
   obtain ⟨xw_100, rfl⟩ : ∃ z, z = x100n := ⟨_, rfl⟩
   rotate_left
  all_goals first
   |refine atA [true, true, true, false, true, true, false, false, false, false] ?_
    refine rdA [3, 6] ?_
    refine AllReadyH.cons (o := oCeb6) rfl (fun K hK => ?_) (AllReadyH.cons (o := oCeb5) rfl (fun K hK => ?_) AllReadyH.nil)
    go_simp
    refine hK.out _ _ (CfB.old ((Old.refl w0).drew) S0.out) (fun _ => ?_)
    clear hK K
    try simp only [Act.put, puA, puB, puC]
    rotate_left
    refine wantCall1 ?_ 18 (.tmp 8) #[3] ?_ (.int .i64 old) ?_ ?_ ((enters_of Tryz.func18 (by kernel_rfl) rfl) _ _) ?_
    iterate 4 rfl
    refine (HS.out _).mono ?_
    rintro o' x100n ⟨P, rfl, h100n, b100n⟩
    refine ⟨_, rfl, ?_⟩
    have TB := hid h100n
    have TL := hid b100n.size
    have TU := hid ((Old.refl w0).drew).size
    have U100n := ((Old.refl w0).drew).trans b100n
    refine hK.out _ _ (CfB.old U100n S0.out) (fun _ => ?_)
    clear hK K
    try simp only [Act.put, puA, puB, puC]
    have UU_100 := U100n
    obtain ⟨xw_100, rfl⟩ : ∃ z, z = x100n := ⟨_, rfl⟩
    rotate_left
   |refine atA [true, true, false, false, true, true, true, false, false, false] ?_
    refine rdA [2] ?_
    refine AllReadyH.cons (o := oCeb4) rfl (fun K hK => ?_) AllReadyH.nil
    go_simp
    refine hK.out _ _ (CfB.old UU_100 S0.out) (fun _ => ?_)
    clear hK K
    try simp only [Act.put, puA, puB, puC]
  all_goals first
   |refine atA [true, true, true, true, true, true, false, false, false, false] ?_
    refine rdA [6] ?_
    refine AllReadyH.cons (o := oCeb5) rfl (fun K hK => ?_) AllReadyH.nil
    refine wantCall1 ?_ 18 (.tmp 8) #[3] ?_ (.int .i64 old) ?_ ?_ ((enters_of Tryz.func18 (by kernel_rfl) rfl) _ _) ?_
    iterate 4 rfl
    refine (HS.out _).mono ?_
    rintro o' x100n ⟨P, rfl, h100n, b100n⟩
    refine ⟨_, rfl, ?_⟩
    have TB := hid h100n
    have TL := hid b100n.size
    have TU := hid ((Old.refl w0).drew).size
    have U100n := ((Old.refl w0).drew).trans b100n
    refine hK.out _ _ (CfB.old U100n S0.out) (fun _ => ?_)
    clear hK K
    try simp only [Act.put, puA, puB, puC]
    have UU_100 := U100n
    obtain ⟨xw_100, rfl⟩ : ∃ z, z = x100n := ⟨_, rfl⟩
   |refine atA [true, true, true, false, true, true, true, false, false, false] ?_
    refine rdA [3] ?_
    refine AllReadyH.cons (o := oCeb6) rfl (fun K hK => ?_) AllReadyH.nil
    go_simp
    refine hK.out _ _ (CfB.old UU_100 S0.out) (fun _ => ?_)
    clear hK K
    try simp only [Act.put, puA, puB, puC]
  all_goals
   refine atA [true, true, true, true, true, true, true, false, false, false] ?_
   refine tkA (i := 7) (oi := oCeb7) (CfB.old UU_100 S0.out) ?_
   try simp only [Act.put, puA, puB, puC]
   refine rdA [8] ?_
   refine AllReadyH.cons (o := oCeb8) rfl (fun K hK => ?_) AllReadyH.nil
   refine stepBoxC ?_ (.tmp 10) ?_ (max 1 (min keep 32)) 0 0 P.t1 P.t2 P.t3 P.t4 ?_ ?_
   iterate 3 rfl
   intro m100n x100n hm100n hx100n
   have b100n : Old xw_100 x100n := by rw [hx100n]; exact (Old.refl _).alloc _
   have HC := hid (show CtAt w.heap.size m100n ⟨newC keep old, [], .slice none 0 0, P, noV⟩ x100n from by rw [hm100n, hx100n]; exact new_ct (by have := HSz.out; have := TU.out; have := HFb.out; omega) rfl TB.out TL.out)
   clear hm100n hx100n
   have U100n := UU_100.trans b100n
   refine hK.out _ _ (CfB.old U100n S0.out) (fun _ => ?_)
   clear hK K
   try simp only [Act.put, puA, puB, puC]
   have UU_100 := U100n
   obtain ⟨xw_100, rfl⟩ : ∃ z, z = x100n := ⟨_, rfl⟩
  all_goals
   refine atA [true, true, true, true, true, true, true, true, true, false] ?_
   refine rdA [9] ?_
   refine AllReadyH.cons (o := oCeb9) rfl (fun K hK => ?_) AllReadyH.nil
   go_simp
   refine hK.out _ _ (CfB.old UU_100 S0.out) (fun _ => ?_)
   clear hK K
   try simp only [Act.put, puA, puB, puC]
  all_goals
   refine atA [true, true, true, true, true, true, true, true, true, true] ?_
   refine wpAnyH_done (by kernel_rfl) ?_ _
   refine NoPanic.normal ?_
   have UZ := hid (U0.out.trans UU_100)
   go_wp2
   go_ret
   exact ⟨_, _, rfl, HC.out, UZ.out, rfl⟩
end Go.Proofs.YtgeinnaljlajoaaGreat
