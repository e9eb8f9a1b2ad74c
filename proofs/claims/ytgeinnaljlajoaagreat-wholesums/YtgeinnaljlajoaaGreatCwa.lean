/- The law WholeSums, walked; conditions: its arguments lie in memory. -/
import Derived.Test.YtgeinnaljlajoaaGreatSqa
import Derived.Test.YtgeinnaljlajoaaGreatCez
import Derived.Test.YtgeinnaljlajoaaGreatCso
namespace Go.Proofs.YtgeinnaljlajoaaGreat
abbrev oCwa0 : Oper := { dst := some 41, op := .move (.tmp 7), type := 26, pos := "top08.go:58", after := #[], guard := none }
abbrev oCwa1 : Oper := { dst := some 44, op := .fieldAddr 25 (.tmp 11) 2, type := 0, pos := "top08.go:58", after := #[], guard := none }
abbrev oCwa2 : Oper := { dst := some 42, op := .call { callee := Callee.value (.func 10), args := #[.tmp 41], argTypes := #[26] }, type := 2, pos := "top08.go:58", after := #[⟨0, .data⟩], guard := none }
abbrev oCwa3 : Oper := { dst := some 45, op := .load 2 (.tmp 44), type := 2, pos := "top08.go:58", after := #[⟨3, .data⟩], guard := none }
abbrev oCwa4 : Oper := { dst := some 43, op := .binOp .add 2 (.tmp 42) (.const (.int IntKind.i64 1)) 2, type := 2, pos := "top08.go:58", after := #[⟨1, .data⟩], guard := none }
abbrev oCwa5 : Oper := { dst := some 46, op := .binOp .add 2 (.tmp 43) (.tmp 45) 2, type := 2, pos := "top08.go:58", after := #[⟨2, .data⟩, ⟨4, .data⟩], guard := none }
abbrev oCwa6 : Oper := { dst := some 47, op := .call { callee := Callee.builtin Builtin.max, args := #[.tmp 46, .const (.int IntKind.i64 0)], argTypes := #[2, 2] }, type := 2, pos := "top08.go:58", after := #[⟨5, .data⟩], guard := none }
abbrev oCwa7 : Oper := { dst := some 48, op := .fieldAddr 25 (.tmp 11) 2, type := 0, pos := "top08.go:58", after := #[⟨0, .phase⟩, ⟨1, .phase⟩, ⟨2, .phase⟩, ⟨3, .phase⟩, ⟨4, .phase⟩, ⟨5, .phase⟩, ⟨6, .phase⟩], guard := none }
abbrev oCwa8 : Oper := { dst := none, op := .store 2 (.tmp 48) (.tmp 47), type := 0, pos := "top08.go:58", after := #[⟨7, .data⟩, ⟨6, .data⟩, ⟨1, .chain⟩, ⟨0, .phase⟩, ⟨1, .phase⟩, ⟨2, .phase⟩, ⟨3, .phase⟩, ⟨4, .phase⟩, ⟨5, .phase⟩, ⟨6, .phase⟩], guard := none }
abbrev oCwa9 : Oper := { dst := some 73, op := .move (.tmp 7), type := 26, pos := "top08.go:71", after := #[], guard := none }
abbrev oCwa10 : Oper := { dst := some 76, op := .fieldAddr 25 (.tmp 5) 2, type := 0, pos := "top08.go:71", after := #[], guard := none }
abbrev oCwa11 : Oper := { dst := some 74, op := .call { callee := Callee.value (.func 10), args := #[.tmp 73], argTypes := #[26] }, type := 2, pos := "top08.go:71", after := #[⟨0, .data⟩], guard := none }
abbrev oCwa12 : Oper := { dst := some 77, op := .load 2 (.tmp 76), type := 2, pos := "top08.go:71", after := #[⟨3, .data⟩], guard := none }
abbrev oCwa13 : Oper := { dst := some 75, op := .binOp .add 2 (.tmp 74) (.const (.int IntKind.i64 1)) 2, type := 2, pos := "top08.go:71", after := #[⟨1, .data⟩], guard := none }
abbrev oCwa14 : Oper := { dst := some 78, op := .binOp .add 2 (.tmp 75) (.tmp 77) 2, type := 2, pos := "top08.go:71", after := #[⟨2, .data⟩, ⟨4, .data⟩], guard := none }
abbrev oCwa15 : Oper := { dst := some 79, op := .call { callee := Callee.builtin Builtin.max, args := #[.tmp 78, .const (.int IntKind.i64 0)], argTypes := #[2, 2] }, type := 2, pos := "top08.go:71", after := #[⟨5, .data⟩], guard := none }
abbrev oCwa16 : Oper := { dst := some 80, op := .fieldAddr 25 (.tmp 5) 2, type := 0, pos := "top08.go:71", after := #[⟨0, .phase⟩, ⟨1, .phase⟩, ⟨2, .phase⟩, ⟨3, .phase⟩, ⟨4, .phase⟩, ⟨5, .phase⟩, ⟨6, .phase⟩], guard := none }
abbrev oCwa17 : Oper := { dst := none, op := .store 2 (.tmp 80) (.tmp 79), type := 0, pos := "top08.go:71", after := #[⟨7, .data⟩, ⟨6, .data⟩, ⟨1, .chain⟩, ⟨0, .phase⟩, ⟨1, .phase⟩, ⟨2, .phase⟩, ⟨3, .phase⟩, ⟨4, .phase⟩, ⟨5, .phase⟩, ⟨6, .phase⟩], guard := none }
abbrev oCwa18 : Oper := { dst := some 84, op := .fieldAddr 33 (.tmp 13) 0, type := 0, pos := "top08.go:74", after := #[], guard := none }
abbrev oCwa19 : Oper := { dst := some 85, op := .load 31 (.tmp 84), type := 31, pos := "top08.go:74", after := #[⟨0, .data⟩], guard := none }
abbrev oCwa20 : Oper := { dst := some 86, op := .binOp .neq 31 (.tmp 85) (.const (.int IntKind.i64 0)) 31, type := 4, pos := "top08.go:74", after := #[⟨1, .data⟩], guard := none }
abbrev oCwa21 : Oper := { dst := some 87, op := .move (.tmp 86), type := 4, pos := "top08.go:74", after := #[⟨2, .data⟩], guard := none }
abbrev oCwa22 : Oper := { dst := some 88, op := .move (.tmp 8), type := 26, pos := "top08.go:74", after := #[⟨3, .guard⟩], guard := some (3, false) }
abbrev oCwa23 : Oper := { dst := some 89, op := .load 25 (.tmp 5), type := 25, pos := "top08.go:74", after := #[⟨3, .guard⟩], guard := some (3, false) }
abbrev oCwa24 : Oper := { dst := some 91, op := .load 33 (.tmp 13), type := 33, pos := "top08.go:74", after := #[⟨3, .guard⟩], guard := some (3, false) }
abbrev oCwa25 : Oper := { dst := some 90, op := .call { callee := Callee.value (.func 8), args := #[.tmp 88, .tmp 89], argTypes := #[26, 25] }, type := 33, pos := "top08.go:74", after := #[⟨4, .data⟩, ⟨5, .data⟩, ⟨3, .chain⟩, ⟨3, .guard⟩], guard := some (3, false) }
abbrev oCwa26 : Oper := { dst := some 92, op := .binOp .eql 33 (.tmp 90) (.tmp 91) 33, type := 4, pos := "top08.go:74", after := #[⟨6, .data⟩, ⟨7, .data⟩, ⟨3, .guard⟩], guard := some (3, false) }
abbrev oCwa27 : Oper := { dst := some 93, op := .pick (.tmp 87) (.const (.bool true)) (.tmp 92), type := 4, pos := "top08.go:74", after := #[⟨3, .data⟩, ⟨8, .data⟩], guard := none }
abbrev oCwa28 : Oper := { dst := some 6, op := .assign (.tmp 93), type := 4, pos := "top08.go:74", after := #[⟨9, .data⟩, ⟨6, .chain⟩, ⟨0, .phase⟩, ⟨1, .phase⟩, ⟨2, .phase⟩, ⟨3, .phase⟩, ⟨4, .phase⟩, ⟨5, .phase⟩, ⟨6, .phase⟩, ⟨7, .phase⟩, ⟨8, .phase⟩, ⟨9, .phase⟩], guard := none }
abbrev oCwa29 : Oper := { dst := some 59, op := .move (.tmp 8), type := 26, pos := "top08.go:65", after := #[], guard := none }
abbrev oCwa30 : Oper := { dst := some 60, op := .load 25 (.tmp 11), type := 25, pos := "top08.go:65", after := #[], guard := none }
abbrev oCwa31 : Oper := { dst := some 62, op := .load 33 (.tmp 12), type := 33, pos := "top08.go:65", after := #[], guard := none }
abbrev oCwa32 : Oper := { dst := some 61, op := .call { callee := Callee.value (.func 8), args := #[.tmp 59, .tmp 60], argTypes := #[26, 25] }, type := 33, pos := "top08.go:65", after := #[⟨0, .data⟩, ⟨1, .data⟩], guard := none }
abbrev oCwa33 : Oper := { dst := some 63, op := .binOp .neq 33 (.tmp 61) (.tmp 62) 33, type := 4, pos := "top08.go:65", after := #[⟨2, .data⟩, ⟨3, .data⟩], guard := none }
open Go.RowKit Go.Lib
set_option linter.unusedVariables false
set_option linter.unusedSimpArgs false
set_option maxRecDepth 20000
attribute [local go_sem] run_bits run_frombits run_store_float eqF
theorem TwoC.chg {base cb : Nat} {G : Cg} {db : Nat} {D : Cg} {w w' : World} {S : List Nat} (h : TwoC base cb G db D w) (u : Chg S w w') (hn : ∀ x ∈ S, x ∉ mblC cb G ∧ x ∉ mblC db D ∧ (∀ k ∈ G.kn, ∀ g ∈ k.bl, g ≠ x) ∧ (∀ k ∈ D.kn, ∀ g ∈ k.bl, g ≠ x)) : TwoC base cb G db D w' :=
 ⟨h.a.chg u (fun k q z => (hn k z).1 q) (fun k q g hg z => (hn g z).2.2.1 k q g hg rfl), h.b.chg u (fun k q z => (hn k z).2.1 q) (fun k q g hg z => (hn g z).2.2.2 k q g hg rfl), h.n, h.r1, h.r2⟩
theorem TwoC.out {base cb : Nat} {G : Cg} {db : Nat} {D : Cg} {w : World} (h : TwoC base cb G db D w) {x : Nat} (hx : x < base ∨ w.heap.size ≤ x) : x ∉ mblC cb G ∧ x ∉ mblC db D ∧ (∀ k ∈ G.kn, ∀ g ∈ k.bl, g ≠ x) ∧ (∀ k ∈ D.kn, ∀ g ∈ k.bl, g ≠ x) := by
 refine ⟨fun q => ?_, fun q => ?_, fun k q g hg e => ?_, fun k q g hg e => ?_⟩
 ·have := h.a.lt _ q; omega
 ·have := h.b.lt _ q; omega
 ·subst e; have := (h.a.kk k q).lt g hg; omega
 ·subst e; have := (h.b.kk k q).lt g hg; omega
structure SmI (w : World) (b0 lb : Nat) (l : Sb) (cb : Nat) (G : Cg) (db : Nat) (E : Cg) (W : World) : Prop where
 t : TwoC b0 cb G db E W
 u : Old w W
 b : SubB' lb l.s1 l.s2 l.s3 (.slice l.a1 l.n1 l.c1) (.slice l.a2 l.n2 l.c2) (.slice l.a3 l.n3 l.c3) W
 lo : w.heap.size ≤ lb
 hi : lb < b0
theorem SmI.old {w : World} {b0 lb : Nat} {l : Sb} {cb : Nat} {G : Cg} {db : Nat} {E : Cg} {W W' : World} (h : SmI w b0 lb l cb G db E W) (u : Old W W') : SmI w b0 lb l cb G db E W' := ⟨h.t.old u, h.u.trans u, u.block h.b, h.lo, h.hi⟩
theorem SmI.swap {w : World} {b0 lb : Nat} {l : Sb} {cb : Nat} {G : Cg} {db : Nat} {E : Cg} {W : World} (h : SmI w b0 lb l cb G db E W) : SmI w b0 lb l db E cb G W := ⟨h.t.swap, h.u, h.b, h.lo, h.hi⟩
theorem SmI.own {w : World} {b0 lb : Nat} {l : Sb} {cb : Nat} {G : Cg} {db : Nat} {E : Cg} {W : World} (h : SmI w b0 lb l cb G db E W) {x : Nat} (hx : x ∉ mblC cb G ∧ x ∉ mblC db E ∧ (∀ k ∈ G.kn, ∀ g ∈ k.bl, g ≠ x) ∧ (∀ k ∈ E.kn, ∀ g ∈ k.bl, g ≠ x)) (hl : w.heap.size ≤ x) (hb : x ≠ lb) (i : Nat) (v : Value) : SmI w b0 lb l cb G db E (W.setCell ⟨x, i, none⟩ v) := by
 have ch : Chg [x] W (W.setCell ⟨x, i, none⟩ v) := Chg.set W ⟨x, i, none⟩ v (by simp)
 exact ⟨h.t.chg ch (fun y q => by simp at q; subst q; exact hx), h.u.below (ch.below w.heap.size (fun k q => by simp at q; omega) h.u.size), ch.heapAt h.b (by simp; exact fun e => hb e.symm), h.lo, h.hi⟩
theorem SmI.last {w : World} {b0 lb : Nat} {l : Sb} {cb : Nat} {G : Cg} {db : Nat} {E : Cg} {W : World} (h : SmI w b0 lb l cb G db E W) (z : Int) : SmI w b0 lb { l with s3 := z } cb G db E (W.setCell ⟨lb, 2, none⟩ (.int .i64 z)) := by
 have ch : Chg [lb] W (W.setCell ⟨lb, 2, none⟩ (.int .i64 z)) := Chg.set W ⟨lb, 2, none⟩ _ (by simp)
 have hh := h.lo
 exact ⟨h.t.chg ch (fun y q => by simp at q; subst q; exact h.t.out (.inl h.hi)), h.u.below (ch.below w.heap.size (fun k q => by simp at q; omega) h.u.size), Go.Joins.block_setCell h.b (.int .i64 z) (i := 2), h.lo, h.hi⟩
theorem SmI.dec {w : World} {b0 lb : Nat} {l : Sb} {cb : Nat} {G : Cg} {db : Nat} {E : Cg} {W : World} (h : SmI w b0 lb l cb G db E W) (s : Sb) (hs : s.Ok w) (ok : CpOk G.c) (r : Int × Int × Cp) (hr : decC G.c s.pl s.chk = r) :
    Calls Tryz.prog 8 #[.pointer (some ⟨cb, 0, none⟩), .agg #[.int .i64 s.s1, .int .i64 s.s2, .int .i64 s.s3, .slice s.a1 s.n1 s.c1, .slice s.a2 s.n2 s.c2, .slice s.a3 s.n3 s.c3]] W fun e W' => ∃ G', e = .returned (.agg #[.int .i64 r.1, .int .i64 r.2.1]) ∧ (SmI w b0 lb l cb G' db E W' ∧ G'.c = r.2.2) ∧ CMov cb W G W' G' := by
 subst hr
 have hlo := h.lo
 have hhi := h.hi
 refine (decide_any s b0 cb G W (hs.old h.u) (Sb.arg_far hs (fun k q => by have := (h.t.a.lt k q).1; omega)) h.t.a ok).mono ?_
 rintro e W' ⟨G', rfl, a, m, c, f⟩
 exact ⟨G', rfl, ⟨⟨h.t.mov a m f, m.keep' h.u (by omega) h.t.a, m.1.heapAt h.b (h.t.out (.inl h.hi)).1, h.lo, h.hi⟩, c⟩, m⟩
abbrev Sb8 (a : Nat) (s1 s2 s3 : Int) (v1 v2 v3 : Value) (b : Nat) (c n : Int) (w : World) : Prop := w.cell? ⟨a, 0, none⟩ = some (.int .i64 s1) ∧ w.cell? ⟨a, 1, none⟩ = some (.int .i64 s2) ∧ w.cell? ⟨a, 2, none⟩ = some (.int .i64 s3) ∧ w.cell? ⟨a, 3, none⟩ = some v1 ∧ w.cell? ⟨a, 4, none⟩ = some v2 ∧ w.cell? ⟨a, 5, none⟩ = some v3 ∧ w.cell? ⟨b, 0, none⟩ = some (.int .i64 c) ∧ w.cell? ⟨b, 1, none⟩ = some (.int .i64 n)
theorem sb8 {a b : Nat} {s1 s2 s3 c n : Int} {v1 v2 v3 : Value} {w : World} (h : SubB' a s1 s2 s3 v1 v2 v3 w) (k : w.heap[b]? = some (.cells #[.int .i64 c, .int .i64 n] 33 (0, 0))) : Sb8 a s1 s2 s3 v1 v2 v3 b c n w := by
 obtain ⟨⟨x0, x1, x2, x3, x4, x5⟩, -⟩ := box6F h
 obtain ⟨⟨y0, y1⟩, -⟩ := box2V k
 exact ⟨x0, x1, x2, x3, x4, x5, y0, y1⟩
theorem dec_code {D : List Kp} {c e : Cp} (h : Mor D c e) (hl : D.length ≤ 31) (u : Su) (fu : u.F) (ck : Int) (r q : Int × Int × Cp) (hr : decC c u ck = r) (hq : decC e u ck = q) : (r.1 ≠ 0 → r.2.2 = c) ∧ (r.1 = 0 → q.1 = 0 ∧ q.2.1 = r.2.1 ∧ ∃ D', D'.length = D.length + 1 ∧ Mor D' r.2.2 q.2.2) := by
 subst hr hq
 exact h.dec hl u fu ck
theorem three {P : Prop} (s : Int) (h1 : s < 0 → -50 < s → P) (h2 : s < 0 → ¬ -50 < s → P) (h3 : ¬ s < 0 → P) : P := by
 by_cases a : s < 0
 ·by_cases b : -50 < s
  ·exact h1 a b
  ·exact h2 a b
 ·exact h3 a
set_option maxHeartbeats 16000000 in
theorem sumsLaw (old : Int) (v : Value) (n : Nat) (f : Nat → Sb) (l1 l2 l3 : Int) (la1 la2 la3 : Option Addr) (ln1 ln2 ln3 lc1 lc2 lc3 : Nat) (lx1 lx3 : Nat → Nat) (lf2 : Nat → Sp) (w : World) (hr : SubRow w v n f) (hl : (⟨l1, l2, l3, la1, la2, la3, ln1, ln2, ln3, lc1, lc2, lc3, lx1, lx3, lf2⟩ : Sb).Ok w) :
    Calls Tryz.prog 4 #[.int .i64 old, v, .agg #[.int .i64 l1, .int .i64 l2, .int .i64 l3, .slice la1 ln1 lc1, .slice la2 ln2 lc2, .slice la3 ln3 lc3]] w fun e w' => e = .returned (.bool true) ∧ Old w w' := by
 obtain ⟨-, p, c, rfl, hc1, hc2, hc⟩ := hr
 have HN1 := hid (fun (W : World) => cnew_any 1 old W)
 have HN2 := hid (fun (W : World) => cnew_any 32 64 W)
 have HSo := hid (fun (W : World) => sound_any W)
 have HR := hid hc
 have OKL := hid hl
 clear hc hl
 go_enter Tryz.func4, Tryz.ntmps4
 go_upto_region 1 with fail
 have B0 := hid (alloc_at w (.cells #[.int .i64 l1, .int .i64 l2, .int .i64 l3, .slice la1 ln1 lc1, .slice la2 ln2 lc2, .slice la3 ln3 lc3] 25))
 have U0 := hid ((Old.refl w).alloc (.cells #[.int .i64 l1, .int .i64 l2, .int .i64 l3, .slice la1 ln1 lc1, .slice la2 ln2 lc2, .slice la3 ln3 lc3] 25))
 generalize w.alloc (.cells #[.int .i64 l1, .int .i64 l2, .int .i64 l3, .slice la1 ln1 lc1, .slice la2 ln2 lc2, .slice la3 ln3 lc3] 25) = w0 at *
 obtain ⟨lb, hlb⟩ : ∃ lb, w.heap.size = lb := ⟨_, rfl⟩
 have HLo := hid (show w.heap.size ≤ lb from by omega)
 rw [hlb] at B0 ⊢
 clear hlb
 have HLb := hid (show lb < w0.heap.size from heap_lt B0.out)
 go_upto_region 3 with (go_at_call 13; refine (HSo.out w0).mono ?_; rintro e w1 ⟨rfl, o1⟩; have O1 := hid o1; clear o1)
 go_upto_region 6 with (first | (go_at_call 6; refine (HN2.out w2).mono ?_; rintro e w3 ⟨db, E, rfl, h2, o3, c2⟩; have H2 := hid h2; have O3 := hid o3; have C2 := hid c2; clear h2 o3 c2) | (go_at_call 6; refine (HN1.out w1).mono ?_; rintro e w2 ⟨cb, G, rfl, h1, o2, c1⟩; have H1 := hid h1; have O2 := hid o2; have C1 := hid c1; clear h1 o2 c1))
 have KG := hid (show G.kn = [] from by have := H1.out.kp; rw [C1.out] at this; exact List.map_eq_nil_iff.1 this)
 have KE := hid (show E.kn = [] from by have := H2.out.kp; rw [C2.out] at this; exact List.map_eq_nil_iff.1 this)
 have HL := hid (show ∃ G E D, SmI w w1.heap.size lb (⟨l1, l2, l3, la1, la2, la3, ln1, ln2, ln3, lc1, lc2, lc3, lx1, lx3, lf2⟩ : Sb) cb G db E w3 ∧ Mor D G.c E.c ∧ D.length = 0 from ⟨G, E, [], ⟨TwoC.new H1.out O2.out (Old.refl w2) H2.out O3.out KG.out KE.out, U0.out.trans (O1.out.trans (O2.out.trans O3.out)), (O1.out.trans (O2.out.trans O3.out)).block B0.out, HLo.out, Nat.lt_of_lt_of_le HLb.out O1.out.size⟩, by rw [C1.out, C2.out]; exact Mor.new old, rfl⟩)
 clear B0 U0 HLo HLb O1 O2 O3 H1 H2 C1 C2 KG KE HN1 HN2 HSo
 generalize w1.heap.size = b0 at *
 go_wp2
 go_loopw [9, 29] (fun nv i wx => ∃ (k nn : Nat), k ≤ n ∧ nn ≤ 30 ∧ nv = .int .i64 (nn : Nat) ∧ i = .int .i64 (k : Nat) ∧ Hid (∃ G E D, SmI w b0 lb (⟨l1, l2, l3, la1, la2, la3, ln1, ln2, ln3, lc1, lc2, lc3, lx1, lx3, lf2⟩ : Sb) cb G db E wx ∧ Mor D G.c E.c ∧ D.length = nn)) (fun _ i _ => n - (intOf i).toNat)
 case atStart => exact ⟨0, 0, Nat.zero_le _, Nat.zero_le _, rfl, rfl, HL⟩
 case round =>
  clear HL
  obtain ⟨k, nn, hk, hnn, rfl, rfl, HI⟩ := hrel
  obtain ⟨G, E, DD, hS, hM, hDl⟩ := HI.out
  have H0 := hid hS
  have HM := hid hM
  have HDl := hid hDl
  have OkG := hid hM.v.ok
  have HNn := hid hnn
  clear HI hS hM hDl
  by_cases hlt : k < n
  ·obtain ⟨g, off, rfl, hin, hok⟩ := HR.out k hlt
   obtain ⟨q0, q1, q2, q3, q4, q5⟩ := hin.old H0.out.u
   have OKS := hid hok
   clear hin hok HR
   generalize f k = s at *
   obtain ⟨s1, s2, s3, sa1, sa2, sa3, sn1, sn2, sn3, sc1, sc2, sc3, sx1, sx3, sf2⟩ := s
   dsimp only at q0 q1 q2 q3 q4 q5
   have l1' : (0 : Int) ≤ (k : Int) := by omega
   have l2' : (k : Int) < (n : Int) := by omega
   go_upto_region 10 with fail
   clear q0 q1 q2 q3 q4 q5
   have T3 := hid (H0.out.old ((Old.refl wr).alloc (.cells #[.int .i64 s1, .int .i64 s2, .int .i64 s3, .slice sa1 sn1 sc1, .slice sa2 sn2 sc2, .slice sa3 sn3 sc3] 25)))
   have A3 := hid (show SubB' wr.heap.size s1 s2 s3 (.slice sa1 sn1 sc1) (.slice sa2 sn2 sc2) (.slice sa3 sn3 sc3) (wr.alloc (.cells #[.int .i64 s1, .int .i64 s2, .int .i64 s3, .slice sa1 sn1 sc1, .slice sa2 sn2 sc2, .slice sa3 sn3 sc3] 25)) from alloc_at wr _)
   have NA := hid (H0.out.t.out (x := wr.heap.size) (.inr (Nat.le_refl _)))
   have NL := hid (show w.heap.size ≤ wr.heap.size ∧ wr.heap.size ≠ lb from ⟨H0.out.u.size, fun e => by have := heap_lt H0.out.b; omega⟩)
   clear H0
   generalize wr.alloc (.cells #[.int .i64 s1, .int .i64 s2, .int .i64 s3, .slice sa1 sn1 sc1, .slice sa2 sn2 sc2, .slice sa3 sn3 sc3] 25) = w3 at *
   generalize wr.heap.size = ab at *
   have HCo := hid (fun (W : World) (u : Old w3 W) => show Calls Tryz.prog 10 #[.pointer (some ⟨cb, 0, none⟩)] W fun e w' => e = .returned (.int .i64 G.c.cnt) ∧ Old W w' from (count_any b0 cb G W (T3.out.t.a.old u)).mono fun e w' q => ⟨q.1, q.2 ▸ Old.refl W⟩)
   have hc0 := OkG.out.n1
   have hc3 := OkG.out.n2
   obtain ⟨cn, hcn⟩ : ∃ cn : Int, G.c.cnt = cn := ⟨_, rfl⟩
   rw [hcn] at HCo hc0 hc3
   clear hcn
   obtain ⟨⟨y0, y1, y2, y3, y4, y5⟩, -⟩ := box6F A3.out
   refine three s3 (fun ha hb => ?_) (fun ha hb => ?_) (fun ha => ?_)
   rotate_left
   focus
    have d1 : decide (s3 < 0) = true := by simp [ha]
    have d2 : decide (-50 < s3) = false := by simp; omega
    have d3 : decide (s3 > -50) = false := by simp; omega
    go_upto_region 12 with fail
    clear y0 y1 y2 y3 y4 y5 HCo
    obtain ⟨z, hz⟩ : ∃ z, z = s3 := ⟨_, rfl⟩
    have A4 := hid (show SubB' ab s1 s2 z (.slice sa1 sn1 sc1) (.slice sa2 sn2 sc2) (.slice sa3 sn3 sc3) w3 from hz ▸ A3.out)
    have T4 := T3
    clear hc0 hc3 hz d1 d2 d3 ha hb
    obtain ⟨w4, rfl⟩ : ∃ z, z = w3 := ⟨_, rfl⟩
   rotate_left
   focus
    have d1 : decide (s3 < 0) = false := by simp; omega
    go_upto_region 12 with fail
    clear y0 y1 y2 y3 y4 y5 HCo
    obtain ⟨z, hz⟩ : ∃ z, z = s3 := ⟨_, rfl⟩
    have A4 := hid (show SubB' ab s1 s2 z (.slice sa1 sn1 sc1) (.slice sa2 sn2 sc2) (.slice sa3 sn3 sc3) w3 from hz ▸ A3.out)
    have T4 := T3
    clear hc0 hc3 hz d1 ha
    obtain ⟨w4, rfl⟩ : ∃ z, z = w3 := ⟨_, rfl⟩
   rotate_left
   focus
    have d1 : decide (s3 < 0) = true := by simp [ha]
    have d2 : decide (-50 < s3) = true := by simp [hb]
    have d3 : decide (s3 > -50) = true := by simp; omega
    obtain ⟨z, hz⟩ : ∃ z, max (IntKind.i64.wrap (IntKind.i64.wrap (cn + 1) + s3)) 0 = z := ⟨_, rfl⟩
    go_upto_region 11 with fail
    clear y0 y1 y2 y3 y4 y5
    focus
     refine wp_region_noPanic ?_
     refine wp_region_held_drew (S := fun _ => True) (by kernel_rfl) ?_ (fun hHeld => ?_)
     ·exact trivial
     try simp only [Act.put, puA, puB, puC]
     clear hHeld
     all_goals
      refine atA [false, false, false, false, false, false, false, false, false] ?_
      refine tkA (i := 0) (oi := oCwa0) trivial ?_
      try simp only [Act.put, puA, puB, puC]
      refine tkA (i := 3) (oi := oCwa1) trivial ?_
      try simp only [Act.put, puA, puB, puC]
      refine rdA [1, 4] ?_
      refine AllReadyH.cons (o := oCwa2) rfl (fun K hK => ?_) (AllReadyH.cons (o := oCwa3) rfl (fun K hK => ?_) AllReadyH.nil)
      refine wantCall1 ?_ 10 (.tmp 41) #[26] ?_ (.pointer (some ⟨cb, 0, none⟩)) ?_ ?_ ((enters_of Tryz.func10 (by kernel_rfl) rfl) _ _) ?_
      iterate 4 rfl
      refine (HCo.out _ ((Old.refl w3).drew)).mono ?_
      rintro o x100n ⟨rfl, b100n⟩
      refine ⟨_, rfl, ?_⟩
      have U100n := ((Old.refl w3).drew).trans b100n
      refine hK.out _ _ trivial (fun _ => ?_)
      clear hK K
      try simp only [Act.put, puA, puB, puC]
      have UU_100 := U100n
      obtain ⟨xw_100, rfl⟩ : ∃ z, z = x100n := ⟨_, rfl⟩
      rotate_left
      refine Vx.stepLoadN ?_ (.tmp 44) ?_ ab 2 s3 ?_ (box6F (((Old.refl w3).drew).block A3.out)).1.2.2.1 ?_
      iterate 3 rfl
      refine hK.out _ _ trivial (fun _ => ?_)
      clear hK K
      try simp only [Act.put, puA, puB, puC]
      rotate_left
     all_goals first
      |refine atA [true, true, false, true, false, false, false, false, false] ?_
       refine tkA (i := 2) (oi := oCwa4) trivial ?_
       try simp only [Act.put, puA, puB, puC]
       refine rdA [4] ?_
       refine AllReadyH.cons (o := oCwa3) rfl (fun K hK => ?_) AllReadyH.nil
       refine Vx.stepLoadN ?_ (.tmp 44) ?_ ab 2 s3 ?_ (box6F (UU_100.block A3.out)).1.2.2.1 ?_
       iterate 3 rfl
       refine hK.out _ _ trivial (fun _ => ?_)
       clear hK K
       try simp only [Act.put, puA, puB, puC]
      |refine atA [true, false, false, true, true, false, false, false, false] ?_
       refine rdA [1] ?_
       refine AllReadyH.cons (o := oCwa2) rfl (fun K hK => ?_) AllReadyH.nil
       refine wantCall1 ?_ 10 (.tmp 41) #[26] ?_ (.pointer (some ⟨cb, 0, none⟩)) ?_ ?_ ((enters_of Tryz.func10 (by kernel_rfl) rfl) _ _) ?_
       iterate 4 rfl
       refine (HCo.out _ ((Old.refl w3).drew)).mono ?_
       rintro o x100n ⟨rfl, b100n⟩
       refine ⟨_, rfl, ?_⟩
       have U100n := ((Old.refl w3).drew).trans b100n
       refine hK.out _ _ trivial (fun _ => ?_)
       clear hK K
       try simp only [Act.put, puA, puB, puC]
       have UU_100 := U100n
       obtain ⟨xw_100, rfl⟩ : ∃ z, z = x100n := ⟨_, rfl⟩
     all_goals first
      |refine atA [true, true, true, true, true, false, false, false, false] ?_
       refine tkA (i := 5) (oi := oCwa5) trivial ?_
       try simp only [Act.put, puA, puB, puC]
       refine tkA (i := 6) (oi := oCwa6) trivial ?_
       try simp only [Act.put, puA, puB, puC]
       refine tkA (i := 7) (oi := oCwa7) trivial ?_
       try simp only [Act.put, puA, puB, puC]
       refine rdA [8] ?_
       refine AllReadyH.cons (o := oCwa8) rfl (fun K hK => ?_) AllReadyH.nil
       refine Vx.stepStoreN ?_ (.tmp 48) (.tmp 47) ?_ ab 2 z ?_ ?_ (box6F (UU_100.block A3.out)).1.2.2.1 ((box6F (UU_100.block A3.out)).2 2) ?_
       iterate 4 rfl
       refine hK.out _ _ trivial (fun _ => ?_)
       clear hK K
       try simp only [Act.put, puA, puB, puC]
      |refine atA [true, true, false, true, true, false, false, false, false] ?_
       refine tkA (i := 2) (oi := oCwa4) trivial ?_
       try simp only [Act.put, puA, puB, puC]
       refine tkA (i := 5) (oi := oCwa5) trivial ?_
       try simp only [Act.put, puA, puB, puC]
       refine tkA (i := 6) (oi := oCwa6) trivial ?_
       try simp only [Act.put, puA, puB, puC]
       refine tkA (i := 7) (oi := oCwa7) trivial ?_
       try simp only [Act.put, puA, puB, puC]
       refine rdA [8] ?_
       refine AllReadyH.cons (o := oCwa8) rfl (fun K hK => ?_) AllReadyH.nil
       refine Vx.stepStoreN ?_ (.tmp 48) (.tmp 47) ?_ ab 2 z ?_ ?_ (box6F (UU_100.block A3.out)).1.2.2.1 ((box6F (UU_100.block A3.out)).2 2) ?_
       iterate 4 rfl
       refine hK.out _ _ trivial (fun _ => ?_)
       clear hK K
       try simp only [Act.put, puA, puB, puC]
     all_goals
      refine atA [true, true, true, true, true, true, true, true, true] ?_
      refine wpAnyH_done (by kernel_rfl) ?_ _
      refine NoPanic.normal ?_
      have A4 := hid (show SubB' ab s1 s2 z (.slice sa1 sn1 sc1) (.slice sa2 sn2 sc2) (.slice sa3 sn3 sc3) (xw_100.setCell ⟨ab, 2, none⟩ (.int .i64 z)) from Go.Joins.block_setCell (UU_100.block A3.out) (.int .i64 z) (i := 2))
      have T4 := hid ((T3.out.old UU_100).own NA.out NL.out.1 NL.out.2 2 (.int .i64 z))
      clear hc0 hc3 hz d1 d2 d3 ha hb HCo
      generalize xw_100.setCell ⟨ab, 2, none⟩ (.int .i64 z) = w4 at *
   all_goals clear A3
   all_goals
    by_cases h30 : nn = 30
    ·have d1 : decide ((nn : Int) ≥ 30) = true := by simp; omega
     have d2 : decide ((30 : Int) ≤ (nn : Int)) = true := by simp; omega
     go_upto_region 19 with fail
     clear A4 NA NL OKS d1 d2 h30
     have A3 := hid T4.out.b
     have T3 := T4
     have OKS := OKL
     clear T4 OKL
     obtain ⟨w3, rfl⟩ : ∃ z, z = w4 := ⟨_, rfl⟩
     have HCo := hid (fun (W : World) (u : Old w3 W) => show Calls Tryz.prog 10 #[.pointer (some ⟨cb, 0, none⟩)] W fun e w' => e = .returned (.int .i64 G.c.cnt) ∧ Old W w' from (count_any b0 cb G W (T3.out.t.a.old u)).mono fun e w' q => ⟨q.1, q.2 ▸ Old.refl W⟩)
     have hc0 := OkG.out.n1
     have hc3 := OkG.out.n2
     obtain ⟨cn, hcn⟩ : ∃ cn : Int, G.c.cnt = cn := ⟨_, rfl⟩
     rw [hcn] at HCo hc0 hc3
     clear hcn
     obtain ⟨⟨y0, y1, y2, y3, y4, y5⟩, -⟩ := box6F A3.out
     refine three l3 (fun ha hb => ?_) (fun ha hb => ?_) (fun ha => ?_)
     rotate_left
     focus
      have d1 : decide (l3 < 0) = true := by simp [ha]
      have d2 : decide (-50 < l3) = false := by simp; omega
      have d3 : decide (l3 > -50) = false := by simp; omega
      go_upto_region 21 with fail
      clear y0 y1 y2 y3 y4 y5 HCo
      obtain ⟨z, hz⟩ : ∃ z, z = l3 := ⟨_, rfl⟩
      have A4 := hid (show SubB' lb l1 l2 z (.slice la1 ln1 lc1) (.slice la2 ln2 lc2) (.slice la3 ln3 lc3) w3 from hz ▸ A3.out)
      have T4 := hid (show SmI w b0 lb (⟨l1, l2, z, la1, la2, la3, ln1, ln2, ln3, lc1, lc2, lc3, lx1, lx3, lf2⟩ : Sb) cb G db E w3 from hz ▸ T3.out)
      clear hc0 hc3 hz d1 d2 d3 ha hb
      obtain ⟨w4, rfl⟩ : ∃ z, z = w3 := ⟨_, rfl⟩
     rotate_left
     focus
      have d1 : decide (l3 < 0) = false := by simp; omega
      go_upto_region 21 with fail
      clear y0 y1 y2 y3 y4 y5 HCo
      obtain ⟨z, hz⟩ : ∃ z, z = l3 := ⟨_, rfl⟩
      have A4 := hid (show SubB' lb l1 l2 z (.slice la1 ln1 lc1) (.slice la2 ln2 lc2) (.slice la3 ln3 lc3) w3 from hz ▸ A3.out)
      have T4 := hid (show SmI w b0 lb (⟨l1, l2, z, la1, la2, la3, ln1, ln2, ln3, lc1, lc2, lc3, lx1, lx3, lf2⟩ : Sb) cb G db E w3 from hz ▸ T3.out)
      clear hc0 hc3 hz d1 ha
      obtain ⟨w4, rfl⟩ : ∃ z, z = w3 := ⟨_, rfl⟩
     rotate_left
     focus
      have d1 : decide (l3 < 0) = true := by simp [ha]
      have d2 : decide (-50 < l3) = true := by simp [hb]
      have d3 : decide (l3 > -50) = true := by simp; omega
      obtain ⟨z, hz⟩ : ∃ z, max (IntKind.i64.wrap (IntKind.i64.wrap (cn + 1) + l3)) 0 = z := ⟨_, rfl⟩
      go_upto_region 20 with fail
      clear y0 y1 y2 y3 y4 y5
      focus
       refine wp_region_noPanic ?_
       refine wp_region_held_drew (S := fun _ => True) (by kernel_rfl) ?_ (fun hHeld => ?_)
       ·exact trivial
       try simp only [Act.put, puA, puB, puC]
       clear hHeld
       all_goals
        refine atA [false, false, false, false, false, false, false, false, false] ?_
        refine tkA (i := 0) (oi := oCwa9) trivial ?_
        try simp only [Act.put, puA, puB, puC]
        refine tkA (i := 3) (oi := oCwa10) trivial ?_
        try simp only [Act.put, puA, puB, puC]
        refine rdA [1, 4] ?_
        refine AllReadyH.cons (o := oCwa11) rfl (fun K hK => ?_) (AllReadyH.cons (o := oCwa12) rfl (fun K hK => ?_) AllReadyH.nil)
        refine wantCall1 ?_ 10 (.tmp 73) #[26] ?_ (.pointer (some ⟨cb, 0, none⟩)) ?_ ?_ ((enters_of Tryz.func10 (by kernel_rfl) rfl) _ _) ?_
        iterate 4 rfl
        refine (HCo.out _ ((Old.refl w3).drew)).mono ?_
        rintro o x200n ⟨rfl, b200n⟩
        refine ⟨_, rfl, ?_⟩
        have U200n := ((Old.refl w3).drew).trans b200n
        refine hK.out _ _ trivial (fun _ => ?_)
        clear hK K
        try simp only [Act.put, puA, puB, puC]
        have UU_200 := U200n
        obtain ⟨xw_200, rfl⟩ : ∃ z, z = x200n := ⟨_, rfl⟩
        rotate_left
        refine Vx.stepLoadN ?_ (.tmp 76) ?_ lb 2 l3 ?_ (box6F (((Old.refl w3).drew).block A3.out)).1.2.2.1 ?_
        iterate 3 rfl
        refine hK.out _ _ trivial (fun _ => ?_)
        clear hK K
        try simp only [Act.put, puA, puB, puC]
        rotate_left
       all_goals first
        |refine atA [true, true, false, true, false, false, false, false, false] ?_
         refine tkA (i := 2) (oi := oCwa13) trivial ?_
         try simp only [Act.put, puA, puB, puC]
         refine rdA [4] ?_
         refine AllReadyH.cons (o := oCwa12) rfl (fun K hK => ?_) AllReadyH.nil
         refine Vx.stepLoadN ?_ (.tmp 76) ?_ lb 2 l3 ?_ (box6F (UU_200.block A3.out)).1.2.2.1 ?_
         iterate 3 rfl
         refine hK.out _ _ trivial (fun _ => ?_)
         clear hK K
         try simp only [Act.put, puA, puB, puC]
        |refine atA [true, false, false, true, true, false, false, false, false] ?_
         refine rdA [1] ?_
         refine AllReadyH.cons (o := oCwa11) rfl (fun K hK => ?_) AllReadyH.nil
         refine wantCall1 ?_ 10 (.tmp 73) #[26] ?_ (.pointer (some ⟨cb, 0, none⟩)) ?_ ?_ ((enters_of Tryz.func10 (by kernel_rfl) rfl) _ _) ?_
         iterate 4 rfl
         refine (HCo.out _ ((Old.refl w3).drew)).mono ?_
         rintro o x200n ⟨rfl, b200n⟩
         refine ⟨_, rfl, ?_⟩
         have U200n := ((Old.refl w3).drew).trans b200n
         refine hK.out _ _ trivial (fun _ => ?_)
         clear hK K
         try simp only [Act.put, puA, puB, puC]
         have UU_200 := U200n
         obtain ⟨xw_200, rfl⟩ : ∃ z, z = x200n := ⟨_, rfl⟩
       all_goals first
        |refine atA [true, true, true, true, true, false, false, false, false] ?_
         refine tkA (i := 5) (oi := oCwa14) trivial ?_
         try simp only [Act.put, puA, puB, puC]
         refine tkA (i := 6) (oi := oCwa15) trivial ?_
         try simp only [Act.put, puA, puB, puC]
         refine tkA (i := 7) (oi := oCwa16) trivial ?_
         try simp only [Act.put, puA, puB, puC]
         refine rdA [8] ?_
         refine AllReadyH.cons (o := oCwa17) rfl (fun K hK => ?_) AllReadyH.nil
         refine Vx.stepStoreN ?_ (.tmp 80) (.tmp 79) ?_ lb 2 z ?_ ?_ (box6F (UU_200.block A3.out)).1.2.2.1 ((box6F (UU_200.block A3.out)).2 2) ?_
         iterate 4 rfl
         refine hK.out _ _ trivial (fun _ => ?_)
         clear hK K
         try simp only [Act.put, puA, puB, puC]
        |refine atA [true, true, false, true, true, false, false, false, false] ?_
         refine tkA (i := 2) (oi := oCwa13) trivial ?_
         try simp only [Act.put, puA, puB, puC]
         refine tkA (i := 5) (oi := oCwa14) trivial ?_
         try simp only [Act.put, puA, puB, puC]
         refine tkA (i := 6) (oi := oCwa15) trivial ?_
         try simp only [Act.put, puA, puB, puC]
         refine tkA (i := 7) (oi := oCwa16) trivial ?_
         try simp only [Act.put, puA, puB, puC]
         refine rdA [8] ?_
         refine AllReadyH.cons (o := oCwa17) rfl (fun K hK => ?_) AllReadyH.nil
         refine Vx.stepStoreN ?_ (.tmp 80) (.tmp 79) ?_ lb 2 z ?_ ?_ (box6F (UU_200.block A3.out)).1.2.2.1 ((box6F (UU_200.block A3.out)).2 2) ?_
         iterate 4 rfl
         refine hK.out _ _ trivial (fun _ => ?_)
         clear hK K
         try simp only [Act.put, puA, puB, puC]
       all_goals
        refine atA [true, true, true, true, true, true, true, true, true] ?_
        refine wpAnyH_done (by kernel_rfl) ?_ _
        refine NoPanic.normal ?_
        have A4 := hid (show SubB' lb l1 l2 z (.slice la1 ln1 lc1) (.slice la2 ln2 lc2) (.slice la3 ln3 lc3) (xw_200.setCell ⟨lb, 2, none⟩ (.int .i64 z)) from Go.Joins.block_setCell (UU_200.block A3.out) (.int .i64 z) (i := 2))
        have T4 := hid (show SmI w b0 lb (⟨l1, l2, z, la1, la2, la3, ln1, ln2, ln3, lc1, lc2, lc3, lx1, lx3, lf2⟩ : Sb) cb G db E (xw_200.setCell ⟨lb, 2, none⟩ (.int .i64 z)) from (T3.out.old UU_200).last z)
        clear hc0 hc3 hz d1 d2 d3 ha hb HCo
        generalize xw_200.setCell ⟨lb, 2, none⟩ (.int .i64 z) = w4 at *
     all_goals clear A3 T3
     all_goals
      have OK2 := hid (show Sb.Ok (⟨l1, l2, z, la1, la2, la3, ln1, ln2, ln3, lc1, lc2, lc3, lx1, lx3, lf2⟩ : Sb) w from ⟨OKS.out.h1, OKS.out.h2, OKS.out.h3, OKS.out.b1, OKS.out.b2, OKS.out.b3⟩)
      obtain ⟨UU, hUU⟩ : ∃ UU, Sb.pl (⟨l1, l2, z, la1, la2, la3, ln1, ln2, ln3, lc1, lc2, lc3, lx1, lx3, lf2⟩ : Sb) = UU := ⟨_, rfl⟩
      have HFU := hid (show UU.F from hUU ▸ Sb.plF OK2.out)
      obtain ⟨ck, hck⟩ : ∃ ck, Sb.chk (⟨l1, l2, z, la1, la2, la3, ln1, ln2, ln3, lc1, lc2, lc3, lx1, lx3, lf2⟩ : Sb) = ck := ⟨_, rfl⟩
      obtain ⟨rr, hrr⟩ : ∃ rr, decC G.c UU ck = rr := ⟨_, rfl⟩
      obtain ⟨qq, hqq⟩ : ∃ qq, decC E.c UU ck = qq := ⟨_, rfl⟩
      have HDec := hid (dec_code HM.out (by have := HDl.out; have := HNn.out; omega) UU HFU.out ck rr qq hrr hqq)
      have DC := hid (T4.out.dec (⟨l1, l2, z, la1, la2, la3, ln1, ln2, ln3, lc1, lc2, lc3, lx1, lx3, lf2⟩ : Sb) OK2.out OkG.out rr (by rw [hUU, hck]; exact hrr))
      have DM := hid (fun (W : World) (Gx : Cg) (h : SmI w b0 lb (⟨l1, l2, z, la1, la2, la3, ln1, ln2, ln3, lc1, lc2, lc3, lx1, lx3, lf2⟩ : Sb) cb Gx db E W) => h.swap.dec (⟨l1, l2, z, la1, la2, la3, ln1, ln2, ln3, lc1, lc2, lc3, lx1, lx3, lf2⟩ : Sb) OK2.out HM.out.ok qq (by rw [hUU, hck]; exact hqq))
      clear hrr hqq hUU hck HFU OK2
      obtain ⟨rc, rn, rp⟩ := rr
      obtain ⟨qc, qn, qp⟩ := qq
      dsimp only at DC DM HDec
      obtain ⟨⟨y0, y1, y2, y3, y4, y5⟩, -⟩ := box6F A4.out
      go_upto_region 22 with (go_at_call 8; refine DC.out.mono ?_; rintro e w7 ⟨G7, rfl, ⟨t7, c7⟩, m7⟩; have T7 := hid t7; have G7c := hid c7; have A7 := hid (t7.b); clear t7 c7 m7)
      clear y0 y1 y2 y3 y4 y5 DC A4 T4
      have T8 := hid (T7.out.old ((Old.refl w7).alloc (.cells #[.int .i64 rc, .int .i64 rn] 33)))
      have A8 := hid (((Old.refl w7).alloc (.cells #[.int .i64 rc, .int .i64 rn] 33)).block A7.out)
      have X8 := hid (alloc_at w7 (.cells #[.int .i64 rc, .int .i64 rn] 33))
      have NX := hid (T7.out.t.out (x := w7.heap.size) (.inr (Nat.le_refl _))).2.1
      clear T7 A7
      generalize w7.alloc (.cells #[.int .i64 rc, .int .i64 rn] 33) = w8 at *
      generalize w7.heap.size = xb at *
      obtain ⟨⟨v0, v1⟩, -⟩ := box2V X8.out
      by_cases hz : rc = 0
      ·subst hz
       obtain ⟨e1, e2, D2, hD2, hM2⟩ := HDec.out.2 rfl
       have e3 := e2.symm
       subst e3 e1
       have HM2 := hid hM2
       have HD2 := hid hD2
       clear HDec e2 hM2 hD2
       have HDM := hid (fun (W : World) (u : Old w8 W) => (DM.out W G7 (T8.out.old u)).mono (show ∀ e W', _ → ∃ E', e = .returned (.agg #[.int .i64 0, .int .i64 rn]) ∧ (SmI w b0 lb (⟨l1, l2, z, la1, la2, la3, ln1, ln2, ln3, lc1, lc2, lc3, lx1, lx3, lf2⟩ : Sb) db E' cb G7 W' ∧ E'.c = qp) ∧ Sb8 lb l1 l2 z (.slice la1 ln1 lc1) (.slice la2 ln2 lc2) (.slice la3 ln3 lc3) xb 0 rn W' from by rintro e W' ⟨E', rfl, t, m⟩; exact ⟨E', rfl, t, sb8 (m.1.heapAt (u.block A8.out) (T8.out.t.out (.inl T8.out.hi)).2.1) (m.1.heapAt (u.block X8.out) NX.out)⟩))
       have S9 := hid (show Sb8 lb l1 l2 z (.slice la1 ln1 lc1) (.slice la2 ln2 lc2) (.slice la3 ln3 lc3) xb 0 rn w8.drew from sb8 (((Old.refl w8).drew).block A8.out) (((Old.refl w8).drew).block X8.out))
       clear DM A8 X8
       refine wp_region_noPanic ?_
       refine wp_region_held_drew (S := Sb8 lb l1 l2 z (.slice la1 ln1 lc1) (.slice la2 ln2 lc2) (.slice la3 ln3 lc3) xb 0 rn) (by kernel_rfl) ?_ (fun hHeld => ?_)
       ·exact S9.out
       try simp only [Act.put, puA, puB, puC]
       clear hHeld
       refine tkA (i := 0) (oi := oCwa18) S9.out ?_
       try simp only [Act.put, puA, puB, puC]
       refine tkA (i := 1) (oi := oCwa19) S9.out ?_
       try simp only [Act.put, puA, puB, puC]
       refine tkA (i := 2) (oi := oCwa20) S9.out ?_
       try simp only [Act.put, puA, puB, puC]
       refine tkA (i := 3) (oi := oCwa21) S9.out ?_
       try simp only [Act.put, puA, puB, puC]
       refine tkA (i := 4) (oi := oCwa22) S9.out ?_
       try simp only [Act.put, puA, puB, puC]
       refine tkA (i := 5) (oi := oCwa23) S9.out ?_
       try simp only [Act.put, puA, puB, puC]
       refine tkA (i := 7) (oi := oCwa24) S9.out ?_
       try simp only [Act.put, puA, puB, puC]
       refine rdB 6 oCwa25 fun K hK => ?_
       refine wantCall2 ?_ 8 (.tmp 88) (.tmp 89) #[26, 25] ?_ (.pointer (some ⟨db, 0, none⟩)) (.agg #[.int .i64 l1, .int .i64 l2, .int .i64 z, .slice la1 ln1 lc1, .slice la2 ln2 lc2, .slice la3 ln3 lc3]) ?_ ?_ ?_ ((enters_of Tryz.func8 (by kernel_rfl) rfl) _ _) ?_
       iterate 5 rfl
       refine (HDM.out _ ((Old.refl w8).drew)).mono ?_
       rintro o x8 ⟨E8, rfl, q8⟩
       refine ⟨_, rfl, ?_⟩
       refine hK.out _ _ q8.2 (fun _ => ?_)
       clear hK K
       try simp only [Act.put, puA, puB, puC]
       refine tkA (i := 8) (oi := oCwa26) q8.2 ?_
       try simp only [Act.put, puA, puB, puC]
       refine tkA (i := 9) (oi := oCwa27) q8.2 ?_
       try simp only [Act.put, puA, puB, puC]
       refine rdB 10 oCwa28 fun K hK => ?_
       go_simp
       refine hK.out _ _ q8.2 (fun _ => ?_)
       clear hK K
       try simp only [Act.put, puA, puB, puC]
       refine wpAnyH_done (by kernel_rfl) ?_ _
       refine NoPanic.normal ?_
       have Q9 := hid q8.1
       generalize x8 = w9 at *
       generalize E8 = E9 at *
       go_wp2
       go_ret
       exact ⟨rfl, Q9.out.1.u⟩
      ·have d1 : (rc != 0) = true := by simp [hz]
       have d2 : (rc == 0) = false := by simp [hz]
       have S9 := hid (show Sb8 lb l1 l2 z (.slice la1 ln1 lc1) (.slice la2 ln2 lc2) (.slice la3 ln3 lc3) xb rc rn w8.drew from sb8 (((Old.refl w8).drew).block A8.out) (((Old.refl w8).drew).block X8.out))
       have T9 := hid (T8.out.old ((Old.refl w8).drew))
       refine wp_region_noPanic ?_
       refine wp_region_held_drew (S := Sb8 lb l1 l2 z (.slice la1 ln1 lc1) (.slice la2 ln2 lc2) (.slice la3 ln3 lc3) xb rc rn) (by kernel_rfl) ?_ (fun hHeld => ?_)
       ·exact S9.out
       try simp only [Act.put, puA, puB, puC]
       clear hHeld
       refine tkA (i := 0) (oi := oCwa18) S9.out ?_
       try simp only [Act.put, puA, puB, puC]
       refine tkA (i := 1) (oi := oCwa19) S9.out ?_
       try simp only [Act.put, puA, puB, puC]
       refine tkA (i := 2) (oi := oCwa20) S9.out ?_
       try simp only [Act.put, puA, puB, puC]
       refine tkA (i := 3) (oi := oCwa21) S9.out ?_
       try simp only [Act.put, puA, puB, puC]
       refine wpAnyH_take (i := 4) (oi := oCwa22) (v := undef) rfl (by kernel_rfl) (by kernel_rfl) (by kernel_rfl) (fun _ _ _ h => h) (Or.inr ⟨by rfl, rfl⟩) S9.out ?_
       try simp only [Act.put, puA, puB, puC]
       refine wpAnyH_take (i := 5) (oi := oCwa23) (v := undef) rfl (by kernel_rfl) (by kernel_rfl) (by kernel_rfl) (fun _ _ _ h => h) (Or.inr ⟨by rfl, rfl⟩) S9.out ?_
       try simp only [Act.put, puA, puB, puC]
       refine wpAnyH_take (i := 6) (oi := oCwa25) (v := undef) rfl (by kernel_rfl) (by kernel_rfl) (by kernel_rfl) (fun _ _ _ h => h) (Or.inr ⟨by rfl, rfl⟩) S9.out ?_
       try simp only [Act.put, puA, puB, puC]
       refine wpAnyH_take (i := 7) (oi := oCwa24) (v := undef) rfl (by kernel_rfl) (by kernel_rfl) (by kernel_rfl) (fun _ _ _ h => h) (Or.inr ⟨by rfl, rfl⟩) S9.out ?_
       try simp only [Act.put, puA, puB, puC]
       refine wpAnyH_take (i := 8) (oi := oCwa26) (v := undef) rfl (by kernel_rfl) (by kernel_rfl) (by kernel_rfl) (fun _ _ _ h => h) (Or.inr ⟨by rfl, rfl⟩) S9.out ?_
       try simp only [Act.put, puA, puB, puC]
       refine tkA (i := 9) (oi := oCwa27) S9.out ?_
       try simp only [Act.put, puA, puB, puC]
       refine rdB 10 oCwa28 fun K hK => ?_
       go_simp
       refine hK.out _ _ S9.out (fun _ => ?_)
       clear hK K
       try simp only [Act.put, puA, puB, puC]
       refine wpAnyH_done (by kernel_rfl) ?_ _
       refine NoPanic.normal ?_
       go_wp2
       go_ret
       exact ⟨rfl, T9.out.u⟩
    ·have d1 : decide ((nn : Int) ≥ 30) = false := by simp; omega
     have d2 : decide ((30 : Int) ≤ (nn : Int)) = false := by simp; omega
     go_upto_region 13 with fail
     clear d1 d2
     have OK2 := hid (show Sb.Ok (⟨s1, s2, z, sa1, sa2, sa3, sn1, sn2, sn3, sc1, sc2, sc3, sx1, sx3, sf2⟩ : Sb) w from ⟨OKS.out.h1, OKS.out.h2, OKS.out.h3, OKS.out.b1, OKS.out.b2, OKS.out.b3⟩)
     obtain ⟨UU, hUU⟩ : ∃ UU, Sb.pl (⟨s1, s2, z, sa1, sa2, sa3, sn1, sn2, sn3, sc1, sc2, sc3, sx1, sx3, sf2⟩ : Sb) = UU := ⟨_, rfl⟩
     have HFU := hid (show UU.F from hUU ▸ Sb.plF OK2.out)
     obtain ⟨ck, hck⟩ : ∃ ck, Sb.chk (⟨s1, s2, z, sa1, sa2, sa3, sn1, sn2, sn3, sc1, sc2, sc3, sx1, sx3, sf2⟩ : Sb) = ck := ⟨_, rfl⟩
     obtain ⟨rr, hrr⟩ : ∃ rr, decC G.c UU ck = rr := ⟨_, rfl⟩
     obtain ⟨qq, hqq⟩ : ∃ qq, decC E.c UU ck = qq := ⟨_, rfl⟩
     have HDec := hid (dec_code HM.out (by have := HDl.out; have := HNn.out; omega) UU HFU.out ck rr qq hrr hqq)
     have DC := hid (T4.out.dec (⟨s1, s2, z, sa1, sa2, sa3, sn1, sn2, sn3, sc1, sc2, sc3, sx1, sx3, sf2⟩ : Sb) OK2.out OkG.out rr (by rw [hUU, hck]; exact hrr))
     have DM := hid (fun (W : World) (Gx : Cg) (h : SmI w b0 lb (⟨l1, l2, l3, la1, la2, la3, ln1, ln2, ln3, lc1, lc2, lc3, lx1, lx3, lf2⟩ : Sb) cb Gx db E W) => h.swap.dec (⟨s1, s2, z, sa1, sa2, sa3, sn1, sn2, sn3, sc1, sc2, sc3, sx1, sx3, sf2⟩ : Sb) OK2.out HM.out.ok qq (by rw [hUU, hck]; exact hqq))
     clear hrr hqq hUU hck HFU OK2
     obtain ⟨rc, rn, rp⟩ := rr
     obtain ⟨qc, qn, qp⟩ := qq
     dsimp only at DC DM HDec
     obtain ⟨⟨y0, y1, y2, y3, y4, y5⟩, -⟩ := box6F A4.out
     go_upto_region 14 with (go_at_call 8; refine DC.out.mono ?_; rintro e w7 ⟨G7, rfl, ⟨t7, c7⟩, m7⟩; have T7 := hid t7; have G7c := hid c7; have A7 := hid (m7.1.heapAt A4.out NA.out.1); clear t7 c7 m7)
     clear y0 y1 y2 y3 y4 y5 DC A4 T4
     have T8 := hid (T7.out.old ((Old.refl w7).alloc (.cells #[.int .i64 rc, .int .i64 rn] 33)))
     have A8 := hid (((Old.refl w7).alloc (.cells #[.int .i64 rc, .int .i64 rn] 33)).block A7.out)
     have X8 := hid (alloc_at w7 (.cells #[.int .i64 rc, .int .i64 rn] 33))
     have NX := hid (T7.out.t.out (x := w7.heap.size) (.inr (Nat.le_refl _))).2.1
     clear T7 A7
     generalize w7.alloc (.cells #[.int .i64 rc, .int .i64 rn] 33) = w8 at *
     generalize w7.heap.size = xb at *
     obtain ⟨⟨v0, v1⟩, -⟩ := box2V X8.out
     by_cases hz : rc = 0
     ·subst hz
      go_upto_region 16 with fail
      obtain ⟨e1, e2, D2, hD2, hM2⟩ := HDec.out.2 rfl
      have e3 := e2.symm
      subst e3 e1
      have HM2 := hid hM2
      have HD2 := hid hD2
      clear HDec e2 hM2 hD2
      have HDM := hid (fun (W : World) (u : Old w8 W) => (DM.out W G7 (T8.out.old u)).mono (show ∀ e W', _ → ∃ E', e = .returned (.agg #[.int .i64 0, .int .i64 rn]) ∧ (SmI w b0 lb (⟨l1, l2, l3, la1, la2, la3, ln1, ln2, ln3, lc1, lc2, lc3, lx1, lx3, lf2⟩ : Sb) db E' cb G7 W' ∧ E'.c = qp) ∧ Sb8 ab s1 s2 z (.slice sa1 sn1 sc1) (.slice sa2 sn2 sc2) (.slice sa3 sn3 sc3) xb 0 rn W' from by rintro e W' ⟨E', rfl, t, m⟩; exact ⟨E', rfl, t, sb8 (m.1.heapAt (u.block A8.out) NA.out.2.1) (m.1.heapAt (u.block X8.out) NX.out)⟩))
      have S9 := hid (show Sb8 ab s1 s2 z (.slice sa1 sn1 sc1) (.slice sa2 sn2 sc2) (.slice sa3 sn3 sc3) xb 0 rn w8.drew from sb8 (((Old.refl w8).drew).block A8.out) (((Old.refl w8).drew).block X8.out))
      clear DM A8 X8
      refine wp_region_noPanic ?_
      refine wp_region_held_drew (S := Sb8 ab s1 s2 z (.slice sa1 sn1 sc1) (.slice sa2 sn2 sc2) (.slice sa3 sn3 sc3) xb 0 rn) (by kernel_rfl) ?_ (fun hHeld => ?_)
      ·exact S9.out
      try simp only [Act.put, puA, puB, puC]
      clear hHeld
      refine tkA (i := 0) (oi := oCwa29) S9.out ?_
      try simp only [Act.put, puA, puB, puC]
      refine tkA (i := 1) (oi := oCwa30) S9.out ?_
      try simp only [Act.put, puA, puB, puC]
      refine tkA (i := 3) (oi := oCwa31) S9.out ?_
      try simp only [Act.put, puA, puB, puC]
      refine rdB 2 oCwa32 fun K hK => ?_
      refine wantCall2 ?_ 8 (.tmp 59) (.tmp 60) #[26, 25] ?_ (.pointer (some ⟨db, 0, none⟩)) (.agg #[.int .i64 s1, .int .i64 s2, .int .i64 z, .slice sa1 sn1 sc1, .slice sa2 sn2 sc2, .slice sa3 sn3 sc3]) ?_ ?_ ?_ ((enters_of Tryz.func8 (by kernel_rfl) rfl) _ _) ?_
      iterate 5 rfl
      refine (HDM.out _ ((Old.refl w8).drew)).mono ?_
      rintro o x19 ⟨E19, rfl, q19⟩
      refine ⟨_, rfl, ?_⟩
      refine hK.out _ _ q19.2 (fun _ => ?_)
      clear hK K
      try simp only [Act.put, puA, puB, puC]
      refine tkA (i := 4) (oi := oCwa33) q19.2 ?_
      try simp only [Act.put, puA, puB, puC]
      refine wpAnyH_done (by kernel_rfl) ?_ _
      refine NoPanic.normal ?_
      have Q9 := hid q19.1
      generalize x19 = w9 at *
      generalize E19 = E9 at *
      go_wp2
      go_roundw
      case rel =>
       refine ⟨k + 1, nn + 1, hlt, by omega, by go_num, by go_num, hid ⟨G7, E9, D2, Q9.out.1.swap, ?_, by rw [HD2.out, HDl.out]⟩⟩
       rw [G7c.out, Q9.out.2]
       exact HM2.out
      case measure => simp [intOf]; omega
     ·have HGG := hid (HDec.out.1 hz)
      have d1 : (rc == 0) = false := by simp [hz]
      clear HDec DM
      go_wp2
      go_roundw
      case rel =>
       refine ⟨k + 1, nn, hlt, hnn, rfl, by go_num, hid ⟨G7, E, DD, T8.out, ?_, HDl.out⟩⟩
       rw [G7c.out, HGG.out]
       exact HM.out
      case measure => simp [intOf]; omega
  ·obtain rfl : k = n := by omega
   clear HR hlt
   go_upto_region 19 with fail
   have A3 := hid H0.out.b
   have T3 := H0
   have OKS := OKL
   clear H0 OKL
   obtain ⟨w3, rfl⟩ : ∃ z, z = wr := ⟨_, rfl⟩
   have HCo := hid (fun (W : World) (u : Old w3 W) => show Calls Tryz.prog 10 #[.pointer (some ⟨cb, 0, none⟩)] W fun e w' => e = .returned (.int .i64 G.c.cnt) ∧ Old W w' from (count_any b0 cb G W (T3.out.t.a.old u)).mono fun e w' q => ⟨q.1, q.2 ▸ Old.refl W⟩)
   have hc0 := OkG.out.n1
   have hc3 := OkG.out.n2
   obtain ⟨cn, hcn⟩ : ∃ cn : Int, G.c.cnt = cn := ⟨_, rfl⟩
   rw [hcn] at HCo hc0 hc3
   clear hcn
   obtain ⟨⟨y0, y1, y2, y3, y4, y5⟩, -⟩ := box6F A3.out
   refine three l3 (fun ha hb => ?_) (fun ha hb => ?_) (fun ha => ?_)
   rotate_left
   focus
    have d1 : decide (l3 < 0) = true := by simp [ha]
    have d2 : decide (-50 < l3) = false := by simp; omega
    have d3 : decide (l3 > -50) = false := by simp; omega
    go_upto_region 21 with fail
    clear y0 y1 y2 y3 y4 y5 HCo
    obtain ⟨z, hz⟩ : ∃ z, z = l3 := ⟨_, rfl⟩
    have A4 := hid (show SubB' lb l1 l2 z (.slice la1 ln1 lc1) (.slice la2 ln2 lc2) (.slice la3 ln3 lc3) w3 from hz ▸ A3.out)
    have T4 := hid (show SmI w b0 lb (⟨l1, l2, z, la1, la2, la3, ln1, ln2, ln3, lc1, lc2, lc3, lx1, lx3, lf2⟩ : Sb) cb G db E w3 from hz ▸ T3.out)
    clear hc0 hc3 hz d1 d2 d3 ha hb
    obtain ⟨w4, rfl⟩ : ∃ z, z = w3 := ⟨_, rfl⟩
   rotate_left
   focus
    have d1 : decide (l3 < 0) = false := by simp; omega
    go_upto_region 21 with fail
    clear y0 y1 y2 y3 y4 y5 HCo
    obtain ⟨z, hz⟩ : ∃ z, z = l3 := ⟨_, rfl⟩
    have A4 := hid (show SubB' lb l1 l2 z (.slice la1 ln1 lc1) (.slice la2 ln2 lc2) (.slice la3 ln3 lc3) w3 from hz ▸ A3.out)
    have T4 := hid (show SmI w b0 lb (⟨l1, l2, z, la1, la2, la3, ln1, ln2, ln3, lc1, lc2, lc3, lx1, lx3, lf2⟩ : Sb) cb G db E w3 from hz ▸ T3.out)
    clear hc0 hc3 hz d1 ha
    obtain ⟨w4, rfl⟩ : ∃ z, z = w3 := ⟨_, rfl⟩
   rotate_left
   focus
    have d1 : decide (l3 < 0) = true := by simp [ha]
    have d2 : decide (-50 < l3) = true := by simp [hb]
    have d3 : decide (l3 > -50) = true := by simp; omega
    obtain ⟨z, hz⟩ : ∃ z, max (IntKind.i64.wrap (IntKind.i64.wrap (cn + 1) + l3)) 0 = z := ⟨_, rfl⟩
    go_upto_region 20 with fail
    clear y0 y1 y2 y3 y4 y5
    focus
     refine wp_region_noPanic ?_
     refine wp_region_held_drew (S := fun _ => True) (by kernel_rfl) ?_ (fun hHeld => ?_)
     ·exact trivial
     try simp only [Act.put, puA, puB, puC]
     clear hHeld
     all_goals
      refine atA [false, false, false, false, false, false, false, false, false] ?_
      refine tkA (i := 0) (oi := oCwa9) trivial ?_
      try simp only [Act.put, puA, puB, puC]
      refine tkA (i := 3) (oi := oCwa10) trivial ?_
      try simp only [Act.put, puA, puB, puC]
      refine rdA [1, 4] ?_
      refine AllReadyH.cons (o := oCwa11) rfl (fun K hK => ?_) (AllReadyH.cons (o := oCwa12) rfl (fun K hK => ?_) AllReadyH.nil)
      refine wantCall1 ?_ 10 (.tmp 73) #[26] ?_ (.pointer (some ⟨cb, 0, none⟩)) ?_ ?_ ((enters_of Tryz.func10 (by kernel_rfl) rfl) _ _) ?_
      iterate 4 rfl
      refine (HCo.out _ ((Old.refl w3).drew)).mono ?_
      rintro o x300n ⟨rfl, b300n⟩
      refine ⟨_, rfl, ?_⟩
      have U300n := ((Old.refl w3).drew).trans b300n
      refine hK.out _ _ trivial (fun _ => ?_)
      clear hK K
      try simp only [Act.put, puA, puB, puC]
      have UU_300 := U300n
      obtain ⟨xw_300, rfl⟩ : ∃ z, z = x300n := ⟨_, rfl⟩
      rotate_left
      refine Vx.stepLoadN ?_ (.tmp 76) ?_ lb 2 l3 ?_ (box6F (((Old.refl w3).drew).block A3.out)).1.2.2.1 ?_
      iterate 3 rfl
      refine hK.out _ _ trivial (fun _ => ?_)
      clear hK K
      try simp only [Act.put, puA, puB, puC]
      rotate_left
     all_goals first
      |refine atA [true, true, false, true, false, false, false, false, false] ?_
       refine tkA (i := 2) (oi := oCwa13) trivial ?_
       try simp only [Act.put, puA, puB, puC]
       refine rdA [4] ?_
       refine AllReadyH.cons (o := oCwa12) rfl (fun K hK => ?_) AllReadyH.nil
       refine Vx.stepLoadN ?_ (.tmp 76) ?_ lb 2 l3 ?_ (box6F (UU_300.block A3.out)).1.2.2.1 ?_
       iterate 3 rfl
       refine hK.out _ _ trivial (fun _ => ?_)
       clear hK K
       try simp only [Act.put, puA, puB, puC]
      |refine atA [true, false, false, true, true, false, false, false, false] ?_
       refine rdA [1] ?_
       refine AllReadyH.cons (o := oCwa11) rfl (fun K hK => ?_) AllReadyH.nil
       refine wantCall1 ?_ 10 (.tmp 73) #[26] ?_ (.pointer (some ⟨cb, 0, none⟩)) ?_ ?_ ((enters_of Tryz.func10 (by kernel_rfl) rfl) _ _) ?_
       iterate 4 rfl
       refine (HCo.out _ ((Old.refl w3).drew)).mono ?_
       rintro o x300n ⟨rfl, b300n⟩
       refine ⟨_, rfl, ?_⟩
       have U300n := ((Old.refl w3).drew).trans b300n
       refine hK.out _ _ trivial (fun _ => ?_)
       clear hK K
       try simp only [Act.put, puA, puB, puC]
       have UU_300 := U300n
       obtain ⟨xw_300, rfl⟩ : ∃ z, z = x300n := ⟨_, rfl⟩
     all_goals first
      |refine atA [true, true, true, true, true, false, false, false, false] ?_
       refine tkA (i := 5) (oi := oCwa14) trivial ?_
       try simp only [Act.put, puA, puB, puC]
       refine tkA (i := 6) (oi := oCwa15) trivial ?_
       try simp only [Act.put, puA, puB, puC]
       refine tkA (i := 7) (oi := oCwa16) trivial ?_
       try simp only [Act.put, puA, puB, puC]
       refine rdA [8] ?_
       refine AllReadyH.cons (o := oCwa17) rfl (fun K hK => ?_) AllReadyH.nil
       refine Vx.stepStoreN ?_ (.tmp 80) (.tmp 79) ?_ lb 2 z ?_ ?_ (box6F (UU_300.block A3.out)).1.2.2.1 ((box6F (UU_300.block A3.out)).2 2) ?_
       iterate 4 rfl
       refine hK.out _ _ trivial (fun _ => ?_)
       clear hK K
       try simp only [Act.put, puA, puB, puC]
      |refine atA [true, true, false, true, true, false, false, false, false] ?_
       refine tkA (i := 2) (oi := oCwa13) trivial ?_
       try simp only [Act.put, puA, puB, puC]
       refine tkA (i := 5) (oi := oCwa14) trivial ?_
       try simp only [Act.put, puA, puB, puC]
       refine tkA (i := 6) (oi := oCwa15) trivial ?_
       try simp only [Act.put, puA, puB, puC]
       refine tkA (i := 7) (oi := oCwa16) trivial ?_
       try simp only [Act.put, puA, puB, puC]
       refine rdA [8] ?_
       refine AllReadyH.cons (o := oCwa17) rfl (fun K hK => ?_) AllReadyH.nil
       refine Vx.stepStoreN ?_ (.tmp 80) (.tmp 79) ?_ lb 2 z ?_ ?_ (box6F (UU_300.block A3.out)).1.2.2.1 ((box6F (UU_300.block A3.out)).2 2) ?_
       iterate 4 rfl
       refine hK.out _ _ trivial (fun _ => ?_)
       clear hK K
       try simp only [Act.put, puA, puB, puC]
     all_goals
      refine atA [true, true, true, true, true, true, true, true, true] ?_
      refine wpAnyH_done (by kernel_rfl) ?_ _
      refine NoPanic.normal ?_
      have A4 := hid (show SubB' lb l1 l2 z (.slice la1 ln1 lc1) (.slice la2 ln2 lc2) (.slice la3 ln3 lc3) (xw_300.setCell ⟨lb, 2, none⟩ (.int .i64 z)) from Go.Joins.block_setCell (UU_300.block A3.out) (.int .i64 z) (i := 2))
      have T4 := hid (show SmI w b0 lb (⟨l1, l2, z, la1, la2, la3, ln1, ln2, ln3, lc1, lc2, lc3, lx1, lx3, lf2⟩ : Sb) cb G db E (xw_300.setCell ⟨lb, 2, none⟩ (.int .i64 z)) from (T3.out.old UU_300).last z)
      clear hc0 hc3 hz d1 d2 d3 ha hb HCo
      generalize xw_300.setCell ⟨lb, 2, none⟩ (.int .i64 z) = w4 at *
   all_goals clear A3 T3
   all_goals
    have OK2 := hid (show Sb.Ok (⟨l1, l2, z, la1, la2, la3, ln1, ln2, ln3, lc1, lc2, lc3, lx1, lx3, lf2⟩ : Sb) w from ⟨OKS.out.h1, OKS.out.h2, OKS.out.h3, OKS.out.b1, OKS.out.b2, OKS.out.b3⟩)
    obtain ⟨UU, hUU⟩ : ∃ UU, Sb.pl (⟨l1, l2, z, la1, la2, la3, ln1, ln2, ln3, lc1, lc2, lc3, lx1, lx3, lf2⟩ : Sb) = UU := ⟨_, rfl⟩
    have HFU := hid (show UU.F from hUU ▸ Sb.plF OK2.out)
    obtain ⟨ck, hck⟩ : ∃ ck, Sb.chk (⟨l1, l2, z, la1, la2, la3, ln1, ln2, ln3, lc1, lc2, lc3, lx1, lx3, lf2⟩ : Sb) = ck := ⟨_, rfl⟩
    obtain ⟨rr, hrr⟩ : ∃ rr, decC G.c UU ck = rr := ⟨_, rfl⟩
    obtain ⟨qq, hqq⟩ : ∃ qq, decC E.c UU ck = qq := ⟨_, rfl⟩
    have HDec := hid (dec_code HM.out (by have := HDl.out; have := HNn.out; omega) UU HFU.out ck rr qq hrr hqq)
    have DC := hid (T4.out.dec (⟨l1, l2, z, la1, la2, la3, ln1, ln2, ln3, lc1, lc2, lc3, lx1, lx3, lf2⟩ : Sb) OK2.out OkG.out rr (by rw [hUU, hck]; exact hrr))
    have DM := hid (fun (W : World) (Gx : Cg) (h : SmI w b0 lb (⟨l1, l2, z, la1, la2, la3, ln1, ln2, ln3, lc1, lc2, lc3, lx1, lx3, lf2⟩ : Sb) cb Gx db E W) => h.swap.dec (⟨l1, l2, z, la1, la2, la3, ln1, ln2, ln3, lc1, lc2, lc3, lx1, lx3, lf2⟩ : Sb) OK2.out HM.out.ok qq (by rw [hUU, hck]; exact hqq))
    clear hrr hqq hUU hck HFU OK2
    obtain ⟨rc, rn, rp⟩ := rr
    obtain ⟨qc, qn, qp⟩ := qq
    dsimp only at DC DM HDec
    obtain ⟨⟨y0, y1, y2, y3, y4, y5⟩, -⟩ := box6F A4.out
    go_upto_region 22 with (go_at_call 8; refine DC.out.mono ?_; rintro e w7 ⟨G7, rfl, ⟨t7, c7⟩, m7⟩; have T7 := hid t7; have G7c := hid c7; have A7 := hid (t7.b); clear t7 c7 m7)
    clear y0 y1 y2 y3 y4 y5 DC A4 T4
    have T8 := hid (T7.out.old ((Old.refl w7).alloc (.cells #[.int .i64 rc, .int .i64 rn] 33)))
    have A8 := hid (((Old.refl w7).alloc (.cells #[.int .i64 rc, .int .i64 rn] 33)).block A7.out)
    have X8 := hid (alloc_at w7 (.cells #[.int .i64 rc, .int .i64 rn] 33))
    have NX := hid (T7.out.t.out (x := w7.heap.size) (.inr (Nat.le_refl _))).2.1
    clear T7 A7
    generalize w7.alloc (.cells #[.int .i64 rc, .int .i64 rn] 33) = w8 at *
    generalize w7.heap.size = xb at *
    obtain ⟨⟨v0, v1⟩, -⟩ := box2V X8.out
    by_cases hz : rc = 0
    ·subst hz
     obtain ⟨e1, e2, D2, hD2, hM2⟩ := HDec.out.2 rfl
     have e3 := e2.symm
     subst e3 e1
     have HM2 := hid hM2
     have HD2 := hid hD2
     clear HDec e2 hM2 hD2
     have HDM := hid (fun (W : World) (u : Old w8 W) => (DM.out W G7 (T8.out.old u)).mono (show ∀ e W', _ → ∃ E', e = .returned (.agg #[.int .i64 0, .int .i64 rn]) ∧ (SmI w b0 lb (⟨l1, l2, z, la1, la2, la3, ln1, ln2, ln3, lc1, lc2, lc3, lx1, lx3, lf2⟩ : Sb) db E' cb G7 W' ∧ E'.c = qp) ∧ Sb8 lb l1 l2 z (.slice la1 ln1 lc1) (.slice la2 ln2 lc2) (.slice la3 ln3 lc3) xb 0 rn W' from by rintro e W' ⟨E', rfl, t, m⟩; exact ⟨E', rfl, t, sb8 (m.1.heapAt (u.block A8.out) (T8.out.t.out (.inl T8.out.hi)).2.1) (m.1.heapAt (u.block X8.out) NX.out)⟩))
     have S9 := hid (show Sb8 lb l1 l2 z (.slice la1 ln1 lc1) (.slice la2 ln2 lc2) (.slice la3 ln3 lc3) xb 0 rn w8.drew from sb8 (((Old.refl w8).drew).block A8.out) (((Old.refl w8).drew).block X8.out))
     clear DM A8 X8
     refine wp_region_noPanic ?_
     refine wp_region_held_drew (S := Sb8 lb l1 l2 z (.slice la1 ln1 lc1) (.slice la2 ln2 lc2) (.slice la3 ln3 lc3) xb 0 rn) (by kernel_rfl) ?_ (fun hHeld => ?_)
     ·exact S9.out
     try simp only [Act.put, puA, puB, puC]
     clear hHeld
     refine tkA (i := 0) (oi := oCwa18) S9.out ?_
     try simp only [Act.put, puA, puB, puC]
     refine tkA (i := 1) (oi := oCwa19) S9.out ?_
     try simp only [Act.put, puA, puB, puC]
     refine tkA (i := 2) (oi := oCwa20) S9.out ?_
     try simp only [Act.put, puA, puB, puC]
     refine tkA (i := 3) (oi := oCwa21) S9.out ?_
     try simp only [Act.put, puA, puB, puC]
     refine tkA (i := 4) (oi := oCwa22) S9.out ?_
     try simp only [Act.put, puA, puB, puC]
     refine tkA (i := 5) (oi := oCwa23) S9.out ?_
     try simp only [Act.put, puA, puB, puC]
     refine tkA (i := 7) (oi := oCwa24) S9.out ?_
     try simp only [Act.put, puA, puB, puC]
     refine rdB 6 oCwa25 fun K hK => ?_
     refine wantCall2 ?_ 8 (.tmp 88) (.tmp 89) #[26, 25] ?_ (.pointer (some ⟨db, 0, none⟩)) (.agg #[.int .i64 l1, .int .i64 l2, .int .i64 z, .slice la1 ln1 lc1, .slice la2 ln2 lc2, .slice la3 ln3 lc3]) ?_ ?_ ?_ ((enters_of Tryz.func8 (by kernel_rfl) rfl) _ _) ?_
     iterate 5 rfl
     refine (HDM.out _ ((Old.refl w8).drew)).mono ?_
     rintro o x28 ⟨E28, rfl, q28⟩
     refine ⟨_, rfl, ?_⟩
     refine hK.out _ _ q28.2 (fun _ => ?_)
     clear hK K
     try simp only [Act.put, puA, puB, puC]
     refine tkA (i := 8) (oi := oCwa26) q28.2 ?_
     try simp only [Act.put, puA, puB, puC]
     refine tkA (i := 9) (oi := oCwa27) q28.2 ?_
     try simp only [Act.put, puA, puB, puC]
     refine rdB 10 oCwa28 fun K hK => ?_
     go_simp
     refine hK.out _ _ q28.2 (fun _ => ?_)
     clear hK K
     try simp only [Act.put, puA, puB, puC]
     refine wpAnyH_done (by kernel_rfl) ?_ _
     refine NoPanic.normal ?_
     have Q9 := hid q28.1
     generalize x28 = w9 at *
     generalize E28 = E9 at *
     go_wp2
     go_ret
     exact ⟨rfl, Q9.out.1.u⟩
    ·have d1 : (rc != 0) = true := by simp [hz]
     have d2 : (rc == 0) = false := by simp [hz]
     have S9 := hid (show Sb8 lb l1 l2 z (.slice la1 ln1 lc1) (.slice la2 ln2 lc2) (.slice la3 ln3 lc3) xb rc rn w8.drew from sb8 (((Old.refl w8).drew).block A8.out) (((Old.refl w8).drew).block X8.out))
     have T9 := hid (T8.out.old ((Old.refl w8).drew))
     refine wp_region_noPanic ?_
     refine wp_region_held_drew (S := Sb8 lb l1 l2 z (.slice la1 ln1 lc1) (.slice la2 ln2 lc2) (.slice la3 ln3 lc3) xb rc rn) (by kernel_rfl) ?_ (fun hHeld => ?_)
     ·exact S9.out
     try simp only [Act.put, puA, puB, puC]
     clear hHeld
     refine tkA (i := 0) (oi := oCwa18) S9.out ?_
     try simp only [Act.put, puA, puB, puC]
     refine tkA (i := 1) (oi := oCwa19) S9.out ?_
     try simp only [Act.put, puA, puB, puC]
     refine tkA (i := 2) (oi := oCwa20) S9.out ?_
     try simp only [Act.put, puA, puB, puC]
     refine tkA (i := 3) (oi := oCwa21) S9.out ?_
     try simp only [Act.put, puA, puB, puC]
     refine wpAnyH_take (i := 4) (oi := oCwa22) (v := undef) rfl (by kernel_rfl) (by kernel_rfl) (by kernel_rfl) (fun _ _ _ h => h) (Or.inr ⟨by rfl, rfl⟩) S9.out ?_
     try simp only [Act.put, puA, puB, puC]
     refine wpAnyH_take (i := 5) (oi := oCwa23) (v := undef) rfl (by kernel_rfl) (by kernel_rfl) (by kernel_rfl) (fun _ _ _ h => h) (Or.inr ⟨by rfl, rfl⟩) S9.out ?_
     try simp only [Act.put, puA, puB, puC]
     refine wpAnyH_take (i := 6) (oi := oCwa25) (v := undef) rfl (by kernel_rfl) (by kernel_rfl) (by kernel_rfl) (fun _ _ _ h => h) (Or.inr ⟨by rfl, rfl⟩) S9.out ?_
     try simp only [Act.put, puA, puB, puC]
     refine wpAnyH_take (i := 7) (oi := oCwa24) (v := undef) rfl (by kernel_rfl) (by kernel_rfl) (by kernel_rfl) (fun _ _ _ h => h) (Or.inr ⟨by rfl, rfl⟩) S9.out ?_
     try simp only [Act.put, puA, puB, puC]
     refine wpAnyH_take (i := 8) (oi := oCwa26) (v := undef) rfl (by kernel_rfl) (by kernel_rfl) (by kernel_rfl) (fun _ _ _ h => h) (Or.inr ⟨by rfl, rfl⟩) S9.out ?_
     try simp only [Act.put, puA, puB, puC]
     refine tkA (i := 9) (oi := oCwa27) S9.out ?_
     try simp only [Act.put, puA, puB, puC]
     refine rdB 10 oCwa28 fun K hK => ?_
     go_simp
     refine hK.out _ _ S9.out (fun _ => ?_)
     clear hK K
     try simp only [Act.put, puA, puB, puC]
     refine wpAnyH_done (by kernel_rfl) ?_ _
     refine NoPanic.normal ?_
     go_wp2
     go_ret
     exact ⟨rfl, T9.out.u⟩
end Go.Proofs.YtgeinnaljlajoaaGreat
