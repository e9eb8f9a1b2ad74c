/- The law DiskPlays' walk; no condition. -/
import Derived.Test.YtibeeamenhcngaaR5i
namespace Go.Proofs.Ytibeeamenhcngaa
open Go.RowKit Go.Lib Go.ChangeShapes Go.WideShapes
set_option linter.unusedVariables false
set_option linter.unusedSimpArgs false
set_option maxRecDepth 20000
theorem Dsk.swap {w0 W W' : World} {db : Nat} {p : PD} {A : List Nat} (h : Dsk w0 W db p A) (u : Old W W') (B : List Nat) (hB : ∀ g ∈ B, g < W'.heap.size ∧ (g ∈ A ∨ W.heap.size ≤ g)) : Dsk w0 W' db p B := by
  obtain ⟨d, h1, h2, h3, h4, h5, h6⟩ := h
  refine ⟨d, h1, h2, h3.old u, h4, h5.trans u, fun g hg => ⟨fun e => ?_, (hB g hg).1⟩⟩
  rcases (hB g hg).2 with z | z
  · exact (h6 g z).1 e
  · have := h3.lt g e; omega
/-- The program's disk, and the document's in its variable. -/
structure PA (w0 W : World) (db gm : Nat) (p : PD) (a : Option Addr) (n c : Nat) (Y : List Fi) (dn : Bool) (fu : Int) : Prop where
  disk : Dsk w0 W db p (gm :: docB (.slice a n c) Y)
  len : n = Y.length
  box : W.heap[gm]? = some (.cells #[.slice a n c, .bool dn, .int .i64 fu] 45 (0, 0))
  doc : DocAt W (.slice a n c) Y
  rel : RelD p (Y.map Fi.p) dn fu
  low : w0.heap.size ≤ gm
theorem PA.old {w0 W W' : World} {db gm : Nat} {p : PD} {a : Option Addr} {n c : Nat} {Y : List Fi} {dn : Bool} {fu : Int} (h : PA w0 W db gm p a n c Y dn fu) (u : Old W W') : PA w0 W' db gm p a n c Y dn fu := ⟨h.disk.old u, h.len, u.block h.box, h.doc.old u, h.rel, h.low⟩
theorem PA.few {w0 W : World} {db gm : Nat} {p : PD} {a : Option Addr} {n c : Nat} {Y : List Fi} {dn : Bool} {fu : Int} (h : PA w0 W db gm p a n c Y dn fu) : Y.length ≤ 256 := by
  have h1 := h.disk.few
  have h2 := h.rel.perm.length_eq
  rw [List.length_map] at h2
  omega
theorem PA.nod {w0 W : World} {db gm : Nat} {p : PD} {a : Option Addr} {n c : Nat} {Y : List Fi} {dn : Bool} {fu : Int} (h : PA w0 W db gm p a n c Y dn fu) : ((Y.map Fi.p).map (·.1)).Nodup := ((h.rel.perm.map _).nodup_iff).2 h.disk.nod
/-- The disk has turned, the document's has not. -/
theorem PA.mid {w0 W W' : World} {db gm : Nat} {p p' : PD} {a : Option Addr} {n c : Nat} {Y : List Fi} {dn : Bool} {fu : Int} {A : List Nat} (h : PA w0 W db gm p a n c Y dn fu) (hA : ∀ g ∈ gm :: docB (.slice a n c) Y, g ∈ A) (hD : Dsk w0 W' db p' A) (k : Kp A W W') : Dsk w0 W' db p' (gm :: docB (.slice a n c) Y) ∧ W'.heap[gm]? = some (.cells #[.slice a n c, .bool dn, .int .i64 fu] 45 (0, 0)) ∧ DocAt W' (.slice a n c) Y :=
  ⟨hD.less hA, by rw [k.2 gm (hA gm (by simp)) (heap_lt h.box)]; exact h.box, h.doc.kp k (fun g hg => hA g (List.mem_cons_of_mem _ hg))⟩
/-- The document's new disk is put into its variable. -/
theorem PA.put {w0 W W' : World} {db gm : Nat} {p : PD} {B : List Nat} {a : Option Addr} {c : Nat} {Z : List Fi} {dn : Bool} {fu : Int} {cs : Array Value} (hD : Dsk w0 W db p (gm :: B)) (u : Old W W') (hb : W'.heap[gm]? = some (.cells cs 45 (0, 0))) (hw : ∃ x y z, cs = #[x, y, z]) (hZ : DocAt W' (.slice a Z.length c) Z) (hB : ∀ g ∈ docB (.slice a Z.length c) Z, g ∈ B ∨ W.heap.size ≤ g) (hr : RelD p (Z.map Fi.p) dn fu) (hl : w0.heap.size ≤ gm) : PA w0 (((W'.setCell ⟨gm, 0, none⟩ (.slice a Z.length c)).setCell ⟨gm, 1, none⟩ (.bool dn)).setCell ⟨gm, 2, none⟩ (.int .i64 fu)) db gm p a Z.length c Z dn fu := by
  obtain ⟨x, y, z, rfl⟩ := hw
  have h1 : Dsk w0 W' db p (gm :: docB (.slice a Z.length c) Z) := hD.swap u _ (fun g hg => by
    rcases List.mem_cons.1 hg with e | e
    · rw [e]; exact ⟨heap_lt hb, .inl (by simp)⟩
    · refine ⟨hZ.lt g e, ?_⟩
      rcases hB g e with q | q
      · exact .inl (List.mem_cons_of_mem _ q)
      · exact .inr q)
  exact ⟨h1.wr (chg3 W' gm _ _ _) (fun g hg => by simp at hg; rw [hg]; exact ⟨by simp, hl⟩), rfl, box3_set hb, hZ.chgT (chg3 W' gm _ _ _) hb, hr, hl⟩
theorem RelD.fail {p : PD} {F : PFs} {dn : Bool} {fu : Int} (h : RelD p F dn fu) (n : Int) (hn : n ≤ 9223372036854775807) : RelD { p with fail := max 0 n } F dn (max n 0) := ⟨h.perm, h.rise, h.down, fun _ => by rw [Int.max_comm], by omega, by omega⟩
theorem box6 {w : World} {b : Nat} {x0 x1 x2 x3 x4 x5 : Value} {T : TypeId} (h : w.heap[b]? = some (.cells #[x0, x1, x2, x3, x4, x5] T (0, 0))) : w.cell? ⟨b, 0, none⟩ = some x0 ∧ w.cell? ⟨b, 1, none⟩ = some x1 ∧ w.cell? ⟨b, 2, none⟩ = some x2 ∧ w.cell? ⟨b, 3, none⟩ = some x3 ∧ w.cell? ⟨b, 4, none⟩ = some x4 ∧ w.cell? ⟨b, 5, none⟩ = some x5 :=
  ⟨by rw [Go.Joins.cell_of_block h]; rfl, by rw [Go.Joins.cell_of_block h]; rfl, by rw [Go.Joins.cell_of_block h]; rfl, by rw [Go.Joins.cell_of_block h]; rfl, by rw [Go.Joins.cell_of_block h]; rfl, by rw [Go.Joins.cell_of_block h]; rfl⟩
set_option maxHeartbeats 8000000 in
set_option maxRecDepth 20000 in
theorem playsLaw (v0 : Value) (n : Nat) (f : Nat → Opd) (w : World) (h0 : ODRow w v0 n f) : Calls Try.prog 4 #[v0] w fun e w' => e = .returned (.bool true) ∧ Old w w' := by
  obtain ⟨hnm, pa, ca, rfl, hnc, hops⟩ := h0
  have HO := hid hops
  clear hops
  go_enter Try.func4, Try.ntmps4
  go_upto_region 4 with (first | (go_at_call 5; refine (newD w _ (Old.refl _)).mono ?_; rintro e w1 ⟨db, rfl, dd1, _⟩; have D1 := hid dd1; clear dd1) | (go_at_call 6; refine (alive_any _).mono ?_; rintro e w3 ⟨rfl, u3⟩; have D3 := hid (D1.out.old u3); clear u3 D1))
  go_upto_region 5 with (fail)
  have HP0 := hid (show PA w (w3.alloc (.cells #[.slice none 0 0, .bool false, .int .i64 0] 45)) db w3.heap.size pd0 none 0 0 [] false 0 from ⟨D3.out.add ((Old.refl w3).alloc _) [w3.heap.size] (by simp), rfl, alloc_at w3 _, DocAt.nil _, RelD.zero, D3.out.base.size⟩)
  generalize w3.alloc (.cells #[.slice none 0 0, .bool false, .int .i64 0] 45) = w4 at *
  generalize w3.heap.size = gm at *
  clear D3
  go_wp2
  go_loopw [5, 26] (fun us c wr => ∃ (i : Nat) (u : Int) (p : PD) (a : Option Addr) (m cc : Nat) (Y : List Fi) (dn : Bool) (fu : Int), i ≤ n ∧ c = .int .i64 (i : Nat) ∧ us = .int .i64 u ∧ PA w wr db gm p a m cc Y dn fu) (fun _ c _ => n - (intOf c).toNat)
  case atStart => exact ⟨0, 0, _, _, _, _, _, _, _, Nat.zero_le _, rfl, rfl, HP0.out⟩
  case round =>
    obtain ⟨i, u, p, a, m, cc, Y, dn, fu, hi, rfl, rfl, hP⟩ := hrel
    have HP := hid hP
    clear hP HP0
    by_cases hlt : i < n
    · obtain ⟨bb, off, e, hok, hcell⟩ := HO.out i hlt
      subst e
      have HOk := hid hok
      have HCe := hid (show ∀ j, j < 6 → wr.cell? ⟨bb, off + i * 6 + j, none⟩ = (f i).cs[j]? from fun j hj => by
        have q := hcell j hj
        have hl : j < (f i).cs.length := hj
        rw [List.getElem?_eq_getElem hl] at q ⊢
        exact HP.out.disk.base.keep q)
      clear hok hcell
      generalize f i = o at *
      obtain ⟨ok, oa, oz, on, ovb, oB, ovk, okp⟩ := o
      obtain ⟨pB, cB, eB⟩ := HOk.out.2.2.1.len
      obtain ⟨-, pk, ck, ek, -⟩ := HOk.out.2.2.2.1
      dsimp only at eB ek
      subst eB ek
      have c0 : wr.cell? ⟨bb, off + i * 6, none⟩ = some (.int .i64 ok) := HCe.out 0 (by omega)
      have c1 : wr.cell? ⟨bb, off + i * 6 + 1, none⟩ = some (.string oa) := HCe.out 1 (by omega)
      have c2 : wr.cell? ⟨bb, off + i * 6 + 2, none⟩ = some (.string oz) := HCe.out 2 (by omega)
      have c3 : wr.cell? ⟨bb, off + i * 6 + 3, none⟩ = some (.int .i64 on) := HCe.out 3 (by omega)
      have c4 : wr.cell? ⟨bb, off + i * 6 + 4, none⟩ = some (.slice pB oB.length cB) := HCe.out 4 (by omega)
      have c5 : wr.cell? ⟨bb, off + i * 6 + 5, none⟩ = some (.slice pk okp.length ck) := HCe.out 5 (by omega)
      have l2 : (0 : Int) ≤ (i : Int) := by omega
      have l3 : (i : Int) < (n : Int) := by omega
      have l4 : (n : Int) ≤ 9223372036854775807 := by omega
      clear HCe
      go_upto_region 9 with (fail)
      have HU1 := hid (show Old wr (wr.alloc (.cells #[.int .i64 ok, .string oa, .string oz, .int .i64 on, .slice pB oB.length cB, .slice pk okp.length ck] 29)) from (Old.refl wr).alloc _)
      have HX := hid (alloc_at wr (.cells #[.int .i64 ok, .string oa, .string oz, .int .i64 on, .slice pB oB.length cB, .slice pk okp.length ck] 29))
      obtain ⟨lB, hlB⟩ : ∃ lB, lB = oB.length := ⟨_, rfl⟩
      obtain ⟨lk, hlk⟩ : ∃ lk, lk = okp.length := ⟨_, rfl⟩
      have HLB := hid hlB
      rw [← hlB] at HOk HU1 HX ⊢
      rw [← hlk] at HOk HU1 HX ⊢
      clear c0 c1 c2 c3 c4 c5 hlB hlk
      generalize wr.alloc (.cells #[.int .i64 ok, .string oa, .string oz, .int .i64 on, .slice pB lB cB, .slice pk lk ck] 29) = wx at *
      have HXl := hid (show wr.heap.size ≤ wr.heap.size from Nat.le_refl _)
      obtain ⟨X, hX⟩ : ∃ X, X = wr.heap.size := ⟨_, rfl⟩
      have HPx := hid (HP.out.old HU1.out)
      have HDx := hid (show Dsk w wx db p (gm :: docB (.slice a m cc) Y ++ [X]) from HP.out.disk.add HU1.out [X] (fun g hg => by rw [List.mem_singleton.1 hg, hX]; exact ⟨Nat.le_refl _, heap_lt HX.out⟩))
      have HXn := hid (show X < wx.heap.size from by rw [hX]; exact heap_lt HX.out)
      rw [← hX] at HX ⊢
      have HXg := hid (show X ≠ gm from by have := heap_lt HP.out.box; omega)
      have HXw := hid (show w.heap.size ≤ X from by have := HP.out.disk.base.size; omega)
      clear hX HP HU1 HXl
      obtain ⟨b0, b1, b2, b3, b4, b5⟩ := box6 HX.out
      go_upto_region 10 with (fail)
      generalize wrap64 (u + (lB : Int)) = u2
      by_cases hU : 20000 < u2
      · have HUf := hid HPx.out.disk.base
        go_wp2
        go_ret
        exact ⟨rfl, HUf.out⟩
      · skip
        by_cases k1 : 1 ≤ ok
        · by_cases k6 : ok ≤ 6
          · skip
            obtain ⟨sc, hsc⟩ : ∃ sc, stepC p ⟨ok, oa, oz, on, .slice pB lB cB, oB, .slice pk lk ck, okp⟩ = sc := ⟨_, rfl⟩
            obtain ⟨p', hp'⟩ : ∃ p', stepP p ⟨ok, oa, oz, on, .slice pB lB cB, oB, .slice pk lk ck, okp⟩ = p' := ⟨_, rfl⟩
            have HSt := hid (show Calls Try.prog 7 #[.pointer (some ⟨db, 0, none⟩), .agg #[.int .i64 ok, .string oa, .string oz, .int .i64 on, .slice pB lB cB, .slice pk lk ck]] wx fun e w' => e = .returned (.int .i64 sc) ∧ Dsk w w' db p' (gm :: docB (.slice a m cc) Y ++ [X]) ∧ Kp (gm :: docB (.slice a m cc) Y ++ [X]) wx w' from by rw [← hsc, ← hp']; exact stepE_any w wx db p _ ⟨ok, oa, oz, on, .slice pB lB cB, oB, .slice pk lk ck, okp⟩ HDx.out HOk.out)
            have HDc := hid (show doC (Y.map Fi.p) (stD dn fu) ⟨ok, oa, oz, on, .slice pB lB cB, oB, .slice pk lk ck, okp⟩ = sc from by rw [← hsc]; exact doC_eq HPx.out.rel HPx.out.disk.nod ⟨ok, oa, oz, on, .slice pB lB cB, oB, .slice pk lk ck, okp⟩ ⟨k1, k6⟩)
            have HRl := hid (show RelD p' (doF (Y.map Fi.p) (stD dn fu) ⟨ok, oa, oz, on, .slice pB lB cB, oB, .slice pk lk ck, okp⟩) (stD dn fu) (stF dn fu) from by rw [← hp']; exact HPx.out.rel.step HPx.out.disk.nod ⟨ok, oa, oz, on, .slice pB lB cB, oB, .slice pk lk ck, okp⟩ ⟨k1, k6⟩)
            have HKk := hid (And.intro k1 k6)
            clear hsc hp'
            go_upto_region 14 with (go_at_call 7; refine HSt.out.mono ?_; rintro e w6 ⟨rfl, d6, q6⟩; have D6 := hid (HPx.out.mid (fun g hg => List.mem_append_left _ hg) d6 q6); have X6 := hid ((q6.2 X (by simp) HXn.out).trans HX.out); have B6 := hid d6.base; clear d6 q6)
            clear b0 b1 b2 b3 b4 b5
            obtain ⟨b0, b1, b2, b3, b4, b5⟩ := box6 X6.out
            obtain ⟨e0, e1, e2, ef0, ef1, ef2⟩ := box3 D6.out.2.1
            have HDo := hid (show Calls Try.prog 17 #[.agg #[.slice a m cc, .bool dn, .int .i64 fu], .agg #[.int .i64 ok, .string oa, .string oz, .int .i64 on, .slice pB lB cB]] w6 (RP w6 (docB (.slice a m cc) Y) (doF (Y.map Fi.p) (stD dn fu) ⟨ok, oa, oz, on, .slice pB lB cB, oB, .slice pk lk ck, okp⟩) (stD dn fu) (stF dn fu) sc) from by have q := rdo_any w6 a cc Y dn fu ⟨ok, oa, oz, on, .slice pB lB cB, oB, .slice pk lk ck, okp⟩ (by rw [← HPx.out.len]; exact D6.out.2.2) HPx.out.few HPx.out.nod ⟨HPx.out.rel.lo, HPx.out.rel.hi⟩ (HOk.out.2.2.1.old B6.out) HKk.out; rw [HDc.out, ← HPx.out.len] at q; exact q)
            generalize stD dn fu = dn2 at *
            generalize stF dn fu = fu2 at *
            go_upto_region 15 with (go_at_call 17; refine HDo.out.mono ?_; rintro e w7 ⟨a7, c7, Z, rfl, d7, z7, u7, g7⟩; have D7 := hid d7; have Z7 := hid z7; have U7 := hid u7; have G7 := hid g7; have q0 := u7.keep e0; have q1 := u7.keep e1; have q2 := u7.keep e2; have qf0 := u7.keepF e0 ef0; have qf1 := u7.keepF e1 ef1; have qf2 := u7.keepF e2 ef2; clear d7 z7 u7 g7)
            obtain ⟨m7, hm7⟩ : ∃ m7, m7 = Z.length := ⟨_, rfl⟩
            have HM7 := hid hm7
            rw [← hm7] at D7 G7 ⊢
            clear hm7
            have V8 := hid (show Old w7 (w7.alloc (.cells #[.slice a7 m7 c7, .bool dn2, .int .i64 fu2] 45)) from (Old.refl w7).alloc _)
            have X8 := hid (alloc_at w7 (.cells #[.slice a7 m7 c7, .bool dn2, .int .i64 fu2] 45))
            have S8 := hid (show gm < w7.heap.size from Nat.lt_of_lt_of_le (heap_lt D6.out.2.1) U7.out.size)
            have HPn := hid (show PA w ((((w7.alloc (.cells #[.slice a7 m7 c7, .bool dn2, .int .i64 fu2] 45)).setCell ⟨gm, 0, none⟩ (.slice a7 m7 c7)).setCell ⟨gm, 1, none⟩ (.bool dn2)).setCell ⟨gm, 2, none⟩ (.int .i64 fu2)) db gm p' a7 m7 c7 Z dn2 fu2 from by
              have q := PA.put (a := a7) (c := c7) (Z := Z) (dn := dn2) (fu := fu2) D6.out.1 (U7.out.trans V8.out) ((U7.out.trans V8.out).block D6.out.2.1) ⟨_, _, _, rfl⟩ (by rw [← HM7.out]; exact D7.out.old V8.out) (by rw [← HM7.out]; exact G7.out) (by rw [Z7.out]; exact HRl.out) HPx.out.low
              rw [← HM7.out] at q
              exact q)
            have HU9 := hid HPn.out.disk.base
            have X9 := hid (box3 X8.out)
            clear q0 q1 q2 qf0 qf1 qf2 e0 e1 e2 ef0 ef1 ef2 b0 b1 b2 b3 b4 b5
            obtain ⟨e0, e1, e2, ef0, ef1, ef2⟩ := box3 ((U7.out.trans V8.out).block D6.out.2.1)
            obtain ⟨t0, t1, t2, -, -, -⟩ := X9.out
            go_upto_region 16 with (fail)
            clear e0 e1 e2 ef0 ef1 ef2 t0 t1 t2 X9 X8 V8 D6 D7 U7
            generalize (((w7.alloc (.cells #[.slice a7 m7 c7, .bool dn2, .int .i64 fu2] 45)).setCell ⟨gm, 0, none⟩ (.slice a7 m7 c7)).setCell ⟨gm, 1, none⟩ (.bool dn2)).setCell ⟨gm, 2, none⟩ (.int .i64 fu2) = w9 at *
            have lsc : (sc != sc) = false := by simp
            obtain ⟨e0, e1, e2, -, -, -⟩ := box3 HPn.out.box
            have HAl := hid (show Calls Try.prog 21 #[.pointer (some ⟨db, 0, none⟩), .agg #[.slice a7 m7 c7, .bool dn2, .int .i64 fu2]] w9 fun e w' => e = .returned (.bool true) ∧ Old w9 w' from by have q := alike_any w w9 db p' (gm :: docB (.slice a7 m7 c7) Z) a7 c7 Z dn2 fu2 HPn.out.disk (by rw [← HPn.out.len]; exact HPn.out.doc) HPn.out.rel; rw [← HPn.out.len] at q; exact q)
            go_wp2_with (go_at_call 21; refine HAl.out.mono ?_; rintro e wf ⟨rfl, uf⟩; have UF := hid uf; clear uf)
            go_roundw
            case rel => exact ⟨i + 1, u2, p', a7, m7, c7, Z, dn2, fu2, by omega, by go_num, rfl, HPn.out.old UF.out⟩
            case measure => simp [intOf]; omega
          · by_cases c7 : ok = 7
            · subst c7
              obtain ⟨rc, hrc⟩ : ∃ rc, readC p oa = rc := ⟨_, rfl⟩
              obtain ⟨rl, hrl⟩ : ∃ rl, readL p oa = rl := ⟨_, rfl⟩
              have HR1 := hid (show Calls Try.prog 12 #[.pointer (some ⟨db, 0, none⟩), .string oa] wx fun e w' => ∃ v', e = .returned (.tuple #[v', .int .i64 rc]) ∧ Own w' v' rl ∧ Old wx w' ∧ ∀ g, v'.ownBlock = some g → wx.heap.size ≤ g from by rw [← hrc, ← hrl]; exact readD w wx db p _ oa HDx.out)
              have HR2 := hid (fun (W' : World) (u : Old wx W') => show Calls Try.prog 18 #[.agg #[.slice a m cc, .bool dn, .int .i64 fu], .string oa] W' (RdPost W' [] rl rc) from by
                have q := rread_any a cc Y dn fu oa W' (by rw [← HPx.out.len]; exact HPx.out.doc.old u) HPx.out.few HPx.out.nod
                rw [(HPx.out.rel.read HPx.out.disk.nod oa).1, (HPx.out.rel.read HPx.out.disk.nod oa).2, hrc, hrl, ← HPx.out.len] at q
                exact q)
              obtain ⟨ln, hln⟩ : ∃ ln, ln = rl.length := ⟨_, rfl⟩
              have HLn := hid hln
              have HLnB := hid (show rl.length ≤ 65536 from by
                rw [← hrl]
                unfold readL
                split
                · obtain ⟨d, h1, h2, h3, -⟩ := HPx.out.disk
                  unfold fileAt
                  cases eg : getP p.fs oa with
                  | none => simp
                  | some x =>
                    have q := mem_getP eg
                    rw [← h2] at q
                    obtain ⟨y, hy, e⟩ := List.mem_map.1 q
                    have e2 := (Prod.mk.inj e).2
                    have := (h3.files y hy).ln
                    rw [← e2]
                    exact this
                · simp)
              clear hrc hrl hln
              obtain ⟨e0, e1, e2, -, -, -⟩ := box3 HPx.out.box
              go_upto_region 20 with (go_at_call 12; refine HR1.out.mono ?_; rintro e w8 ⟨v8, rfl, o8, u8, f8⟩; obtain ⟨a8, c8, e8⟩ := o8.len; rw [← HLn.out] at e8; subst e8; have O8 := hid o8; have U8 := hid u8; have F8 := hid f8; have j1 := u8.keep b1; have m0 := u8.keep e0; have m1 := u8.keep e1; have m2 := u8.keep e2; clear o8 u8 f8)
              go_upto_region 23 with (first | (go_at_call 18; refine (HR2.out _ U8.out).mono ?_; rintro e w10 ⟨v10, rfl, o10, u10, a10, m10, c10, e10⟩; subst e10; have O10 := hid o10; have O8b := hid (O8.out.old u10); have U10 := hid (U8.out.trans u10); clear o10 u10) | (go_at_call 13; refine (sameL _ _ rl _ O8b.out.row O10.out.row).mono ?_; rintro e w11 ⟨rfl, u11⟩; have U11 := hid (U10.out.trans u11); have O11 := hid (O8b.out.old u11); clear u11))
              clear j1 m0 m1 m2 e0 e1 e2 b0 b1 b2 b3 b4 b5
              have HF := hid (show ∀ g, (Value.slice a8 ln c8).ownBlock = some g → w.heap.size ≤ g ∧ g ∉ gm :: docB (.slice a m cc) Y ∧ wx.heap.size ≤ g from fun g e => by
                have h1 := F8.out g e
                refine ⟨by have := HPx.out.disk.base.size; omega, fun k => ?_, h1⟩
                rcases List.mem_cons.1 k with q | q
                · have := heap_lt HPx.out.box; omega
                · have := HPx.out.doc.lt g q; omega)
              have HPy := hid (HPx.out.old U11.out)
              have HDy := hid (show Dsk w w11 db p (gm :: docB (.slice a m cc) Y ++ (Value.slice a8 ln c8).ownBlock.toList) from HPx.out.disk.add U11.out _ (fun g hg => ⟨(HF.out g (Option.mem_toList.1 hg)).2.2, O11.out.lt g (Option.mem_toList.1 hg)⟩))
              have l8 : (ln : Int) ≤ 65536 := by have := HLnB.out; have := HLn.out; omega
              clear HR1 HR2 O8 O8b O10 U8 U10 F8 HX HDx
              go_wp2
              generalize wr = wq at *
              go_loopw [98] (fun c wr => ∃ (j : Nat) (L : List Nat), j ≤ ln ∧ c = .int .i64 (j : Nat) ∧ L.length = ln ∧ Own wr (.slice a8 ln c8) L ∧ Chg (Value.slice a8 ln c8).ownBlock.toList w11 wr) (fun c _ => ln - (intOf c).toNat)
              case atStart => exact ⟨0, rl, Nat.zero_le _, rfl, HLn.out.symm, O11.out, Chg.refl _ _⟩
              case round =>
                obtain ⟨j, L, hj, rfl, hL, hOw, hCh⟩ := hrel
                have HL := hid hL
                have HOw := hid hOw
                have HCh := hid hCh
                clear hL hOw hCh
                by_cases hjl : j < ln
                · obtain ⟨gg, cg, eg⟩ := HOw.out.shape (by have := HL.out; omega)
                  rw [HL.out] at eg
                  obtain ⟨eg1, -, -⟩ := Value.slice.inj eg
                  subst eg1
                  obtain ⟨q1, q2, -, q4, q5⟩ := HOw.out.cellAt j (by have := HL.out; omega)
                  have l1 : (0 : Int) ≤ (j : Int) := by omega
                  have l5 : (j : Int) < (ln : Int) := by omega
                  have HOs := hid (HOw.out.set j 99 (by have := HL.out; omega) (by decide))
                  have HCs := hid (HCh.out.trans (Chg.set (S := [gg]) wr ⟨gg, j, none⟩ (.int .u8 99) (by simp)))
                  clear eg
                  go_wp2
                  go_roundw
                  case rel => exact ⟨j + 1, L.set j 99, hjl, by go_num, by rw [List.length_set]; exact HL.out, HOs.out, HCs.out⟩
                  case measure => simp [intOf]; omega
                · have l5 : ¬ (j : Int) < (ln : Int) := by omega
                  have HPn := hid (show PA w wr db gm p a m cc Y dn fu from by
                    have hK : Kp (gm :: docB (.slice a m cc) Y) w11 wr := ⟨HCh.out.size, fun g hg hl => HCh.out.block g hl (fun e => (HF.out g (Option.mem_toList.1 e)).2.1 hg)⟩
                    have hD := HDy.out.wr HCh.out (fun g hg => ⟨List.mem_append_right _ hg, (HF.out g (Option.mem_toList.1 hg)).1⟩)
                    obtain ⟨r1, r2, r3⟩ := HPy.out.mid (A := gm :: docB (.slice a m cc) Y) (fun g hg => hg) (hD.less (fun g hg => List.mem_append_left _ hg)) hK
                    exact ⟨r1, HPy.out.len, r2, r3, HPy.out.rel, HPy.out.low⟩)
                  clear hjl hj
                  obtain ⟨e0, e1, e2, -, -, -⟩ := box3 HPn.out.box
                  have HAl := hid (show Calls Try.prog 21 #[.pointer (some ⟨db, 0, none⟩), .agg #[.slice a m cc, .bool dn, .int .i64 fu]] wr fun e w' => e = .returned (.bool true) ∧ Old wr w' from by have q := alike_any w wr db p (gm :: docB (.slice a m cc) Y) a cc Y dn fu HPn.out.disk (by rw [← HPn.out.len]; exact HPn.out.doc) HPn.out.rel; rw [← HPn.out.len] at q; exact q)
                  go_wp2_with (go_at_call 21; refine HAl.out.mono ?_; rintro e wf ⟨rfl, uf⟩; have UF := hid uf; clear uf)
                  go_roundw
                  case rel => exact ⟨i + 1, u2, p, a, m, cc, Y, dn, fu, by omega, by go_num, rfl, HPn.out.old UF.out⟩
                  case measure => simp [intOf]; omega
            · by_cases c8 : ok = 8
              · subst c8
                have HFl := hid (failD w wx db p _ on HDx.out HOk.out.2.1.2)
                have HBn := hid HOk.out.2.1
                go_upto_region 30 with (go_at_call 19; refine HFl.out.mono ?_; rintro e w6 ⟨rfl, d6, q6⟩; have D6 := hid (HPx.out.mid (fun g hg => List.mem_append_left _ hg) d6 q6); have X6 := hid ((q6.2 X (by simp) HXn.out).trans HX.out); clear d6 q6)
                clear b0 b1 b2 b3 b4 b5
                obtain ⟨b0, b1, b2, b3, b4, b5⟩ := box6 X6.out
                obtain ⟨e0, e1, e2, ef0, ef1, ef2⟩ := box3 D6.out.2.1
                have HPn := hid (show PA w (w6.setCell ⟨gm, 2, none⟩ (.int .i64 (max on 0))) db gm { p with fail := max 0 on } a m cc Y dn (max on 0) from
                  ⟨D6.out.1.wr (Chg.set (S := [gm]) w6 ⟨gm, 2, none⟩ _ (by simp)) (fun g hg => by simp at hg; rw [hg]; exact ⟨by simp, HPx.out.low⟩), HPx.out.len, Go.Joins.block_setCell D6.out.2.1 _ (i := 2), D6.out.2.2.chgT (Chg.set (S := [gm]) w6 ⟨gm, 2, none⟩ _ (by simp)) D6.out.2.1, HPx.out.rel.fail on HBn.out.2, HPx.out.low⟩)
                go_upto_region 34 with (fail)
                clear e0 e1 e2 ef0 ef1 ef2 b0 b1 b2 b3 b4 b5 D6
                generalize w6.setCell ⟨gm, 2, none⟩ (.int .i64 (max on 0)) = w9 at *
                generalize max on 0 = fu2 at *
                obtain ⟨e0, e1, e2, -, -, -⟩ := box3 HPn.out.box
                have HAl := hid (show Calls Try.prog 21 #[.pointer (some ⟨db, 0, none⟩), .agg #[.slice a m cc, .bool dn, .int .i64 fu2]] w9 fun e w' => e = .returned (.bool true) ∧ Old w9 w' from by have q := alike_any w w9 db { p with fail := max 0 on } (gm :: docB (.slice a m cc) Y) a cc Y dn fu2 HPn.out.disk (by rw [← HPn.out.len]; exact HPn.out.doc) HPn.out.rel; rw [← HPn.out.len] at q; exact q)
                go_wp2_with (go_at_call 21; refine HAl.out.mono ?_; rintro e wf ⟨rfl, uf⟩; have UF := hid uf; clear uf)
                go_roundw
                case rel => exact ⟨i + 1, u2, { p with fail := max 0 on }, a, m, cc, Y, dn, fu2, by omega, by go_num, rfl, HPn.out.old UF.out⟩
                case measure => simp [intOf]; omega
              · by_cases c9 : ok = 9
                · subst c9
                  have HCr := hid (crashD w wx db p _ _ okp HDx.out (HOk.out.2.2.2.1.old HPx.out.disk.base) HOk.out.2.2.2.2.1 (fun h0 g e => .inl (HOk.out.2.2.2.2.2 h0 g e)))
                  go_upto_region 33 with (go_at_call 8; refine HCr.out.mono ?_; rintro e w6 ⟨rfl, S, hS1, hS2, d6, q6⟩; have D6 := hid (HPx.out.mid (fun g hg => List.mem_append_left _ hg) d6 q6); have X6 := hid ((q6.2 X (by simp) HXn.out).trans HX.out); have B6 := hid d6.base; have HRl := hid (HPx.out.rel.crash HPx.out.disk.nod S okp hS1 hS2); clear d6 q6 hS1 hS2)
                  clear b0 b1 b2 b3 b4 b5
                  obtain ⟨b0, b1, b2, b3, b4, b5⟩ := box6 X6.out
                  obtain ⟨e0, e1, e2, ef0, ef1, ef2⟩ := box3 D6.out.2.1
                  have HDo := hid (show Calls Try.prog 20 #[.agg #[.slice a m cc, .bool dn, .int .i64 fu], .slice pk lk ck] w6 (CPost w6 (docB (.slice a m cc) Y) (crD (Y.map Fi.p) okp)) from by have q := rcrash_any a cc Y dn fu (.slice pk lk ck) okp w6 (by rw [← HPx.out.len]; exact D6.out.2.2) HPx.out.few (HOk.out.2.2.2.1.old B6.out); rw [← HPx.out.len] at q; exact q)
                  obtain ⟨p', hp'⟩ : ∃ p', crashP p S okp = p' := ⟨_, rfl⟩
                  rw [hp'] at D6 HRl
                  clear hp'
                  go_upto_region 34 with (go_at_call 20; refine HDo.out.mono ?_; rintro e w7 ⟨a7, c7, Z, rfl, d7, z7, u7, g7⟩; have D7 := hid d7; have Z7 := hid z7; have U7 := hid u7; have G7 := hid g7; have q0 := u7.keep e0; have q1 := u7.keep e1; have q2 := u7.keep e2; have qf0 := u7.keepF e0 ef0; have qf1 := u7.keepF e1 ef1; have qf2 := u7.keepF e2 ef2; clear d7 z7 u7 g7)
                  have HPn := hid (PA.put (dn := false) (fu := 0) D6.out.1 U7.out (U7.out.block D6.out.2.1) ⟨_, _, _, rfl⟩ D7.out G7.out (by rw [Z7.out]; exact HRl.out) HPx.out.low)
                  clear q0 q1 q2 qf0 qf1 qf2 e0 e1 e2 ef0 ef1 ef2 b0 b1 b2 b3 b4 b5 D6 D7 U7
                  generalize ((w7.setCell ⟨gm, 0, none⟩ (.slice a7 Z.length c7)).setCell ⟨gm, 1, none⟩ (.bool false)).setCell ⟨gm, 2, none⟩ (.int .i64 0) = w9 at *
                  obtain ⟨m7, hm7⟩ : ∃ m7, m7 = Z.length := ⟨_, rfl⟩
                  rw [← hm7] at HPn
                  clear hm7
                  obtain ⟨e0, e1, e2, -, -, -⟩ := box3 HPn.out.box
                  have HAl := hid (show Calls Try.prog 21 #[.pointer (some ⟨db, 0, none⟩), .agg #[.slice a7 m7 c7, .bool false, .int .i64 0]] w9 fun e w' => e = .returned (.bool true) ∧ Old w9 w' from by have q := alike_any w w9 db p' (gm :: docB (.slice a7 m7 c7) Z) a7 c7 Z false 0 HPn.out.disk (by rw [← HPn.out.len]; exact HPn.out.doc) HPn.out.rel; rw [← HPn.out.len] at q; exact q)
                  go_wp2_with (go_at_call 21; refine HAl.out.mono ?_; rintro e wf ⟨rfl, uf⟩; have UF := hid uf; clear uf)
                  go_roundw
                  case rel => exact ⟨i + 1, u2, p', a7, m7, c7, Z, false, 0, by omega, by go_num, rfl, HPn.out.old UF.out⟩
                  case measure => simp [intOf]; omega
                · have d7 : (ok == 7) = false := by rw [beq_eq_false_iff_ne]; exact c7
                  have d8 : (ok == 8) = false := by rw [beq_eq_false_iff_ne]; exact c8
                  have d9 : (ok == 9) = false := by rw [beq_eq_false_iff_ne]; exact c9
                  go_upto_region 34 with (fail)
                  clear b0 b1 b2 b3 b4 b5
                  obtain ⟨e0, e1, e2, -, -, -⟩ := box3 HPx.out.box
                  have HAl := hid (show Calls Try.prog 21 #[.pointer (some ⟨db, 0, none⟩), .agg #[.slice a m cc, .bool dn, .int .i64 fu]] wx fun e w' => e = .returned (.bool true) ∧ Old wx w' from by have q := alike_any w wx db p (gm :: docB (.slice a m cc) Y) a cc Y dn fu HPx.out.disk (by rw [← HPx.out.len]; exact HPx.out.doc) HPx.out.rel; rw [← HPx.out.len] at q; exact q)
                  go_wp2_with (go_at_call 21; refine HAl.out.mono ?_; rintro e wf ⟨rfl, uf⟩; have UF := hid uf; clear uf)
                  go_roundw
                  case rel => exact ⟨i + 1, u2, p, a, m, cc, Y, dn, fu, by omega, by go_num, rfl, HPx.out.old UF.out⟩
                  case measure => simp [intOf]; omega
        · have d7 : (ok == 7) = false := by rw [beq_eq_false_iff_ne]; omega
          have d8 : (ok == 8) = false := by rw [beq_eq_false_iff_ne]; omega
          have d9 : (ok == 9) = false := by rw [beq_eq_false_iff_ne]; omega
          go_upto_region 34 with (fail)
          clear b0 b1 b2 b3 b4 b5
          obtain ⟨e0, e1, e2, -, -, -⟩ := box3 HPx.out.box
          have HAl := hid (show Calls Try.prog 21 #[.pointer (some ⟨db, 0, none⟩), .agg #[.slice a m cc, .bool dn, .int .i64 fu]] wx fun e w' => e = .returned (.bool true) ∧ Old wx w' from by have q := alike_any w wx db p (gm :: docB (.slice a m cc) Y) a cc Y dn fu HPx.out.disk (by rw [← HPx.out.len]; exact HPx.out.doc) HPx.out.rel; rw [← HPx.out.len] at q; exact q)
          go_wp2_with (go_at_call 21; refine HAl.out.mono ?_; rintro e wf ⟨rfl, uf⟩; have UF := hid uf; clear uf)
          go_roundw
          case rel => exact ⟨i + 1, u2, p, a, m, cc, Y, dn, fu, by omega, by go_num, rfl, HPx.out.old UF.out⟩
          case measure => simp [intOf]; omega
    · have l3 : ¬ ((i : Int) < (n : Int)) := by omega
      have HUf := hid HP.out.disk.base
      go_wp2
      go_ret
      exact ⟨rfl, HUf.out⟩
end Go.Proofs.Ytibeeamenhcngaa
