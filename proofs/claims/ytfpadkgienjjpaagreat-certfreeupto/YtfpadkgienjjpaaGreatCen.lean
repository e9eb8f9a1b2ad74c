/- The law CertFree, walked; conditions: its row lies in memory, and is short. -/
import Derived.Test.YtfpadkgienjjpaaGreatSqa
import Derived.Test.YtfpadkgienjjpaaGreatCem
namespace Go.Proofs.YtfpadkgienjjpaaGreat
abbrev oCen0 : Oper := { dst := some 33, op := .move (.tmp 7), type := 26, pos := "law.go:133", after := #[], guard := none }
abbrev oCen1 : Oper := { dst := some 32, op := .load 25 (.tmp 10), type := 25, pos := "law.go:133", after := #[], guard := none }
abbrev oCen2 : Oper := { dst := some 34, op := .call { callee := Callee.value (.func 11), args := #[.tmp 33], argTypes := #[26] }, type := 2, pos := "law.go:133", after := #[⟨1, .data⟩], guard := none }
abbrev oCen3 : Oper := { dst := some 35, op := .call { callee := Callee.value (.func 15), args := #[.tmp 32, .tmp 34], argTypes := #[25, 2] }, type := 25, pos := "law.go:133", after := #[⟨0, .data⟩, ⟨2, .data⟩, ⟨2, .chain⟩], guard := none }
abbrev oCen4 : Oper := { dst := none, op := .store 25 (.tmp 10) (.tmp 35), type := 0, pos := "law.go:133", after := #[⟨3, .data⟩, ⟨3, .chain⟩, ⟨0, .phase⟩, ⟨1, .phase⟩, ⟨2, .phase⟩, ⟨3, .phase⟩], guard := none }
abbrev oCen5 : Oper := { dst := some 36, op := .load 25 (.tmp 10), type := 25, pos := "law.go:134", after := #[], guard := none }
abbrev oCen6 : Oper := { dst := some 37, op := .call { callee := Callee.value (.func 10), args := #[.tmp 36], argTypes := #[25] }, type := 3, pos := "law.go:134", after := #[⟨0, .data⟩], guard := none }
abbrev oCen7 : Oper := { dst := some 38, op := .binOp .eql 3 (.tmp 37) (.const (.int IntKind.i64 0)) 3, type := 4, pos := "law.go:134", after := #[⟨1, .data⟩], guard := none }
abbrev oCen8 : Oper := { dst := some 39, op := .move (.tmp 38), type := 4, pos := "law.go:134", after := #[⟨2, .data⟩, ⟨1, .chain⟩], guard := none }
abbrev oCen9 : Oper := { dst := some 40, op := .fieldAddr 25 (.tmp 10) 2, type := 0, pos := "law.go:134", after := #[⟨3, .guard⟩], guard := some (3, true) }
abbrev oCen10 : Oper := { dst := some 41, op := .load 2 (.tmp 40), type := 2, pos := "law.go:134", after := #[⟨4, .data⟩, ⟨3, .guard⟩], guard := some (3, true) }
abbrev oCen11 : Oper := { dst := some 42, op := .move (.tmp 7), type := 26, pos := "law.go:134", after := #[⟨3, .guard⟩], guard := some (3, true) }
abbrev oCen12 : Oper := { dst := some 43, op := .call { callee := Callee.value (.func 11), args := #[.tmp 42], argTypes := #[26] }, type := 2, pos := "law.go:134", after := #[⟨6, .data⟩, ⟨3, .chain⟩, ⟨3, .guard⟩], guard := some (3, true) }
abbrev oCen13 : Oper := { dst := some 44, op := .binOp .leq 2 (.tmp 41) (.tmp 43) 2, type := 4, pos := "law.go:134", after := #[⟨5, .data⟩, ⟨7, .data⟩, ⟨3, .guard⟩], guard := some (3, true) }
abbrev oCen14 : Oper := { dst := some 45, op := .pick (.tmp 39) (.tmp 44) (.const (.bool false)), type := 4, pos := "law.go:134", after := #[⟨3, .data⟩, ⟨8, .data⟩], guard := none }
abbrev oCen15 : Oper := { dst := some 46, op := .move (.tmp 45), type := 4, pos := "law.go:134", after := #[⟨9, .data⟩, ⟨7, .chain⟩], guard := none }
abbrev oCen16 : Oper := { dst := some 47, op := .fieldAddr 25 (.tmp 10) 2, type := 0, pos := "law.go:134", after := #[⟨10, .guard⟩], guard := some (10, true) }
abbrev oCen17 : Oper := { dst := some 48, op := .load 2 (.tmp 47), type := 2, pos := "law.go:134", after := #[⟨11, .data⟩, ⟨10, .guard⟩], guard := some (10, true) }
abbrev oCen18 : Oper := { dst := some 49, op := .move (.tmp 7), type := 26, pos := "law.go:134", after := #[⟨10, .guard⟩], guard := some (10, true) }
abbrev oCen19 : Oper := { dst := some 50, op := .call { callee := Callee.value (.func 14), args := #[.tmp 49], argTypes := #[26] }, type := 2, pos := "law.go:134", after := #[⟨13, .data⟩, ⟨10, .chain⟩, ⟨10, .guard⟩], guard := some (10, true) }
abbrev oCen20 : Oper := { dst := some 51, op := .binOp .geq 2 (.tmp 48) (.tmp 50) 2, type := 4, pos := "law.go:134", after := #[⟨12, .data⟩, ⟨14, .data⟩, ⟨10, .guard⟩], guard := some (10, true) }
abbrev oCen21 : Oper := { dst := some 52, op := .pick (.tmp 46) (.tmp 51) (.const (.bool false)), type := 4, pos := "law.go:134", after := #[⟨10, .data⟩, ⟨15, .data⟩], guard := none }
abbrev oCen22 : Oper := { dst := some 11, op := .assign (.tmp 52), type := 4, pos := "law.go:134", after := #[⟨16, .data⟩, ⟨14, .chain⟩, ⟨0, .phase⟩, ⟨1, .phase⟩, ⟨2, .phase⟩, ⟨3, .phase⟩, ⟨4, .phase⟩, ⟨5, .phase⟩, ⟨6, .phase⟩, ⟨7, .phase⟩, ⟨8, .phase⟩, ⟨9, .phase⟩, ⟨10, .phase⟩, ⟨11, .phase⟩, ⟨12, .phase⟩, ⟨13, .phase⟩, ⟨14, .phase⟩, ⟨15, .phase⟩, ⟨16, .phase⟩], guard := none }
open Go.RowKit Go.Lib
set_option linter.unusedVariables false
set_option linter.unusedSimpArgs false
set_option maxRecDepth 20000
attribute [local go_sem] run_bits run_frombits run_store_float eqF
abbrev Sb6 (m : Nat) (s1 s2 s3 : Int) (v1 v2 v3 : Value) (w : World) : Prop := w.cell? ⟨m, 0, none⟩ = some (.int .i64 s1) ∧ w.cell? ⟨m, 1, none⟩ = some (.int .i64 s2) ∧ w.cell? ⟨m, 2, none⟩ = some (.int .i64 s3) ∧ w.cell? ⟨m, 3, none⟩ = some v1 ∧ w.cell? ⟨m, 4, none⟩ = some v2 ∧ w.cell? ⟨m, 5, none⟩ = some v3
theorem Sb6.old {m : Nat} {s1 s2 s3 : Int} {v1 v2 v3 : Value} {w w' : World} (u : Old w w') (h : Sb6 m s1 s2 s3 v1 v2 v3 w) : Sb6 m s1 s2 s3 v1 v2 v3 w' := ⟨u.keep h.1, u.keep h.2.1, u.keep h.2.2.1, u.keep h.2.2.2.1, u.keep h.2.2.2.2.1, u.keep h.2.2.2.2.2⟩
structure FrI (w : World) (cb : Nat) (G : Cg) (v : Value) (L : List Dn) (W : World) : Prop where
 c : CtAt w.heap.size cb G W
 r : DnRow w v L cb G W
 u : Old w W
 h : ∃ D : List Kp, Hst D G.c ∧ D.length = L.length ∧ ∀ d ∈ D, ∃ e ∈ L, e.n = d.n ∧ e.s.pl = d.u
theorem FrI.cnt {w : World} {cb : Nat} {G : Cg} {v : Value} {L : List Dn} {W : World} (h : FrI w cb G v L W) : G.c.cnt = (L.length : Int) := by
 obtain ⟨D, a, b, -⟩ := h.h
 rw [a.cn, b]
theorem FrI.ok {w : World} {cb : Nat} {G : Cg} {v : Value} {L : List Dn} {W : World} (h : FrI w cb G v L W) : CpOk G.c := by
 obtain ⟨D, a, -⟩ := h.h
 exact a.ok
def FrR (L : List Dn) (c : Cp) (u : Su) (ck : Int) (b : Bool) (r : Int × Int × Cp) : Prop := (b = true → r.1 = 0) ∧ (r.1 ≠ 0 → r.2.1 = 0 ∧ r.2.2 = c) ∧ (r.1 = 0 → r.2.1 = (L.length : Int) + 1 ∧ ∀ s : Sb, s.pl = u → ∃ D : List Kp, Hst D r.2.2 ∧ D.length = L.length + 1 ∧ ∀ d ∈ D, ∃ e ∈ L ++ [⟨(L.length : Int) + 1, s⟩], e.n = d.n ∧ e.s.pl = d.u)
theorem FrI.dec {w : World} {cb : Nat} {G : Cg} {v : Value} {L : List Dn} {W : World} (h : FrI w cb G v L W) (hl : L.length ≤ 1048576) (u : Su) (fu : u.F) (ck : Int) (b : Bool) (hb : b = true → (ck = 0 ∧ u.s3 ≤ G.c.cnt ∧ G.c.hor ≤ u.s3) ∧ ∀ e ∈ L, e.n ≤ u.s3 ∨ apU e.s.pl u = true) : FrR L G.c u ck b (decC G.c u ck) := by
 obtain ⟨D, a, hD, m⟩ := h.h
 have k := a.dec u fu ck
 refine ⟨fun e => ?_, k.1, fun e => ?_⟩
 ·obtain ⟨⟨rfl, h2, h1⟩, fr⟩ := hb e
  refine a.free (by rw [a.cn, hD]; omega) u h1 h2 fun d hd => ?_
  obtain ⟨x, hx, en, eu⟩ := m d hd
  rw [← en, ← eu]
  exact fr x hx
 ·obtain ⟨h1, o, h2⟩ := k.2 e
  rw [hD] at h1 h2
  refine ⟨h1, fun s hs => ⟨_, h2, by simp [hD], fun d hd => ?_⟩⟩
  rcases List.mem_append.1 hd with z | z
  ·obtain ⟨x, hx, q⟩ := m d z
   exact ⟨x, List.mem_append_left _ hx, q⟩
  ·simp only [List.mem_singleton] at z
   subst z
   exact ⟨⟨(L.length : Int) + 1, s⟩, by simp, rfl, hs⟩
set_option maxHeartbeats 16000000 in
theorem freeLaw (keep old : Int) (v : Value) (n : Nat) (f : Nat → Sb) (w : World) (hr : SubRow w v n f) (hn : n ≤ 1048576) :
    Calls Tryz.prog 5 #[.int .i64 keep, .int .i64 old, v] w fun e w' => e = .returned (.bool true) ∧ Old w w' := by
 obtain ⟨-, p, c, rfl, hc1, hc2, hc⟩ := hr
 have HNw := hid (fun (W : World) => cnew_any keep old W)
 have HAl := hid (fun (W : World) => alive_any W)
 have HR := hid hc
 have HSnp := hid (fun (s1 s2 s3 : Int) (a1 a2 a3 : Option Addr) (n1 n2 n3 c1 c2 c3 : Nat) (n : Int) (h0 : 0 ≤ n) (h1 : n ≤ 1099511627776) (W : World) => snap_any s1 s2 s3 a1 a2 a3 n1 n2 n3 c1 c2 c3 n h0 h1 W)
 have HCkA := hid (fun (s : Sb) (hs : s.Ok w) (W : World) (u : Old w W) => refChk_any s.s1 s.s2 s.s3 s.a1 s.a2 s.a3 s.n1 s.n2 s.n3 s.c1 s.c2 s.c3 s.x1 s.x3 s.f2 W (hs.old u).h1 (hs.old u).h2 (hs.old u).h3)
 clear hc
 go_enter Tryz.func5, Tryz.ntmps5
 go_upto_region 4 with (first | (go_at_call 8; refine (HAl.out w1).mono ?_; rintro e w2 ⟨rfl, o2⟩; have O2 := hid o2; clear o2) | (go_at_call 7; refine (HNw.out w).mono ?_; rintro e w1 ⟨cb, G, rfl, h1, o1, c1⟩; have HC := hid h1; have O1 := hid o1; have CG := hid c1; clear h1 o1 c1))
 go_upto_region 5 with fail
 have HL := hid (show ∃ G, FrI w cb G (.slice (some ⟨w2.heap.size, 0, none⟩) 0 0) [] (w2.alloc (.cells #[] 45)) from ⟨G, (HC.out.old O2.out).old ((Old.refl w2).alloc _), DnRow.empty (O1.out.trans O2.out).size (HC.out.old O2.out), (O1.out.trans O2.out).trans ((Old.refl w2).alloc _), [], by rw [CG.out]; exact Hst.new keep old, rfl, (fun d q => nomatch q)⟩)
 clear HC O1 O2 CG HNw HAl
 generalize w2.alloc (.cells #[] 45) = wa at *
 generalize w2.heap.size = dr at *
 go_wp2
 go_loopw [8, 28] (fun vv i wx => ∃ (k : Nat) (L : List Dn), k ≤ n ∧ L.length ≤ k ∧ i = .int .i64 (k : Nat) ∧ Hid (∃ G, FrI w cb G vv L wx)) (fun _ i _ => n - (intOf i).toNat)
 case atStart => exact ⟨0, [], Nat.zero_le _, Nat.le_refl _, rfl, HL⟩
 case round =>
  clear HL
  obtain ⟨k, L, hk, hL, rfl, HI⟩ := hrel
  obtain ⟨G, hI⟩ := HI.out
  obtain ⟨va, vc, hvv⟩ := hI.r.len
  have H0 := hid hI
  obtain ⟨ln, hln⟩ : ∃ ln, L.length = ln := ⟨_, rfl⟩
  rw [hln] at hvv hL
  subst hvv
  have HLn := hid hln
  have hcn := hI.cnt
  rw [hln] at hcn
  have Hcn := hid hcn
  clear hI HI hln hcn
  by_cases hlt : k < n
  ·obtain ⟨g, off, rfl, hin, hok⟩ := HR.out k hlt
   obtain ⟨q0, q1, q2, q3, q4, q5⟩ := hin.old H0.out.u
   have OK := hid hok
   clear hin hok HR
   generalize f k = s at *
   obtain ⟨s1, s2, s3, a1, a2, a3, n1, n2, n3, c1, c2, c3, x1, x3, f2⟩ := s
   dsimp only at q0 q1 q2 q3 q4 q5
   have l1 : (0 : Int) ≤ (k : Int) := by omega
   have l2 : (k : Int) < (n : Int) := by omega
   go_upto_region 8 with fail
   clear q0 q1 q2 q3 q4 q5
   have UA1 := hid (H0.out.u.trans ((Old.refl wr).alloc (.cells #[.int .i64 s1, .int .i64 s2, .int .i64 s3, .slice a1 n1 c1, .slice a2 n2 c2, .slice a3 n3 c3] 25)))
   have C1 := hid (H0.out.c.old ((Old.refl wr).alloc (.cells #[.int .i64 s1, .int .i64 s2, .int .i64 s3, .slice a1 n1 c1, .slice a2 n2 c2, .slice a3 n3 c3] 25)))
   have R1 := hid (H0.out.r.old ((Old.refl wr).alloc (.cells #[.int .i64 s1, .int .i64 s2, .int .i64 s3, .slice a1 n1 c1, .slice a2 n2 c2, .slice a3 n3 c3] 25)))
   have A1 := hid (show SubB' wr.heap.size s1 s2 s3 (.slice a1 n1 c1) (.slice a2 n2 c2) (.slice a3 n3 c3) (wr.alloc (.cells #[.int .i64 s1, .int .i64 s2, .int .i64 s3, .slice a1 n1 c1, .slice a2 n2 c2, .slice a3 n3 c3] 25)) from alloc_at wr (.cells #[.int .i64 s1, .int .i64 s2, .int .i64 s3, .slice a1 n1 c1, .slice a2 n2 c2, .slice a3 n3 c3] 25))
   have N1 := hid (show wr.heap.size ∉ mblC cb G from fun q => Nat.lt_irrefl _ (H0.out.c.lt _ q).2)
   have K1 := hid (show ∀ k ∈ G.kn, ∀ g ∈ k.bl, g ≠ wr.heap.size from fun k q g hg e => by have := ((H0.out.c.kk k q).lt g hg).2; omega)
   have NR := hid (show ∀ g, (Value.slice va ln vc).ownBlock = some g → g ≠ wr.heap.size from fun g e q => by have := (World.ownsRow.lt H0.out.r.row g e).2; omega)
   have B1 := hid (show w.heap.size ≤ wr.heap.size from H0.out.u.size)
   generalize wr.alloc (.cells #[.int .i64 s1, .int .i64 s2, .int .i64 s3, .slice a1 n1 c1, .slice a2 n2 c2, .slice a3 n3 c3] 25) = w3 at *
   generalize wr.heap.size = ab at *
   have hc0 : (0 : Int) ≤ (ln : Int) := by omega
   have hc3 : (ln : Int) ≤ 1099511627776 := by omega
   have HSn := hid (fun (W : World) => HSnp.out s1 s2 s3 a1 a2 a3 n1 n2 n3 c1 c2 c3 (ln : Int) hc0 hc3 W)
   have HCo := hid (fun (W : World) (u : Old w3 W) => count_old w.heap.size cb G W (C1.out.old u))
   rw [Hcn.out] at HCo
   obtain ⟨cn, hcn⟩ : ∃ cn : Int, (ln : Int) = cn := ⟨_, rfl⟩
   have HCN := hid hcn
   rw [hcn] at HSn HCo
   clear hcn hc0 hc3 HSnp
   obtain ⟨z, hz⟩ : ∃ z, snapV s3 cn = z := ⟨_, rfl⟩
   rw [hz] at HSn
   clear hz
   focus
    refine wp_region_noPanic ?_
    refine wp_region_held_drew (S := fun _ => True) (by kernel_rfl) ?_ (fun hHeld => ?_)
    ·exact trivial
    try simp only [Act.put, puA, puB, puC]
    clear hHeld
    all_goals
     refine atA [false, false, false, false, false] ?_
     refine tkA (i := 1) (oi := oCen0) trivial ?_
     try simp only [Act.put, puA, puB, puC]
     refine rdA [0, 2] ?_
     refine AllReadyH.cons (o := oCen1) rfl (fun K hK => ?_) (AllReadyH.cons (o := oCen2) rfl (fun K hK => ?_) AllReadyH.nil)
     refine stepLdSub ?_ (.tmp 10) ?_ ab s1 s2 s3 a1 a2 a3 n1 n2 n3 c1 c2 c3 ?_ (((Old.refl w3).drew).block A1.out) ?_
     iterate 3 rfl
     refine hK.out _ _ trivial (fun _ => ?_)
     clear hK K
     try simp only [Act.put, puA, puB, puC]
     rotate_left
     refine wantCall1 ?_ 11 (.tmp 33) #[26] ?_ (.pointer (some ⟨cb, 0, none⟩)) ?_ ?_ ((enters_of Tryz.func11 (by kernel_rfl) rfl) _ _) ?_
     iterate 4 rfl
     refine (HCo.out _ ((Old.refl w3).drew)).mono ?_
     rintro o x100n ⟨rfl, b100n⟩
     refine ⟨_, rfl, ?_⟩
     have U100n := ((Old.refl w3).drew).trans b100n
     refine hK.out _ _ trivial (fun _ => ?_)
     clear hK K
     try simp only [Act.put, puA, puB, puC]
     have UU_100 := U100n
     obtain ⟨xw_100, rfl⟩ : ∃ z, z = x100n := ⟨_, rfl⟩
     rotate_left
    all_goals first
     |refine atA [true, true, false, false, false] ?_
      refine rdA [2] ?_
      refine AllReadyH.cons (o := oCen2) rfl (fun K hK => ?_) AllReadyH.nil
      refine wantCall1 ?_ 11 (.tmp 33) #[26] ?_ (.pointer (some ⟨cb, 0, none⟩)) ?_ ?_ ((enters_of Tryz.func11 (by kernel_rfl) rfl) _ _) ?_
      iterate 4 rfl
      refine (HCo.out _ ((Old.refl w3).drew)).mono ?_
      rintro o x100n ⟨rfl, b100n⟩
      refine ⟨_, rfl, ?_⟩
      have U100n := ((Old.refl w3).drew).trans b100n
      refine hK.out _ _ trivial (fun _ => ?_)
      clear hK K
      try simp only [Act.put, puA, puB, puC]
      have UU_100 := U100n
      obtain ⟨xw_100, rfl⟩ : ∃ z, z = x100n := ⟨_, rfl⟩
     |refine atA [false, true, true, false, false] ?_
      refine rdA [0] ?_
      refine AllReadyH.cons (o := oCen1) rfl (fun K hK => ?_) AllReadyH.nil
      refine stepLdSub ?_ (.tmp 10) ?_ ab s1 s2 s3 a1 a2 a3 n1 n2 n3 c1 c2 c3 ?_ (UU_100.block A1.out) ?_
      iterate 3 rfl
      refine hK.out _ _ trivial (fun _ => ?_)
      clear hK K
      try simp only [Act.put, puA, puB, puC]
    all_goals
     refine atA [true, true, true, false, false] ?_
     refine rdA [3] ?_
     refine AllReadyH.cons (o := oCen3) rfl (fun K hK => ?_) AllReadyH.nil
     refine wantCall2 ?_ 15 (.tmp 32) (.tmp 34) #[25, 2] ?_ (.agg #[.int .i64 s1, .int .i64 s2, .int .i64 s3, .slice a1 n1 c1, .slice a2 n2 c2, .slice a3 n3 c3]) (.int .i64 cn) ?_ ?_ ?_ ((enters_of Tryz.func15 (by kernel_rfl) rfl) _ _) ?_
     iterate 5 rfl
     refine (HSn.out _).mono ?_
     rintro o x100n ⟨rfl, b100n⟩
     refine ⟨_, rfl, ?_⟩
     have U100n := UU_100.trans b100n
     refine hK.out _ _ trivial (fun _ => ?_)
     clear hK K
     try simp only [Act.put, puA, puB, puC]
     have UU_100 := U100n
     obtain ⟨xw_100, rfl⟩ : ∃ z, z = x100n := ⟨_, rfl⟩
    all_goals
     refine atA [true, true, true, true, false] ?_
     refine rdA [4] ?_
     refine AllReadyH.cons (o := oCen4) rfl (fun K hK => ?_) AllReadyH.nil
     refine stepStSub ?_ (.tmp 10) (.tmp 35) ?_ ab s1 s2 s3 s1 s2 z _ _ _ a1 a2 a3 n1 n2 n3 c1 c2 c3 ?_ ?_ (UU_100.block A1.out) ?_
     iterate 4 rfl
     refine hK.out _ _ trivial (fun _ => ?_)
     clear hK K
     try simp only [Act.put, puA, puB, puC]
    all_goals
     refine atA [true, true, true, true, true] ?_
     refine wpAnyH_done (by kernel_rfl) ?_ _
     refine NoPanic.normal ?_
     have CA := hid (Chg.setK xw_100 ab 0 [.int .i64 s1, .int .i64 s2, .int .i64 z, .slice a1 n1 c1, .slice a2 n2 c2, .slice a3 n3 c3] [ab] (by simp))
     have A2 := hid (show SubB' ab s1 s2 z (.slice a1 n1 c1) (.slice a2 n2 c2) (.slice a3 n3 c3) (xw_100.setCells ab 0 [.int .i64 s1, .int .i64 s2, .int .i64 z, .slice a1 n1 c1, .slice a2 n2 c2, .slice a3 n3 c3]) from subB_set (UU_100.block A1.out))
     have C2 := hid ((C1.out.old UU_100).chg CA.out (fun k q e => by simp at e; subst e; exact N1.out q) (fun k q g hg e => by simp at e; exact K1.out k q g hg e))
     have R2 := hid ((R1.out.old UU_100).chg CA.out (fun g e q => by simp at q; exact NR.out g e q))
     have UA2 := hid (show Old w (xw_100.setCells ab 0 [.int .i64 s1, .int .i64 s2, .int .i64 z, .slice a1 n1 c1, .slice a2 n2 c2, .slice a3 n3 c3]) from (UA1.out.trans UU_100).below (CA.out.below w.heap.size (fun k q => by simp at q; have := B1.out; omega) (UA1.out.trans UU_100).size))
     generalize xw_100.setCells ab 0 [.int .i64 s1, .int .i64 s2, .int .i64 z, .slice a1 n1 c1, .slice a2 n2 c2, .slice a3 n3 c3] = w4 at *
   all_goals clear A1 C1 R1 UA1 HCo HSn
   all_goals
    have OK2 := hid (show Sb.Ok (⟨s1, s2, z, a1, a2, a3, n1, n2, n3, c1, c2, c3, x1, x3, f2⟩ : Sb) w from ⟨OK.out.h1, OK.out.h2, OK.out.h3, OK.out.b1, OK.out.b2, OK.out.b3⟩)
    have HCk := hid (fun (W : World) (u : Old w4 W) => HCkA.out (⟨s1, s2, z, a1, a2, a3, n1, n2, n3, c1, c2, c3, x1, x3, f2⟩ : Sb) OK2.out W (UA2.out.trans u))
    have hck : Sb.chk (⟨s1, s2, z, a1, a2, a3, n1, n2, n3, c1, c2, c3, x1, x3, f2⟩ : Sb) = chkV s1 s2 z n1 n2 n3 x1 x3 f2 := rfl
    dsimp only at HCk
    rw [← hck] at HCk
    obtain ⟨ck, hck2⟩ : ∃ ck, Sb.chk (⟨s1, s2, z, a1, a2, a3, n1, n2, n3, c1, c2, c3, x1, x3, f2⟩ : Sb) = ck := ⟨_, rfl⟩
    rw [hck2] at HCk
    have HCK := hid hck2
    clear hck hck2
    have HCo2 := hid (fun (W : World) (u : Old w4 W) => count_old w.heap.size cb G W (C2.out.old u))
    have HHo := hid (fun (W : World) (u : Old w4 W) => horizon_old w.heap.size cb G W (C2.out.old u))
    rw [Hcn.out, HCN.out] at HCo2
    obtain ⟨hr, hhr⟩ : ∃ hr, G.c.hor = hr := ⟨_, rfl⟩
    rw [hhr] at HHo
    have HHR := hid hhr
    clear hhr
    have S6 := hid (show Sb6 ab s1 s2 z (.slice a1 n1 c1) (.slice a2 n2 c2) (.slice a3 n3 c3) w4 from (box6F A2.out).1)
    go_upto_region 9 with fail
    have hP : ck ≠ 0 ∨ (ck = 0 ∧ ¬ z ≤ cn) ∨ (ck = 0 ∧ z ≤ cn) := by by_cases h1 : ck = 0 <;> by_cases h2 : z ≤ cn <;> simp [h1, h2]
    rcases hP with hP | hP | hP
    have dk : (ck == 0) = false := by simp [hP]
    have H0b := hid (show false = true → ck = 0 ∧ z ≤ cn ∧ hr ≤ z from fun e => by cases e)
    clear hP
    refine wp_region_noPanic ?_
    refine wp_region_held_drew (S := Sb6 ab s1 s2 z (.slice a1 n1 c1) (.slice a2 n2 c2) (.slice a3 n3 c3)) (by kernel_rfl) ?_ (fun hHeld => ?_)
    ·exact Sb6.old ((Old.refl _).drew) S6.out
    try simp only [Act.put, puA, puB, puC]
    clear hHeld
    refine tkA (i := 0) (oi := oCen5) (Sb6.old ((Old.refl w4).drew) S6.out) ?_
    try simp only [Act.put, puA, puB, puC]
    refine rdB 1 oCen6 fun K hK => ?_
    refine wantCall1 ?_ 10 (.tmp 36) #[25] ?_ (.agg #[.int .i64 s1, .int .i64 s2, .int .i64 z, .slice a1 n1 c1, .slice a2 n2 c2, .slice a3 n3 c3]) ?_ ?_ ((enters_of Tryz.func10 (by kernel_rfl) rfl) _ _) ?_
    iterate 4 rfl
    refine (HCk.out _ ((Old.refl w4).drew)).mono ?_
    rintro o x2 ⟨rfl, b2⟩
    refine ⟨_, rfl, ?_⟩
    have U2 := ((Old.refl w4).drew).trans b2
    refine hK.out _ _ (Sb6.old U2 S6.out) (fun _ => ?_)
    clear hK K
    try simp only [Act.put, puA, puB, puC]
    refine tkA (i := 2) (oi := oCen7) (Sb6.old U2 S6.out) ?_
    try simp only [Act.put, puA, puB, puC]
    refine tkA (i := 3) (oi := oCen8) (Sb6.old U2 S6.out) ?_
    try simp only [Act.put, puA, puB, puC]
    refine wpAnyH_take (i := 4) (oi := oCen9) (v := undef) rfl (by kernel_rfl) (by kernel_rfl) (by kernel_rfl) (fun _ _ _ h => h) (Or.inr ⟨by rfl, rfl⟩) (Sb6.old U2 S6.out) ?_
    try simp only [Act.put, puA, puB, puC]
    refine wpAnyH_take (i := 5) (oi := oCen10) (v := undef) rfl (by kernel_rfl) (by kernel_rfl) (by kernel_rfl) (fun _ _ _ h => h) (Or.inr ⟨by rfl, rfl⟩) (Sb6.old U2 S6.out) ?_
    try simp only [Act.put, puA, puB, puC]
    refine wpAnyH_take (i := 6) (oi := oCen11) (v := undef) rfl (by kernel_rfl) (by kernel_rfl) (by kernel_rfl) (fun _ _ _ h => h) (Or.inr ⟨by rfl, rfl⟩) (Sb6.old U2 S6.out) ?_
    try simp only [Act.put, puA, puB, puC]
    refine wpAnyH_take (i := 7) (oi := oCen12) (v := undef) rfl (by kernel_rfl) (by kernel_rfl) (by kernel_rfl) (fun _ _ _ h => h) (Or.inr ⟨by rfl, rfl⟩) (Sb6.old U2 S6.out) ?_
    try simp only [Act.put, puA, puB, puC]
    refine wpAnyH_take (i := 8) (oi := oCen13) (v := undef) rfl (by kernel_rfl) (by kernel_rfl) (by kernel_rfl) (fun _ _ _ h => h) (Or.inr ⟨by rfl, rfl⟩) (Sb6.old U2 S6.out) ?_
    try simp only [Act.put, puA, puB, puC]
    refine tkA (i := 9) (oi := oCen14) (Sb6.old U2 S6.out) ?_
    try simp only [Act.put, puA, puB, puC]
    refine tkA (i := 10) (oi := oCen15) (Sb6.old U2 S6.out) ?_
    try simp only [Act.put, puA, puB, puC]
    refine wpAnyH_take (i := 11) (oi := oCen16) (v := undef) rfl (by kernel_rfl) (by kernel_rfl) (by kernel_rfl) (fun _ _ _ h => h) (Or.inr ⟨by rfl, rfl⟩) (Sb6.old U2 S6.out) ?_
    try simp only [Act.put, puA, puB, puC]
    refine wpAnyH_take (i := 12) (oi := oCen17) (v := undef) rfl (by kernel_rfl) (by kernel_rfl) (by kernel_rfl) (fun _ _ _ h => h) (Or.inr ⟨by rfl, rfl⟩) (Sb6.old U2 S6.out) ?_
    try simp only [Act.put, puA, puB, puC]
    refine wpAnyH_take (i := 13) (oi := oCen18) (v := undef) rfl (by kernel_rfl) (by kernel_rfl) (by kernel_rfl) (fun _ _ _ h => h) (Or.inr ⟨by rfl, rfl⟩) (Sb6.old U2 S6.out) ?_
    try simp only [Act.put, puA, puB, puC]
    refine wpAnyH_take (i := 14) (oi := oCen19) (v := undef) rfl (by kernel_rfl) (by kernel_rfl) (by kernel_rfl) (fun _ _ _ h => h) (Or.inr ⟨by rfl, rfl⟩) (Sb6.old U2 S6.out) ?_
    try simp only [Act.put, puA, puB, puC]
    refine wpAnyH_take (i := 15) (oi := oCen20) (v := undef) rfl (by kernel_rfl) (by kernel_rfl) (by kernel_rfl) (fun _ _ _ h => h) (Or.inr ⟨by rfl, rfl⟩) (Sb6.old U2 S6.out) ?_
    try simp only [Act.put, puA, puB, puC]
    refine tkA (i := 16) (oi := oCen21) (Sb6.old U2 S6.out) ?_
    try simp only [Act.put, puA, puB, puC]
    refine rdB 17 oCen22 fun K hK => ?_
    go_simp
    refine hK.out _ _ (Sb6.old U2 S6.out) (fun _ => ?_)
    clear hK K
    try simp only [Act.put, puA, puB, puC]
    refine wpAnyH_done (by kernel_rfl) ?_ _
    refine NoPanic.normal ?_
    have UA9 := hid U2
    generalize x2 = w5 at *
    rotate_left
    obtain ⟨hk0, hP⟩ := hP
    have dk : (ck == 0) = true := by simp [hk0]
    have dl : decide (z ≤ cn) = false := by simp [hP]
    have H0b := hid (show false = true → ck = 0 ∧ z ≤ cn ∧ hr ≤ z from fun e => by cases e)
    clear hP hk0
    refine wp_region_noPanic ?_
    refine wp_region_held_drew (S := Sb6 ab s1 s2 z (.slice a1 n1 c1) (.slice a2 n2 c2) (.slice a3 n3 c3)) (by kernel_rfl) ?_ (fun hHeld => ?_)
    ·exact Sb6.old ((Old.refl _).drew) S6.out
    try simp only [Act.put, puA, puB, puC]
    clear hHeld
    refine tkA (i := 0) (oi := oCen5) (Sb6.old ((Old.refl w4).drew) S6.out) ?_
    try simp only [Act.put, puA, puB, puC]
    refine rdB 1 oCen6 fun K hK => ?_
    refine wantCall1 ?_ 10 (.tmp 36) #[25] ?_ (.agg #[.int .i64 s1, .int .i64 s2, .int .i64 z, .slice a1 n1 c1, .slice a2 n2 c2, .slice a3 n3 c3]) ?_ ?_ ((enters_of Tryz.func10 (by kernel_rfl) rfl) _ _) ?_
    iterate 4 rfl
    refine (HCk.out _ ((Old.refl w4).drew)).mono ?_
    rintro o x9 ⟨rfl, b9⟩
    refine ⟨_, rfl, ?_⟩
    have U9 := ((Old.refl w4).drew).trans b9
    refine hK.out _ _ (Sb6.old U9 S6.out) (fun _ => ?_)
    clear hK K
    try simp only [Act.put, puA, puB, puC]
    refine tkA (i := 2) (oi := oCen7) (Sb6.old U9 S6.out) ?_
    try simp only [Act.put, puA, puB, puC]
    refine tkA (i := 3) (oi := oCen8) (Sb6.old U9 S6.out) ?_
    try simp only [Act.put, puA, puB, puC]
    refine tkA (i := 4) (oi := oCen9) (Sb6.old U9 S6.out) ?_
    try simp only [Act.put, puA, puB, puC]
    refine tkA (i := 5) (oi := oCen10) (Sb6.old U9 S6.out) ?_
    try simp only [Act.put, puA, puB, puC]
    refine tkA (i := 6) (oi := oCen11) (Sb6.old U9 S6.out) ?_
    try simp only [Act.put, puA, puB, puC]
    refine rdB 7 oCen12 fun K hK => ?_
    refine wantCall1 ?_ 11 (.tmp 42) #[26] ?_ (.pointer (some ⟨cb, 0, none⟩)) ?_ ?_ ((enters_of Tryz.func11 (by kernel_rfl) rfl) _ _) ?_
    iterate 4 rfl
    refine (HCo2.out _ U9).mono ?_
    rintro o x15 ⟨rfl, b15⟩
    refine ⟨_, rfl, ?_⟩
    have U15 := U9.trans b15
    refine hK.out _ _ (Sb6.old U15 S6.out) (fun _ => ?_)
    clear hK K
    try simp only [Act.put, puA, puB, puC]
    refine tkA (i := 8) (oi := oCen13) (Sb6.old U15 S6.out) ?_
    try simp only [Act.put, puA, puB, puC]
    refine tkA (i := 9) (oi := oCen14) (Sb6.old U15 S6.out) ?_
    try simp only [Act.put, puA, puB, puC]
    refine tkA (i := 10) (oi := oCen15) (Sb6.old U15 S6.out) ?_
    try simp only [Act.put, puA, puB, puC]
    refine wpAnyH_take (i := 11) (oi := oCen16) (v := undef) rfl (by kernel_rfl) (by kernel_rfl) (by kernel_rfl) (fun _ _ _ h => h) (Or.inr ⟨by rfl, rfl⟩) (Sb6.old U15 S6.out) ?_
    try simp only [Act.put, puA, puB, puC]
    refine wpAnyH_take (i := 12) (oi := oCen17) (v := undef) rfl (by kernel_rfl) (by kernel_rfl) (by kernel_rfl) (fun _ _ _ h => h) (Or.inr ⟨by rfl, rfl⟩) (Sb6.old U15 S6.out) ?_
    try simp only [Act.put, puA, puB, puC]
    refine wpAnyH_take (i := 13) (oi := oCen18) (v := undef) rfl (by kernel_rfl) (by kernel_rfl) (by kernel_rfl) (fun _ _ _ h => h) (Or.inr ⟨by rfl, rfl⟩) (Sb6.old U15 S6.out) ?_
    try simp only [Act.put, puA, puB, puC]
    refine wpAnyH_take (i := 14) (oi := oCen19) (v := undef) rfl (by kernel_rfl) (by kernel_rfl) (by kernel_rfl) (fun _ _ _ h => h) (Or.inr ⟨by rfl, rfl⟩) (Sb6.old U15 S6.out) ?_
    try simp only [Act.put, puA, puB, puC]
    refine wpAnyH_take (i := 15) (oi := oCen20) (v := undef) rfl (by kernel_rfl) (by kernel_rfl) (by kernel_rfl) (fun _ _ _ h => h) (Or.inr ⟨by rfl, rfl⟩) (Sb6.old U15 S6.out) ?_
    try simp only [Act.put, puA, puB, puC]
    refine tkA (i := 16) (oi := oCen21) (Sb6.old U15 S6.out) ?_
    try simp only [Act.put, puA, puB, puC]
    refine rdB 17 oCen22 fun K hK => ?_
    go_simp
    refine hK.out _ _ (Sb6.old U15 S6.out) (fun _ => ?_)
    clear hK K
    try simp only [Act.put, puA, puB, puC]
    refine wpAnyH_done (by kernel_rfl) ?_ _
    refine NoPanic.normal ?_
    have UA9 := hid U15
    generalize x15 = w5 at *
    rotate_left
    obtain ⟨hk0, hP⟩ := hP
    have dk : (ck == 0) = true := by simp [hk0]
    have dl : decide (z ≤ cn) = true := by simp [hP]
    have H0b := hid (show decide (z ≥ hr) = true → ck = 0 ∧ z ≤ cn ∧ hr ≤ z from fun e => ⟨hk0, hP, by simpa using e⟩)
    clear hP hk0
    refine wp_region_noPanic ?_
    refine wp_region_held_drew (S := Sb6 ab s1 s2 z (.slice a1 n1 c1) (.slice a2 n2 c2) (.slice a3 n3 c3)) (by kernel_rfl) ?_ (fun hHeld => ?_)
    ·exact Sb6.old ((Old.refl _).drew) S6.out
    try simp only [Act.put, puA, puB, puC]
    clear hHeld
    refine tkA (i := 0) (oi := oCen5) (Sb6.old ((Old.refl w4).drew) S6.out) ?_
    try simp only [Act.put, puA, puB, puC]
    refine rdB 1 oCen6 fun K hK => ?_
    refine wantCall1 ?_ 10 (.tmp 36) #[25] ?_ (.agg #[.int .i64 s1, .int .i64 s2, .int .i64 z, .slice a1 n1 c1, .slice a2 n2 c2, .slice a3 n3 c3]) ?_ ?_ ((enters_of Tryz.func10 (by kernel_rfl) rfl) _ _) ?_
    iterate 4 rfl
    refine (HCk.out _ ((Old.refl w4).drew)).mono ?_
    rintro o x21 ⟨rfl, b21⟩
    refine ⟨_, rfl, ?_⟩
    have U21 := ((Old.refl w4).drew).trans b21
    refine hK.out _ _ (Sb6.old U21 S6.out) (fun _ => ?_)
    clear hK K
    try simp only [Act.put, puA, puB, puC]
    refine tkA (i := 2) (oi := oCen7) (Sb6.old U21 S6.out) ?_
    try simp only [Act.put, puA, puB, puC]
    refine tkA (i := 3) (oi := oCen8) (Sb6.old U21 S6.out) ?_
    try simp only [Act.put, puA, puB, puC]
    refine tkA (i := 4) (oi := oCen9) (Sb6.old U21 S6.out) ?_
    try simp only [Act.put, puA, puB, puC]
    refine tkA (i := 5) (oi := oCen10) (Sb6.old U21 S6.out) ?_
    try simp only [Act.put, puA, puB, puC]
    refine tkA (i := 6) (oi := oCen11) (Sb6.old U21 S6.out) ?_
    try simp only [Act.put, puA, puB, puC]
    refine rdB 7 oCen12 fun K hK => ?_
    refine wantCall1 ?_ 11 (.tmp 42) #[26] ?_ (.pointer (some ⟨cb, 0, none⟩)) ?_ ?_ ((enters_of Tryz.func11 (by kernel_rfl) rfl) _ _) ?_
    iterate 4 rfl
    refine (HCo2.out _ U21).mono ?_
    rintro o x27 ⟨rfl, b27⟩
    refine ⟨_, rfl, ?_⟩
    have U27 := U21.trans b27
    refine hK.out _ _ (Sb6.old U27 S6.out) (fun _ => ?_)
    clear hK K
    try simp only [Act.put, puA, puB, puC]
    refine tkA (i := 8) (oi := oCen13) (Sb6.old U27 S6.out) ?_
    try simp only [Act.put, puA, puB, puC]
    refine tkA (i := 9) (oi := oCen14) (Sb6.old U27 S6.out) ?_
    try simp only [Act.put, puA, puB, puC]
    refine tkA (i := 10) (oi := oCen15) (Sb6.old U27 S6.out) ?_
    try simp only [Act.put, puA, puB, puC]
    refine tkA (i := 11) (oi := oCen16) (Sb6.old U27 S6.out) ?_
    try simp only [Act.put, puA, puB, puC]
    refine tkA (i := 12) (oi := oCen17) (Sb6.old U27 S6.out) ?_
    try simp only [Act.put, puA, puB, puC]
    refine tkA (i := 13) (oi := oCen18) (Sb6.old U27 S6.out) ?_
    try simp only [Act.put, puA, puB, puC]
    refine rdB 14 oCen19 fun K hK => ?_
    refine wantCall1 ?_ 14 (.tmp 49) #[26] ?_ (.pointer (some ⟨cb, 0, none⟩)) ?_ ?_ ((enters_of Tryz.func14 (by kernel_rfl) rfl) _ _) ?_
    iterate 4 rfl
    refine (HHo.out _ U27).mono ?_
    rintro o x34 ⟨rfl, b34⟩
    refine ⟨_, rfl, ?_⟩
    have U34 := U27.trans b34
    refine hK.out _ _ (Sb6.old U34 S6.out) (fun _ => ?_)
    clear hK K
    try simp only [Act.put, puA, puB, puC]
    refine tkA (i := 15) (oi := oCen20) (Sb6.old U34 S6.out) ?_
    try simp only [Act.put, puA, puB, puC]
    refine tkA (i := 16) (oi := oCen21) (Sb6.old U34 S6.out) ?_
    try simp only [Act.put, puA, puB, puC]
    refine rdB 17 oCen22 fun K hK => ?_
    go_simp
    refine hK.out _ _ (Sb6.old U34 S6.out) (fun _ => ?_)
    clear hK K
    try simp only [Act.put, puA, puB, puC]
    refine wpAnyH_done (by kernel_rfl) ?_ _
    refine NoPanic.normal ?_
    have UA9 := hid U34
    generalize x34 = w5 at *
    rotate_left
   all_goals
    have C5 := hid (C2.out.old UA9.out)
    have R5 := hid (R2.out.old UA9.out)
    have UA5 := hid (UA2.out.trans UA9.out)
    have A5 := hid (show SubB' ab s1 s2 z (.slice a1 n1 c1) (.slice a2 n2 c2) (.slice a3 n3 c3) w5 from UA9.out.block A2.out)
    clear UA9 A2 C2 R2 UA2 HCk HCo2 HHo S6
    obtain ⟨UU, hUU⟩ : ∃ UU, Sb.pl (⟨s1, s2, z, a1, a2, a3, n1, n2, n3, c1, c2, c3, x1, x3, f2⟩ : Sb) = UU := ⟨_, rfl⟩
    have HUU := hid hUU
    have HFU := hid (show UU.F from hUU ▸ Sb.plF OK2.out)
    have HU3 := hid (show UU.s3 = z from by rw [← hUU]; rfl)
    have HAp := hid (fun (d : Sb) (hd : d.Ok w) (W : World) (u : Old w W) => apart_any d (⟨s1, s2, z, a1, a2, a3, n1, n2, n3, c1, c2, c3, x1, x3, f2⟩ : Sb) W (hd.old u) (OK2.out.old u))
    rw [hUU] at HAp
    dsimp only at HAp
    clear hUU
    go_upto_region 10 with fail
    have hl0 : ln ≤ 1048576 := by omega
    go_wp2
    go_loopw [11, 55] (fun fr i wx => ∃ (q : Nat) (b : Bool), q ≤ ln ∧ i = .int .i64 (q : Nat) ∧ fr = .bool b ∧ Hid ((b = true → (ck = 0 ∧ z ≤ cn ∧ hr ≤ z) ∧ ∀ j d, j < q → L[j]? = some d → d.n ≤ z ∨ apU d.s.pl UU = true) ∧ Old w5 wx)) (fun _ i _ => ln - (intOf i).toNat)
    case atStart => exact ⟨0, _, Nat.zero_le _, rfl, rfl, hid ⟨fun e => ⟨H0b.out e, fun j d hj => by omega⟩, Old.refl _⟩⟩
    case round =>
     clear H0b
     obtain ⟨q, b, hq, rfl, rfl, HJ⟩ := hrel
     have m1 : (0 : Int) ≤ (q : Int) := by omega
     by_cases hql : q < ln
     ·have m2 : (q : Int) < (ln : Int) := by omega
      have Uq := hid (UA5.out.trans HJ.out.2)
      have Aq := hid (HJ.out.2.block A5.out)
      obtain ⟨gd, cap, ev, dq⟩ := (R5.out.old HJ.out.2).at q (by have := HLn.out; omega)
      have DOk := hid (R5.out.ok _ (List.getElem_mem (show q < L.length by have := HLn.out; omega)))
      have Dg := hid (List.getElem?_eq_getElem (show q < L.length by have := HLn.out; omega))
      simp only [Value.slice.injEq] at ev
      obtain ⟨rfl, -, rfl⟩ := ev
      generalize L[q]'(by have := HLn.out; omega) = d at *
      obtain ⟨dn, e1, e2, e3, ea1, ea2, ea3, en1, en2, en3, ec1, ec2, ec3, ex1, ex3, ef2⟩ := d
      obtain ⟨t0, t1, t2, t3, t4, t5, t6⟩ := dq
      dsimp only at t0 t1 t2 t3 t4 t5 t6
      have HApd := hid (HAp.out (⟨e1, e2, e3, ea1, ea2, ea3, en1, en2, en3, ec1, ec2, ec3, ex1, ex3, ef2⟩ : Sb) DOk.out)
      dsimp only at HApd
      have HSt := hid (show ∀ b' : Bool, (b' = true → b = true ∧ (dn ≤ z ∨ apU (Sb.pl (⟨e1, e2, e3, ea1, ea2, ea3, en1, en2, en3, ec1, ec2, ec3, ex1, ex3, ef2⟩ : Sb)) UU = true)) → b' = true → (ck = 0 ∧ z ≤ cn ∧ hr ≤ z) ∧ ∀ j d, j < q + 1 → L[j]? = some d → d.n ≤ z ∨ apU d.s.pl UU = true from fun b' h e => by
       obtain ⟨hb, hd⟩ := h e
       refine ⟨(HJ.out.1 hb).1, fun j d hj hjd => ?_⟩
       by_cases zz : j = q
       ·subst zz
        rw [Dg.out] at hjd
        cases hjd
        exact hd
       ·exact (HJ.out.1 hb).2 j d (by omega) hjd)
      obtain ⟨ap, hap⟩ : ∃ ap, apU (Sb.pl (⟨e1, e2, e3, ea1, ea2, ea3, en1, en2, en3, ec1, ec2, ec3, ex1, ex3, ef2⟩ : Sb)) UU = ap := ⟨_, rfl⟩
      rw [hap] at HApd HSt
      clear hap HAp DOk Dg
      go_upto_region 13 with fail
      have Xb := hid (box7D (alloc_at wr (.cells #[.int .i64 dn, .int .i64 e1, .int .i64 e2, .int .i64 e3, .slice ea1 en1 ec1, .slice ea2 en2 ec2, .slice ea3 en3 ec3] 45)))
      have Uy := hid (Uq.out.trans ((Old.refl wr).alloc (.cells #[.int .i64 dn, .int .i64 e1, .int .i64 e2, .int .i64 e3, .slice ea1 en1 ec1, .slice ea2 en2 ec2, .slice ea3 en3 ec3] 45)))
      have Vy := hid (HJ.out.2.trans ((Old.refl wr).alloc (.cells #[.int .i64 dn, .int .i64 e1, .int .i64 e2, .int .i64 e3, .slice ea1 en1 ec1, .slice ea2 en2 ec2, .slice ea3 en3 ec3] 45)))
      have Ay := hid (((Old.refl wr).alloc (.cells #[.int .i64 dn, .int .i64 e1, .int .i64 e2, .int .i64 e3, .slice ea1 en1 ec1, .slice ea2 en2 ec2, .slice ea3 en3 ec3] 45)).block Aq.out)
      clear t0 t1 t2 t3 t4 t5 t6 Uq Aq
      generalize wr.alloc (.cells #[.int .i64 dn, .int .i64 e1, .int .i64 e2, .int .i64 e3, .slice ea1 en1 ec1, .slice ea2 en2 ec2, .slice ea3 en3 ec3] 45) = wy at *
      generalize wr.heap.size = xb at *
      obtain ⟨x0, x1', x2', x3', x4, x5, x6⟩ := Xb.out
      obtain ⟨⟨y0, y1, y2, y3, y4, y5⟩, -⟩ := box6F Ay.out
      cases b
      ·go_wp2
       go_roundw
       case rel => exact ⟨q + 1, false, hql, by go_num, rfl, hid ⟨HSt.out false (fun e => by cases e), Vy.out⟩⟩
       case measure => simp [intOf]; omega
      ·by_cases hd : dn ≤ z
       ·have d1 : decide (dn ≤ z) = true := by simp [hd]
        go_wp2
        go_roundw
        case rel => exact ⟨q + 1, true, hql, by go_num, rfl, hid ⟨HSt.out true (fun _ => ⟨(by first | rfl | trivial), .inl hd⟩), Vy.out⟩⟩
        case measure => simp [intOf]; omega
       ·have d1 : decide (dn ≤ z) = false := by simp [hd]
        go_wp2_with (go_at_call 16; refine (HApd.out _ Uy.out).mono ?_; rintro e wv ⟨rfl, ov⟩; have Ov := hid (Vy.out.trans ov); clear ov)
        go_roundw
        case rel => exact ⟨q + 1, ap, hql, by go_num, rfl, hid ⟨HSt.out ap (fun e => ⟨(by first | rfl | trivial), .inr e⟩), Ov.out⟩⟩
        case measure => simp [intOf]; omega
     ·obtain rfl : q = ln := by omega
      have Cz := hid (C5.out.old HJ.out.2)
      have Rz := hid (R5.out.old HJ.out.2)
      have Uz := hid (UA5.out.trans HJ.out.2)
      have Az := hid (HJ.out.2.block A5.out)
      have HDec := hid (H0.out.dec (by have := HLn.out; omega) UU HFU.out ck b (fun e => by
       obtain ⟨⟨h1, h2, h3⟩, h4⟩ := HJ.out.1 e
       refine ⟨⟨h1, by rw [HU3.out, Hcn.out, HCN.out]; exact h2, by rw [HU3.out, HHR.out]; exact h3⟩, fun x hx => ?_⟩
       obtain ⟨j, hj, rfl⟩ := List.getElem_of_mem hx
       rw [HU3.out]
       exact h4 j _ (by have := HLn.out; omega) (List.getElem?_eq_getElem hj)))
      have DC := hid (decide_any (⟨s1, s2, z, a1, a2, a3, n1, n2, n3, c1, c2, c3, x1, x3, f2⟩ : Sb) w.heap.size cb G wr (OK2.out.old Uz.out) (Sb.arg_far OK2.out (fun k q => (Cz.out.lt k q).1)) Cz.out H0.out.ok)
      rw [HCK.out, HUU.out] at DC
      obtain ⟨rr, hrr⟩ : ∃ rr, decC G.c UU ck = rr := ⟨_, rfl⟩
      rw [hrr] at DC HDec
      clear hrr HAp R5 C5 UA5 A5 HJ
      obtain ⟨rc, rn, rp⟩ := rr
      unfold DePost at DC
      dsimp only at DC
      obtain ⟨⟨y0, y1, y2, y3, y4, y5⟩, -⟩ := box6F Az.out
      have NA := hid (N1.out)
      go_upto_region 16 with (go_at_call 9; refine DC.out.mono ?_; rintro e w7 ⟨G7, rfl, h7, m7, c7, -⟩; have C7 := hid h7; have G7c := hid c7; have R7 := hid (Rz.out.mov m7); have UA7 := hid (m7.keep Uz.out Cz.out); have A7 := hid (m7.1.heapAt Az.out NA.out); clear h7 m7 c7)
      clear y0 y1 y2 y3 y4 y5 DC Cz Rz Uz Az
      have UA8 := hid (UA7.out.trans ((Old.refl w7).alloc (.cells #[.int .i64 rc, .int .i64 rn] 33)))
      have C8 := hid (C7.out.old ((Old.refl w7).alloc (.cells #[.int .i64 rc, .int .i64 rn] 33)))
      have R8 := hid (R7.out.old ((Old.refl w7).alloc (.cells #[.int .i64 rc, .int .i64 rn] 33)))
      have A8 := hid (((Old.refl w7).alloc (.cells #[.int .i64 rc, .int .i64 rn] 33)).block A7.out)
      have X8 := hid (alloc_at w7 (.cells #[.int .i64 rc, .int .i64 rn] 33))
      clear C7 R7 UA7 A7
      generalize w7.alloc (.cells #[.int .i64 rc, .int .i64 rn] 33) = w8 at *
      generalize w7.heap.size = xb at *
      obtain ⟨⟨v0, v1⟩, -⟩ := box2V X8.out
      unfold FrR at HDec
      dsimp only at HDec
      by_cases hz : rc = 0
      ·subst hz
       obtain ⟨hrn, HD⟩ := HDec.out.2.2 rfl
       rw [HLn.out] at hrn
       subst hrn
       have HDD := hid HD
       clear HDec HD
       have zb : (q : Int) ≤ 1048576 := by omega
       have hd := HDD.out (⟨s1, s2, z, a1, a2, a3, n1, n2, n3, c1, c2, c3, x1, x3, f2⟩ : Sb) HUU.out
       rw [HLn.out] at hd
       have HDN := hid hd
       clear hd HDD
       cases b
       all_goals
        go_upto_region 21 with fail
        have U9x := hid (UA8.out.trans ((Old.refl w8).alloc (.cells #[.int .i64 ((q : Int) + 1), .int .i64 s1, .int .i64 s2, .int .i64 z, .slice a1 n1 c1, .slice a2 n2 c2, .slice a3 n3 c3] 45)))
        have C9 := hid (C8.out.old ((Old.refl w8).alloc (.cells #[.int .i64 ((q : Int) + 1), .int .i64 s1, .int .i64 s2, .int .i64 z, .slice a1 n1 c1, .slice a2 n2 c2, .slice a3 n3 c3] 45)))
        have R9 := hid (R8.out.old ((Old.refl w8).alloc (.cells #[.int .i64 ((q : Int) + 1), .int .i64 s1, .int .i64 s2, .int .i64 z, .slice a1 n1 c1, .slice a2 n2 c2, .slice a3 n3 c3] 45)))
        have DX := hid (show DnIn (w8.alloc (.cells #[.int .i64 ((q : Int) + 1), .int .i64 s1, .int .i64 s2, .int .i64 z, .slice a1 n1 c1, .slice a2 n2 c2, .slice a3 n3 c3] 45)) w8.heap.size 0 ⟨(q : Int) + 1, (⟨s1, s2, z, a1, a2, a3, n1, n2, n3, c1, c2, c3, x1, x3, f2⟩ : Sb)⟩ from box7D (alloc_at w8 (.cells #[.int .i64 ((q : Int) + 1), .int .i64 s1, .int .i64 s2, .int .i64 z, .slice a1 n1 c1, .slice a2 n2 c2, .slice a3 n3 c3] 45)))
        have hL1 : L.length ≤ 1048576 := by have := HLn.out; omega
        obtain ⟨⟨y0, y1, y2, y3, y4, y5⟩, -⟩ := box6F A8.out
        go_wp2_with (at_builtin; refine wp_appDn rfl (.tmp 92) (.tmp 97) rfl w.heap.size (.slice va q vc) L w8.heap.size ⟨(q : Int) + 1, (⟨s1, s2, z, a1, a2, a3, n1, n2, n3, c1, c2, c3, x1, x3, f2⟩ : Sb)⟩ rfl rfl R9.out.row DX.out hL1 U9x.out.size ?_; intro v' w9 h1 h2 h3; have P9 := hid (R9.out.put C9.out OK2.out h1 h2 h3 U9x.out); clear h1 h2 h3)
        go_roundw
        case rel =>
         refine ⟨k + 1, L ++ [⟨(q : Int) + 1, (⟨s1, s2, z, a1, a2, a3, n1, n2, n3, c1, c2, c3, x1, x3, f2⟩ : Sb)⟩], hlt, by simp; have := HLn.out; omega, by go_num, hid ⟨G7, P9.out.2.1, P9.out.1, P9.out.2.2, ?_⟩⟩
         obtain ⟨D1, h1, h2, h3⟩ := HDN.out
         exact ⟨D1, by rw [G7c.out]; exact h1, by simp [h2, HLn.out], h3⟩
        case measure => simp [intOf]; omega
      ·obtain ⟨rfl, hG⟩ := HDec.out.2.1 hz
       obtain rfl : b = false := by
        cases b
        ·rfl
        ·exact absurd (HDec.out.1 rfl) hz
       have HGG := hid hG
       clear HDec hG
       have d1 : (rc == 0) = false := by simp [hz]
       have d2 : (rc != 0) = true := by simp [hz]
       go_wp2
       go_roundw
       case rel =>
        refine ⟨k + 1, L, hlt, by have := HLn.out; omega, by go_num, hid ⟨G7, C8.out, R8.out, UA8.out, ?_⟩⟩
        obtain ⟨D0, h1, h2, h3⟩ := H0.out.h
        exact ⟨D0, by rw [G7c.out, HGG.out]; exact h1, h2, h3⟩
       case measure => simp [intOf]; omega
  ·obtain rfl : k = n := by omega
   have HCn := hid (count_any _ _ _ wr H0.out.c)
   rw [Hcn.out] at HCn
   have HU := hid H0.out.u
   clear H0 HR
   go_wp2_with (go_at_call 11; refine HCn.out.mono ?_; rintro e w_ ⟨rfl, hw_⟩; subst hw_)
   go_ret
   exact ⟨rfl, HU.out⟩
end Go.Proofs.YtfpadkgienjjpaaGreat
