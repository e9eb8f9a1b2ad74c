/- Cert.Recent at every Cert; conditions: it lies in memory. -/
import Derived.Test.YtgeinnaljlajoaaGreatSqa
import Derived.Test.YtgeinnaljlajoaaGreatCxQ
import Derived.Test.YtgeinnaljlajoaaGreatCxM
namespace Go.Proofs.YtgeinnaljlajoaaGreat
abbrev oCec0 : Oper := { dst := some 15, op := .move (.tmp 3), type := 42, pos := "cert.go:133", after := #[], guard := none }
abbrev oCec1 : Oper := { dst := some 16, op := .fieldAddr 93 (.tmp 5) 0, type := 0, pos := "cert.go:133", after := #[], guard := none }
abbrev oCec2 : Oper := { dst := some 17, op := .fieldAddr 44 (.tmp 16) 0, type := 0, pos := "cert.go:133", after := #[⟨1, .data⟩], guard := none }
abbrev oCec3 : Oper := { dst := some 18, op := .load 2 (.tmp 17), type := 2, pos := "cert.go:133", after := #[⟨2, .data⟩], guard := none }
abbrev oCec4 : Oper := { dst := some 19, op := .fieldAddr 93 (.tmp 5) 0, type := 0, pos := "cert.go:133", after := #[], guard := none }
abbrev oCec5 : Oper := { dst := some 20, op := .fieldAddr 44 (.tmp 19) 1, type := 0, pos := "cert.go:133", after := #[⟨4, .data⟩], guard := none }
abbrev oCec6 : Oper := { dst := some 21, op := .load 25 (.tmp 20), type := 25, pos := "cert.go:133", after := #[⟨5, .data⟩], guard := none }
abbrev oCec7 : Oper := { dst := some 22, op := .call { callee := Callee.value (.func 48), args := #[.tmp 21], argTypes := #[25] }, type := 25, pos := "cert.go:133", after := #[⟨6, .data⟩], guard := none }
abbrev oCec8 : Oper := { dst := some 23, op := .build 44 #[(0, .tmp 18), (1, .tmp 22)], type := 44, pos := "cert.go:133", after := #[⟨3, .data⟩, ⟨7, .data⟩], guard := none }
abbrev oCec9 : Oper := { dst := some 24, op := .buildSlice 42 1 #[(0, .tmp 23)], type := 42, pos := "cert.go:133", after := #[⟨8, .data⟩], guard := none }
abbrev oCec10 : Oper := { dst := some 25, op := .call { callee := Callee.builtin Builtin.append, args := #[.tmp 15, .tmp 24], argTypes := #[42, 42] }, type := 42, pos := "cert.go:133", after := #[⟨0, .data⟩, ⟨9, .data⟩, ⟨7, .chain⟩], guard := none }
abbrev oCec11 : Oper := { dst := some 3, op := .assign (.tmp 25), type := 42, pos := "cert.go:133", after := #[⟨10, .data⟩, ⟨10, .chain⟩, ⟨0, .phase⟩, ⟨1, .phase⟩, ⟨2, .phase⟩, ⟨3, .phase⟩, ⟨4, .phase⟩, ⟨5, .phase⟩, ⟨6, .phase⟩, ⟨7, .phase⟩, ⟨8, .phase⟩, ⟨9, .phase⟩, ⟨10, .phase⟩], guard := none }
open Go.RowKit Go.Lib
set_option linter.unusedVariables false
set_option linter.unusedSimpArgs false
set_option maxRecDepth 20000
attribute [local go_sem] run_bits run_frombits run_store_float eqF
def dgc (k : Kg) : List Value := [.int .i64 k.p.n, .int .i64 k.p.u.s1, .int .i64 k.p.u.s2, .int .i64 k.p.u.s3, k.v1, k.v2, k.v3]
def dgcs (L : List Kg) : List Value := L.flatMap dgc
theorem dgcs_len (L : List Kg) : (dgcs L).length = L.length * 7 := flat_len dgc 7 (fun _ => rfl) L
theorem dgcs_app (L M : List Kg) : dgcs L ++ dgcs M = dgcs (L ++ M) := by simp [dgcs]
theorem dgcs_one (L : List Kg) : ∀ u ∈ dgcs L, u.oneCell' = true := by
 intro u hu
 obtain ⟨k, _, h⟩ := List.mem_flatMap.1 hu
 simp only [dgc, List.mem_cons, List.not_mem_nil, or_false] at h
 rcases h with rfl | rfl | rfl | rfl | rfl | rfl | rfl <;> rfl
theorem infoDg : (Tryz.prog.info? 44).map (fun i => (i.zero, i.size, i.bytes)) = some (some (.agg #[.int .i64 0, .int .i64 0, .int .i64 0, .int .i64 0, .slice none 0 0, .slice none 0 0, .slice none 0 0]), 7, 104) := by kernel_rfl
abbrev DB7 (m : Nat) (n s1 s2 s3 : Int) (v1 v2 v3 : Value) (w : World) : Prop := w.cell? ⟨m, 0, none⟩ = some (.int .i64 n) ∧ w.cell? ⟨m, 1, none⟩ = some (.int .i64 s1) ∧ w.cell? ⟨m, 2, none⟩ = some (.int .i64 s2) ∧ w.cell? ⟨m, 3, none⟩ = some (.int .i64 s3) ∧ w.cell? ⟨m, 4, none⟩ = some v1 ∧ w.cell? ⟨m, 5, none⟩ = some v2 ∧ w.cell? ⟨m, 6, none⟩ = some v3
theorem box7D {w : World} {b : Nat} {n s1 s2 s3 : Int} {v1 v2 v3 : Value} {T : TypeId} (h : w.heap[b]? = some (.cells #[.int .i64 n, .int .i64 s1, .int .i64 s2, .int .i64 s3, v1, v2, v3] T (0, 0))) : DB7 b n s1 s2 s3 v1 v2 v3 w := by
 refine ⟨?_, ?_, ?_, ?_, ?_, ?_, ?_⟩ <;> (rw [Go.Joins.cell_of_block h]; rfl)
theorem stepBuildDn {ops : Array Oper} {o : Oper} {a : Act} {w : World} {K : Act → World → Prop} {Q : Exit → Act → World → Prop} {E : Prop} (hg : o.guard = none) (x : Operand) (hop : o.op = Op.buildSlice 42 1 #[(0, x)]) (n s1 s2 s3 : Int) (p1 p2 p3 : Option Addr) (n1 c1 n2 c2 n3 c3 : Nat)
    (hx : a.eval x = .agg #[.int .i64 n, .int .i64 s1, .int .i64 s2, .int .i64 s3, .slice p1 n1 c1, .slice p2 n2 c2, .slice p3 n3 c3])
    (hK : ∀ m w', m = w.heap.size → w' = w.alloc (.cells #[.int .i64 n, .int .i64 s1, .int .i64 s2, .int .i64 s3, .slice p1 n1 c1, .slice p2 n2 c2, .slice p3 n3 c3] 44) → K (a.put o.dst (.slice (some ⟨m, 0, none⟩) 1 1)) w') :
    if Region.wanted o (yielded ops a.tmps) = true then Oper.wp Tryz.prog o a w K Q else E := by
 have hw : Region.wanted o (yielded ops a.tmps) = true := by simp [Region.wanted, hg]
 rw [if_pos hw]
 obtain ⟨d, p', t, ps, af, gd⟩ := o
 subst hop
 unfold Oper.wp execOp
 simp only [List.map_toArray, List.map_cons, List.map_nil, hx]
 go_simp
 exact hK _ _ rfl rfl
theorem step_appDn {ops : Array Oper} {o : Oper} {a : Act} {w : World} {K : Act → World → Prop} {Q : Exit → Act → World → Prop} {E : Prop} (hgd : o.guard = none) (s x : Operand)
    (ho : o.op = .call { callee := .builtin .append, args := #[s, x], argTypes := #[42, 42] }) (base : Nat) (v : Value) (L : List Kg) (g : Nat) (k : Kg)
    (hs : a.eval s = v) (hx : a.eval x = .slice (some ⟨g, 0, none⟩) 1 1) (hown : w.ownsRow base 44 7 v L.length (dgcs L)) (hc : DB7 g k.p.n k.p.u.s1 k.p.u.s2 k.p.u.s3 k.v1 k.v2 k.v3 w) (hb : L.length ≤ 40) (hbase : base ≤ w.heap.size)
    (h : ∀ v' w', w'.ownsRow base 44 7 v' (L ++ [k]).length (dgcs (L ++ [k])) → w.grownBy w' v.ownBlock → (v'.ownBlock = v.ownBlock ∨ v'.ownBlock = some w.heap.size) → K (a.put o.dst v') w') :
    if Region.wanted o (yielded ops a.tmps) = true then Oper.wp Tryz.prog o a w K Q else E := by
 refine step_liftC hgd ?_
 obtain ⟨i0, hi, hz0, hz1, hz2⟩ := info_parts infoDg
 refine wpList_append_own_at w hgd s x 42 ho base 44 i0 _ 7 104 Tryz.underlying42 hi hz0 hz1 hz2 rfl (by decide) v L.length (dgcs L) hs hown ⟨g, 0, none⟩ 1 1 (dgcs [k]) hx rfl ?_ (dgcs_one _) (by unfold maxLen; omega) (by omega) hbase ?_
 ·intro j u hj
  rw [Go.WideShapes.add_plain, Nat.zero_add]
  obtain ⟨x0, x1, x2, x3, x4, x5, x6⟩ := hc
  match j with
  | 0 => simp [dgcs, dgc] at hj; subst hj; exact x0
  | 1 => simp [dgcs, dgc] at hj; subst hj; exact x1
  | 2 => simp [dgcs, dgc] at hj; subst hj; exact x2
  | 3 => simp [dgcs, dgc] at hj; subst hj; exact x3
  | 4 => simp [dgcs, dgc] at hj; subst hj; exact x4
  | 5 => simp [dgcs, dgc] at hj; subst hj; exact x5
  | 6 => simp [dgcs, dgc] at hj; subst hj; exact x6
  | j + 7 => simp [dgcs, dgc] at hj
 ·intro v' w' h1 h2 h3 h4
  unfold wpList
  rw [dgcs_app] at h1
  exact ⟨rfl, h v' w' (by rw [List.length_append]; exact h1) h2 h4⟩
theorem dn_len {base : Nat} {w : World} {v : Value} {L : List Kg} (h : w.ownsRow base 44 7 v L.length (dgcs L)) : ∃ a c, v = .slice a L.length c := by
 rcases h.2 with ⟨rfl, e⟩ | ⟨g, cap, cur, rfl, _⟩
 ·exact ⟨none, 0, by rw [e]⟩
 ·exact ⟨_, _, rfl⟩
structure DRw (base : Nat) (v : Value) (L : List Kg) (w : World) : Prop where
 row : w.ownsRow base 44 7 v L.length (dgcs L)
 kk : ∀ k ∈ L, KOk base k w
theorem DRw.old {base : Nat} {v : Value} {L : List Kg} {w w' : World} (h : DRw base v L w) (u : Old w w') : DRw base v L w' := ⟨own_old h.row u, fun k q => (h.kk k q).old u⟩
theorem own_apart {base b2 : Nat} {k : Kg} {w : World} (h : KOk base k w) {v : Value} {n : Nat} {xs : List Value} (o : w.ownsRow b2 44 7 v n xs) {g : Nat} (hg : g ∈ k.bl) (e : v.ownBlock = some g) : False := by
 obtain ⟨cur, q⟩ := own_ty o e
 exact kbl_ne h q (by decide) (by decide) hg
theorem take_map {β : Type} (L : List Kp) (j : Nat) (k : Kp) (h : L[j]? = some k) (f : Kp → β) : (L.take (j + 1)).map f = (L.take j).map f ++ [f k] := by
 obtain ⟨hj, e⟩ := List.getElem?_eq_some_iff.1 h
 rw [List.take_succ_eq_append_getElem hj, List.map_append, e]
 rfl
def RePost (G : Cg) (w : World) (e : Ending) (w' : World) : Prop := ∃ v L, e = .returned v ∧ DRw w.heap.size v L w' ∧ L.map (·.p.n) = G.c.rc.map (·.n) ∧ L.map (·.p.u) = G.c.rc.map (·.u) ∧ Old w w'
abbrev KBS (m : Nat) (n s1 s2 s3 : Int) (v1 v2 v3 : Value) (o : Bool) (w : World) : Prop := w.cell? ⟨m, 0, none⟩ = some (.int .i64 n) ∧ w.cell? ⟨m, 1, none⟩ = some (.int .i64 s1) ∧ w.cell? ⟨m, 2, none⟩ = some (.int .i64 s2) ∧ w.cell? ⟨m, 3, none⟩ = some (.int .i64 s3) ∧ w.cell? ⟨m, 4, none⟩ = some v1 ∧ w.cell? ⟨m, 5, none⟩ = some v2 ∧ w.cell? ⟨m, 6, none⟩ = some v3 ∧ w.cell? ⟨m, 7, none⟩ = some (.bool o)
theorem KBS.old {m : Nat} {n s1 s2 s3 : Int} {v1 v2 v3 : Value} {o : Bool} {w w' : World} (u : Old w w') (h : KBS m n s1 s2 s3 v1 v2 v3 o w) : KBS m n s1 s2 s3 v1 v2 v3 o w' := ⟨u.keep h.1, u.keep h.2.1, u.keep h.2.2.1, u.keep h.2.2.2.1, u.keep h.2.2.2.2.1, u.keep h.2.2.2.2.2.1, u.keep h.2.2.2.2.2.2.1, u.keep h.2.2.2.2.2.2.2⟩
theorem KBS.chg {m : Nat} {n s1 s2 s3 : Int} {v1 v2 v3 : Value} {o : Bool} {S : List Nat} {w w' : World} (u : Chg S w w') (h : KBS m n s1 s2 s3 v1 v2 v3 o w) (k : m ∉ S) : KBS m n s1 s2 s3 v1 v2 v3 o w' := KB8.chg h u k
set_option maxHeartbeats 8000000 in
theorem recent_any (base cb : Nat) (G : Cg) (w : World) (h : CtAt base cb G w) (ok : CpOk G.c) :
    Calls Tryz.prog 21 #[.pointer (some ⟨cb, 0, none⟩)] w fun e w' => RePost G w e w' := by
 have HKn := hid (fun (W : World) (u : Old w W) (k : Kg) (hk : k ∈ G.kn) => (h.kk k hk).old u)
 have HRw := hid h.row
 have HKp := hid h.kp
 have HLn := hid (show G.kn.length ≤ 32 from by have a1 := ok.r; rw [← h.kp, List.length_map] at a1; have := ok.k2; omega)
 have HCB := hid h.cells.1
 obtain ⟨⟨ke, mo, cn, ho, rc, lw, lm, lr, ls⟩, kn, vr, ⟨t1, t2, t3, t4⟩, V⟩ := G
 dsimp only at HKn HRw HKp HLn HCB
 clear h ok
 obtain ⟨va, vc, hvr, hvc, hvm⟩ := krow_len HRw.out
 subst hvr
 obtain ⟨n, hn⟩ : ∃ n, kn.length = n := ⟨_, rfl⟩
 have HNl := hid hn
 rw [hn] at HRw HLn HCB hvc
 clear hn
 have hn32 : (n : Int) ≤ 32 := by have := HLn.out; omega
 go_enter Tryz.func21, Tryz.ntmps21
 obtain ⟨e0, e1, e2, e3, e4, e5, e6, e7⟩ := HCB.out
 go_upto_region 3 with fail
 clear e0 e1 e2 e3 e4 e5 e6 e7
 go_wp2
 go_loopw [3, 11] (fun v i wx => ∃ (j : Nat) (L : List Kg) (va' : Option Addr) (vc' : Nat), j ≤ n ∧ i = .int .i64 (j : Nat) ∧ v = .slice va' j vc' ∧ Hid (DRw w.heap.size (.slice va' j vc') L wx ∧ L.length = j ∧ L.map (·.p.n) = (rc.take j).map (·.n) ∧ L.map (·.p.u) = (rc.take j).map (·.u) ∧ Old w wx)) (fun _ i _ => n - (intOf i).toNat)
 case atStart => exact ⟨0, [], none, 0, Nat.zero_le _, rfl, rfl, hid ⟨⟨World.ownsRow_nil _ _ _ _, fun k q => by cases q⟩, rfl, rfl, rfl, Old.refl _⟩⟩
 case round =>
  obtain ⟨j, L, va', vc', hj, rfl, rfl, HI⟩ := hrel
  by_cases hlt : j < n
  ·have hjk : j < kn.length := by rw [HNl.out]; exact hlt
   obtain ⟨g, cap, ev, -, -, -, hki⟩ := krow_at (by rw [HNl.out]; exact HRw.out) (by omega)
   simp only [Value.slice.injEq] at ev
   obtain ⟨rfl, -, -⟩ := ev
   have HKI := hid ((hki j hjk).old HI.out.2.2.2.2)
   have HKm := hid (HKn.out wr HI.out.2.2.2.2 kn[j] (List.getElem_mem hjk))
   have HRj := hid (show rc[j]? = some kn[j].p from by rw [← HKp.out, List.getElem?_map, List.getElem?_eq_getElem hjk]; rfl)
   generalize kn[j] = K at *
   clear hki hjk
   have l1' : (0 : Int) ≤ (j : Int) := by omega
   have l2' : (j : Int) < (n : Int) := by omega
   have HCl := hid (fun (W : World) (u : Old wr W) => clone_any K.sb W (HKm.out.old u).sb)
   have HFw := hid (And.intro HKm.out.f HKm.out.few)
   unfold ClPost at HCl
   unfold Kg.sb at HCl
   dsimp only at HCl
   rw [lsG_getD, lsG_getD, lsG_getD] at HCl
   obtain ⟨z0, z1, z2, z3, z4, z5, z6, z7⟩ := HKI.out
   unfold Kg.v1 at z4
   unfold Kg.v2 at z5
   unfold Kg.v3 at z6
   clear HKI HKm
   obtain ⟨⟨kn0, ⟨k1, k2, k3, kR, kP, kW⟩, ko⟩, ka1, ka2, ka3, kc1, kc2, kc3⟩ := K
   dsimp only at z0 z1 z2 z3 z4 z5 z6 z7 HCl HRj HFw
   obtain ⟨l1, hl1⟩ : ∃ l1, kR.length = l1 := ⟨_, rfl⟩
   obtain ⟨l2, hl2⟩ : ∃ l2, kP.length = l2 := ⟨_, rfl⟩
   obtain ⟨l3, hl3⟩ : ∃ l3, kW.length = l3 := ⟨_, rfl⟩
   have HLL := hid (And.intro hl1 (And.intro hl2 hl3))
   rw [hl1] at z4 HCl
   rw [hl2] at z5 HCl
   rw [hl3] at z6 HCl
   clear hl1 hl2 hl3
   go_upto_region 5 with fail
   have UJ := hid ((Old.refl wr).alloc (.cells #[.int .i64 kn0, .int .i64 k1, .int .i64 k2, .int .i64 k3, .slice ka1 l1 kc1, .slice ka2 l2 kc2, .slice ka3 l3 kc3, .bool ko] 93))
   have BJ := hid (show KBS wr.heap.size kn0 k1 k2 k3 (.slice ka1 l1 kc1) (.slice ka2 l2 kc2) (.slice ka3 l3 kc3) ko (wr.alloc (.cells #[.int .i64 kn0, .int .i64 k1, .int .i64 k2, .int .i64 k3, .slice ka1 l1 kc1, .slice ka2 l2 kc2, .slice ka3 l3 kc3, .bool ko] 93)) from box8K (alloc_at wr (.cells #[.int .i64 kn0, .int .i64 k1, .int .i64 k2, .int .i64 k3, .slice ka1 l1 kc1, .slice ka2 l2 kc2, .slice ka3 l3 kc3, .bool ko] 93)))
   have HKb := hid (heap_lt (alloc_at wr (.cells #[.int .i64 kn0, .int .i64 k1, .int .i64 k2, .int .i64 k3, .slice ka1 l1 kc1, .slice ka2 l2 kc2, .slice ka3 l3 kc3, .bool ko] 93)))
   have HI2 := hid (HI.out.1.old UJ.out)
   have HVn := hid (show ∀ g, (Value.slice va' j vc').ownBlock = some g → g < wr.heap.size from fun g e => (World.ownsRow.lt HI.out.1.row g e).2)
   generalize wr.alloc (.cells #[.int .i64 kn0, .int .i64 k1, .int .i64 k2, .int .i64 k3, .slice ka1 l1 kc1, .slice ka2 l2 kc2, .slice ka3 l3 kc3, .bool ko] 93) = wj at *
   have HBw := hid (show w.heap.size ≤ wr.heap.size from HI.out.2.2.2.2.size)
   generalize hkb : wr.heap.size = kb at *
   have HKB := hid hkb
   clear z0 z1 z2 z3 z4 z5 z6 z7 hkb
   have HBj := hid (show w.heap.size ≤ wj.heap.size from Nat.le_trans HBw.out (by have := HKb.out; omega))
   focus
    refine wp_region_noPanic ?_
    refine wp_region_held_drew (S := KBS kb kn0 k1 k2 k3 (.slice ka1 l1 kc1) (.slice ka2 l2 kc2) (.slice ka3 l3 kc3) ko) (by kernel_rfl) ?_ (fun hHeld => ?_)
    ·exact KBS.old ((Old.refl wj).drew) BJ.out
    try simp only [Act.put, puA, puB, puC]
    clear hHeld
    all_goals
     refine atA [false, false, false, false, false, false, false, false, false, false, false, false] ?_
     refine tkA (i := 0) (oi := oCec0) (KBS.old ((Old.refl wj).drew) BJ.out) ?_
     try simp only [Act.put, puA, puB, puC]
     refine tkA (i := 1) (oi := oCec1) (KBS.old ((Old.refl wj).drew) BJ.out) ?_
     try simp only [Act.put, puA, puB, puC]
     refine tkA (i := 2) (oi := oCec2) (KBS.old ((Old.refl wj).drew) BJ.out) ?_
     try simp only [Act.put, puA, puB, puC]
     refine tkA (i := 3) (oi := oCec3) (KBS.old ((Old.refl wj).drew) BJ.out) ?_
     try simp only [Act.put, puA, puB, puC]
     refine tkA (i := 4) (oi := oCec4) (KBS.old ((Old.refl wj).drew) BJ.out) ?_
     try simp only [Act.put, puA, puB, puC]
     refine tkA (i := 5) (oi := oCec5) (KBS.old ((Old.refl wj).drew) BJ.out) ?_
     try simp only [Act.put, puA, puB, puC]
     refine tkA (i := 6) (oi := oCec6) (KBS.old ((Old.refl wj).drew) BJ.out) ?_
     try simp only [Act.put, puA, puB, puC]
     refine rdA [7] ?_
     refine AllReadyH.cons (o := oCec7) rfl (fun K hK => ?_) AllReadyH.nil
     refine wantCall1 ?_ 48 (.tmp 21) #[25] ?_ (.agg #[.int .i64 k1, .int .i64 k2, .int .i64 k3, .slice ka1 l1 kc1, .slice ka2 l2 kc2, .slice ka3 l3 kc3]) ?_ ?_ ((enters_of Tryz.func48 (by kernel_rfl) rfl) _ _) ?_
     iterate 4 rfl
     refine (HCl.out _ (UJ.out.trans ((Old.refl wj).drew))).mono ?_
     rintro o' x100n ⟨q1, q2, q3, d1, d2, d3, rfl, r1, r2, r3, b100n⟩
     refine ⟨_, rfl, ?_⟩
     have R1 := hid (own_base r1 (show w.heap.size ≤ _ from Nat.le_trans HBj.out ((Old.refl wj).drew).size))
     have R2 := hid (own_base r2 (show w.heap.size ≤ _ from Nat.le_trans HBj.out ((Old.refl wj).drew).size))
     have R3 := hid (own_base r3 (show w.heap.size ≤ _ from Nat.le_trans HBj.out ((Old.refl wj).drew).size))
     have F1 := hid (fun g e => Nat.le_trans ((Old.refl wj).drew).size (World.ownsRow.lt r1 g e).1)
     have F2 := hid (fun g e => Nat.le_trans ((Old.refl wj).drew).size (World.ownsRow.lt r2 g e).1)
     have F3 := hid (fun g e => Nat.le_trans ((Old.refl wj).drew).size (World.ownsRow.lt r3 g e).1)
     clear r1 r2 r3
     have U100n := ((Old.refl wj).drew).trans b100n
     refine hK.out _ _ (KBS.old U100n BJ.out) (fun _ => ?_)
     clear hK K
     try simp only [Act.put, puA, puB, puC]
     have UU_100 := U100n
     obtain ⟨xw_100, rfl⟩ : ∃ z, z = x100n := ⟨_, rfl⟩
    all_goals
     refine atA [true, true, true, true, true, true, true, true, false, false, false, false] ?_
     refine tkA (i := 8) (oi := oCec8) (KBS.old UU_100 BJ.out) ?_
     try simp only [Act.put, puA, puB, puC]
     refine rdA [9] ?_
     refine AllReadyH.cons (o := oCec9) rfl (fun K hK => ?_) AllReadyH.nil
     refine stepBuildDn ?_ (.tmp 23) ?_ kn0 k1 k2 k3 q1 q2 q3 l1 d1 l2 d2 l3 d3 ?_ ?_
     iterate 3 rfl
     intro m100n x100n hm100n hx100n
     have b100n : Old xw_100 x100n := by rw [hx100n]; exact (Old.refl _).alloc _
     have M100n := hid (show DB7 m100n kn0 k1 k2 k3 (.slice q1 l1 d1) (.slice q2 l2 d2) (.slice q3 l3 d3) x100n from by rw [hx100n, hm100n]; exact box7D (alloc_at _ _))
     clear hm100n hx100n
     have U100n := UU_100.trans b100n
     have B100n := hid b100n
     refine hK.out _ _ (KBS.old U100n BJ.out) (fun _ => ?_)
     clear hK K
     try simp only [Act.put, puA, puB, puC]
     have MM_100 := M100n
     have UU_100 := U100n
     obtain ⟨mm_100, rfl⟩ : ∃ z, z = m100n := ⟨_, rfl⟩
     obtain ⟨xw_100, rfl⟩ : ∃ z, z = x100n := ⟨_, rfl⟩
     have BO_100 := B100n
    all_goals
     refine atA [true, true, true, true, true, true, true, true, true, true, false, false] ?_
     refine rdA [10] ?_
     refine AllReadyH.cons (o := oCec10) rfl (fun K hK => ?_) AllReadyH.nil
     have KK := hid (show KOk w.heap.size (⟨⟨kn0, ⟨k1, k2, k3, kR, kP, kW⟩, ko⟩, q1, q2, q3, d1, d2, d3⟩ : Kg) xw_100 from ⟨by show OwnF _ _ (.slice q1 kR.length d1) kR; rw [HLL.out.1]; exact own_old R1.out BO_100.out, by show OwnS _ _ (.slice q2 kP.length d2) kP; rw [HLL.out.2.1]; exact own_old R2.out BO_100.out, by show OwnF _ _ (.slice q3 kW.length d3) kW; rw [HLL.out.2.2]; exact own_old R3.out BO_100.out, HFw.out.1, HFw.out.2⟩)
     have KF := hid (show ∀ g ∈ (⟨⟨kn0, ⟨k1, k2, k3, kR, kP, kW⟩, ko⟩, q1, q2, q3, d1, d2, d3⟩ : Kg).bl, wj.heap.size ≤ g from fun g hg => by rcases mem_kbl.1 hg with z | z | z; exact F1.out g (by rw [← HLL.out.1]; exact z); exact F2.out g (by rw [← HLL.out.2.1]; exact z); exact F3.out g (by rw [← HLL.out.2.2]; exact z))
     have HRo := hid (HI2.out.old UU_100)
     refine step_appDn ?_ (.tmp 15) (.tmp 24) ?_ w.heap.size (.slice va' j vc') L mm_100 (⟨⟨kn0, ⟨k1, k2, k3, kR, kP, kW⟩, ko⟩, q1, q2, q3, d1, d2, d3⟩ : Kg) ?_ ?_ HRo.out.row ?_ (by have := HI.out.2.1; omega) (Nat.le_trans HBj.out UU_100.size) ?_
     iterate 4 rfl
     ·unfold Kg.v1 Kg.v2 Kg.v3; dsimp only; rw [HLL.out.1, HLL.out.2.1, HLL.out.2.2]; exact MM_100.out
     intro v100n x100n ow100n gb100n hv100n
     have CH := hid (Chg.grownB gb100n)
     have OW := hid ow100n
     obtain ⟨va2, vc2, ev100n⟩ := dn_len ow100n
     rw [List.length_append, List.length_singleton, HI.out.2.1] at ev100n
     subst ev100n
     have DR := hid (show DRw w.heap.size (.slice va2 (j + 1) vc2) (L ++ [(⟨⟨kn0, ⟨k1, k2, k3, kR, kP, kW⟩, ko⟩, q1, q2, q3, d1, d2, d3⟩ : Kg)]) x100n from ⟨OW.out, fun x hx => by rcases List.mem_append.1 hx with z | z; exact (HRo.out.kk x z).chg CH.out (fun g hg q => by have e : (Value.slice va' j vc').ownBlock = some g := (by simpa [Option.mem_toList] using q); exact own_apart (HRo.out.kk x z) HRo.out.row hg e); simp only [List.mem_singleton] at z; subst z; exact KK.out.chg CH.out (fun g hg q => by have e : (Value.slice va' j vc').ownBlock = some g := (by simpa [Option.mem_toList] using q); exact own_apart KK.out HRo.out.row hg e)⟩)
     have OU := hid (show Old w x100n from ((HI.out.2.2.2.2.trans UJ.out).trans UU_100).below (CH.out.below w.heap.size (fun g q => by have e : (Value.slice va' j vc').ownBlock = some g := (by simpa [Option.mem_toList] using q); exact (World.ownsRow.lt HRo.out.row g e).1) ((HI.out.2.2.2.2.trans UJ.out).trans UU_100).size))
     have KS := hid (KBS.chg CH.out (KBS.old UU_100 BJ.out) (fun q => by have e : (Value.slice va' j vc').ownBlock = some kb := (by simpa [Option.mem_toList] using q); have := HVn.out kb e; have := HKB.out; omega))
     clear ow100n gb100n hv100n
     refine hK.out _ _ KS.out (fun _ => ?_)
     clear hK K
     try simp only [Act.put, puA, puB, puC]
     obtain ⟨xw_100, rfl⟩ : ∃ z, z = x100n := ⟨_, rfl⟩
    all_goals
     refine atA [true, true, true, true, true, true, true, true, true, true, true, false] ?_
     refine rdA [11] ?_
     refine AllReadyH.cons (o := oCec11) rfl (fun K hK => ?_) AllReadyH.nil
     go_simp
     refine hK.out _ _ KS.out (fun _ => ?_)
     clear hK K
     try simp only [Act.put, puA, puB, puC]
    all_goals
     refine atA [true, true, true, true, true, true, true, true, true, true, true, true] ?_
     refine wpAnyH_done (by kernel_rfl) ?_ _
     refine NoPanic.normal ?_
     have HTk := hid (show ∀ (f : Kp → Int), (rc.take (j + 1)).map f = (rc.take j).map f ++ [f ⟨kn0, ⟨k1, k2, k3, kR, kP, kW⟩, ko⟩] from fun f => take_map rc j _ HRj.out f)
     have HTu := hid (show ∀ (f : Kp → Su), (rc.take (j + 1)).map f = (rc.take j).map f ++ [f ⟨kn0, ⟨k1, k2, k3, kR, kP, kW⟩, ko⟩] from fun f => take_map rc j _ HRj.out f)
     go_wp2
     exact ⟨⟨j + 1, L ++ [(⟨⟨kn0, ⟨k1, k2, k3, kR, kP, kW⟩, ko⟩, q1, q2, q3, d1, d2, d3⟩ : Kg)], va2, vc2, hlt, by go_num, rfl, hid ⟨DR.out, by rw [List.length_append, HI.out.2.1]; rfl, by rw [List.map_append, HI.out.2.2.1, HTk.out]; rfl, by rw [List.map_append, HI.out.2.2.2.1, HTu.out]; rfl, OU.out⟩⟩, by simp [intOf]; omega⟩
  ·obtain rfl : n = j := by omega
   have HT := hid (show rc.take n = rc from by rw [List.take_of_length_le]; rw [← HKp.out, List.length_map, HNl.out]; exact Nat.le_refl _)
   go_wp2
   go_ret
   exact ⟨_, L, rfl, by have := HI.out.1; exact this, by rw [HI.out.2.2.1, HT.out], by rw [HI.out.2.2.2.1, HT.out], HI.out.2.2.2.2⟩
end Go.Proofs.YtgeinnaljlajoaaGreat
namespace Go.Proofs.YtgeinnaljlajoaaGreat
open Go.RowKit Go.Lib
set_option linter.unusedVariables false
set_option linter.unusedSimpArgs false
set_option maxRecDepth 20000
attribute [local go_sem] run_bits run_frombits run_store_float eqF
theorem KOk.mono {base b' : Nat} {k : Kg} {w : World} (h : KOk base k w) (hb : b' ≤ base) : KOk b' k w := ⟨own_base h.r hb, own_base h.s hb, own_base h.w hb, h.f, h.l⟩
theorem TabsAt.mono {base b' : Nat} {P : Tp} {V : Tv} {most : Int} {t : Tb} {w : World} (h : TabsAt base P V most t w) (hb : b' ≤ base) : TabsAt b' P V most t w := ⟨h.a1.mono hb, h.a2.mono hb, h.a3.mono hb, h.a4.mono hb, h.d12, h.d13, h.d14, h.d23, h.d24, h.d34⟩
theorem CtAt.mono {base b' cb : Nat} {G : Cg} {w : World} (h : CtAt base cb G w) (hb : b' ≤ base) : CtAt b' cb G w := ⟨h.bx, Nat.le_trans hb h.bb, own_base h.row hb, fun k q => (h.kk k q).mono hb, h.kp, h.ta.mono hb, h.n1, h.n2, h.n3, h.far⟩
structure TwoC (base cb : Nat) (G : Cg) (db : Nat) (D : Cg) (w : World) : Prop where
 a : CtAt base cb G w
 b : CtAt base db D w
 n : ∀ k ∈ mblC cb G, k ∉ mblC db D
 r1 : ∀ k ∈ G.kn, ∀ g ∈ k.bl, g ∉ mblC db D
 r2 : ∀ k ∈ D.kn, ∀ g ∈ k.bl, g ∉ mblC cb G
theorem TwoC.swap {base cb : Nat} {G : Cg} {db : Nat} {D : Cg} {w : World} (h : TwoC base cb G db D w) : TwoC base db D cb G w := ⟨h.b, h.a, fun k q z => h.n k z q, h.r2, h.r1⟩
theorem TwoC.old {base cb : Nat} {G : Cg} {db : Nat} {D : Cg} {w w' : World} (h : TwoC base cb G db D w) (u : Old w w') : TwoC base cb G db D w' := ⟨h.a.old u, h.b.old u, h.n, h.r1, h.r2⟩
theorem TwoC.mov {base cb : Nat} {G : Cg} {db : Nat} {D : Cg} {w w' : World} {G' : Cg} (h : TwoC base cb G db D w) (a : CtAt base cb G' w') (m : CMov cb w G w' G') (f : ∀ k ∈ G'.kn, k ∈ G.kn ∨ ∀ g ∈ k.bl, w.heap.size ≤ g) : TwoC base cb G' db D w' := by
 refine ⟨a, h.b.chg m.1 (fun k q z => h.n k z q) (fun k q g hg z => h.r2 k q g hg z), fun k q z => ?_, fun k q g hg z => ?_, fun k q g hg z => ?_⟩
 ·rcases m.2 k q with y | y
  ·exact h.n k y z
  ·have := (h.b.lt k z).2; omega
 ·rcases f k q with y | y
  ·exact h.r1 k y g hg z
  ·have := y g hg; have := (h.b.lt g z).2; omega
 ·rcases m.2 g z with y | y
  ·exact h.r2 k q g hg y
  ·have := ((h.b.kk k q).lt g hg).2; omega
theorem TwoC.new {w0 w1 wa w2 : World} {cb db : Nat} {G D : Cg} (h1 : CtAt w0.heap.size cb G w1) (u1 : Old w0 w1) (ua : Old w1 wa) (h2 : CtAt wa.heap.size db D w2) (u2 : Old wa w2) (e1 : G.kn = []) (e2 : D.kn = []) : TwoC w0.heap.size cb G db D w2 := by
 have s := (u1.trans ua).size
 refine ⟨h1.old (ua.trans u2), h2.mono s, fun k q z => ?_, fun k q => (by rw [e1] at q; cases q), fun k q => (by rw [e2] at q; cases q)⟩
 have a := ((h1.old ua).lt k q).2
 have b := (h2.lt k z).1
 omega
theorem Sb.new_far {s : Sb} {w : World} {S : List Nat} {n : Nat} (h1 : ∀ g, (Value.slice s.a1 s.n1 s.c1).ownBlock = some g → n ≤ g) (h2 : s.n2 = 0) (h3 : ∀ g, (Value.slice s.a3 s.n3 s.c3).ownBlock = some g → n ≤ g) (hS : ∀ k ∈ S, k < n) : s.Far S := by
 refine ⟨fun _ g e q => ?_, fun z => ?_, fun _ g e q => ?_⟩
 ·have := h1 g e; have := hS g q; omega
 ·omega
 ·have := h3 g e; have := hS g q; omega
def oneS (seq : Int) (r k g1 g3 : Nat) : Sb := ⟨1, seq, 0, some ⟨g1, 0, none⟩, none, some ⟨g3, 0, none⟩, 1, 0, 1, 1, 0, 1, fun _ => r, fun _ => k, fun _ => ⟨0, 0, false, false⟩⟩
def oneU (seq : Int) (r k : Nat) : Su := ⟨1, seq, 0, [r], [], [k]⟩
theorem oneS_pl (seq : Int) (r k g1 g3 : Nat) : (oneS seq r k g1 g3).pl = oneU seq r k := rfl
def OnPost (seq : Int) (r k : Nat) (w : World) (e : Ending) (w' : World) : Prop := ∃ g1 g3, e = .returned (.agg #[.int .i64 1, .int .i64 seq, .int .i64 0, .slice (some ⟨g1, 0, none⟩) 1 1, .slice none 0 0, .slice (some ⟨g3, 0, none⟩) 1 1]) ∧ (oneS seq r k g1 g3).Ok w' ∧ w.heap.size ≤ g1 ∧ w.heap.size ≤ g3 ∧ Old w w'
set_option maxHeartbeats 2000000 in
theorem one_any (seq : Int) (r k : Nat) (hr : Fl.W r) (hk : Fl.W k) (w : World) : Calls Tryz.prog 19 #[.int .i64 seq, .float .f64 r, .float .f64 k] w fun e w' => OnPost seq r k w e w' := by
 go_enter Tryz.func19, Tryz.ntmps19
 go_upto_region 1 with fail
 have U0 := hid ((Old.refl w).alloc (.cells #[.int .i64 0, .int .i64 0, .int .i64 0, .slice none 0 0, .slice none 0 0, .slice none 0 0] 25))
 have N0 := hid (alloc_at w (.cells #[.int .i64 0, .int .i64 0, .int .i64 0, .slice none 0 0, .slice none 0 0, .slice none 0 0] 25))
 generalize w.alloc (.cells #[.int .i64 0, .int .i64 0, .int .i64 0, .slice none 0 0, .slice none 0 0, .slice none 0 0] 25) = w0 at *
 have HRB := hid (Nat.le_refl w.heap.size)
 obtain ⟨rb, hrb⟩ : ∃ rb, w.heap.size = rb := ⟨_, rfl⟩
 have HR := hid hrb
 rw [hrb] at N0 HRB ⊢
 clear hrb
 have HL := hid (show rb < w0.heap.size from heap_lt N0.out)
 have U2 := hid (((Old.refl w0).alloc (.cells #[.float .f64 r] 37)).alloc (.cells #[.float .f64 k] 37))
 have N2 := hid (two_newK w0 (.cells #[.float .f64 r] 37) (.cells #[.float .f64 k] 37))
 have N3 := hid (U2.out.block N0.out)
 obtain ⟨⟨z0, z1, z2, z3, z4, z5⟩, zf⟩ := box6F N3.out
 have f0 := zf 0
 have f1 := zf 1
 have f2 := zf 2
 have f3 := zf 3
 have f4 := zf 4
 have f5 := zf 5
 clear zf
 go_wp2
 generalize hw2 : (w0.alloc (.cells #[.float .f64 r] 37)).alloc (.cells #[.float .f64 k] 37) = w2 at *
 clear hw2
 have RF := hid (Go.Joins.block_setCell (Go.Joins.block_setCell (Go.Joins.block_setCell (Go.Joins.block_setCell (Go.Joins.block_setCell (Go.Joins.block_setCell N3.out (.int .i64 1) (i := 0)) (.int .i64 seq) (i := 1)) (.int .i64 0) (i := 2)) (.slice (some ⟨w0.heap.size, 0, none⟩) 1 1) (i := 3)) (.slice none 0 0) (i := 4)) (.slice (some ⟨w0.heap.size + 1, 0, none⟩) 1 1) (i := 5))
 have CF := hid ((((((Chg.set (S := [rb]) w2 ⟨rb, 0, none⟩ (.int .i64 1) (by simp)).trans (Chg.set (S := [rb]) _ ⟨rb, 1, none⟩ (.int .i64 seq) (by simp))).trans (Chg.set (S := [rb]) _ ⟨rb, 2, none⟩ (.int .i64 0) (by simp))).trans (Chg.set (S := [rb]) _ ⟨rb, 3, none⟩ (.slice (some ⟨w0.heap.size, 0, none⟩) 1 1) (by simp))).trans (Chg.set (S := [rb]) _ ⟨rb, 4, none⟩ (.slice none 0 0) (by simp))).trans (Chg.set (S := [rb]) _ ⟨rb, 5, none⟩ (.slice (some ⟨w0.heap.size + 1, 0, none⟩) 1 1) (by simp)))
 obtain ⟨⟨k0, k1, k2, k3, k4, k5⟩, -⟩ := box6F RF.out
 refine bodyPost_ret (v := .agg #[.int .i64 1, .int .i64 seq, .int .i64 0, .slice (some ⟨w0.heap.size, 0, none⟩) 1 1, .slice none 0 0, .slice (some ⟨w0.heap.size + 1, 0, none⟩) 1 1]) (by simp [results, Tryz.results19, go_sem, k0, k1, k2, k3, k4, k5]) rfl ⟨w0.heap.size, w0.heap.size + 1, rfl, ⟨?_, ?_, ?_, by show 1 ≤ _; omega, by show 0 ≤ _; omega, by show 1 ≤ _; omega⟩, U0.out.size, Nat.le_succ_of_le U0.out.size, ?_⟩
 ·refine ⟨by show 1 ≤ _; omega, _, _, rfl, fun i hi => ⟨w0.heap.size, 0, rfl, hr, ?_⟩⟩
  obtain rfl : i = 0 := by have : i < 1 := hi; omega
  exact CF.out.cell (by rw [Go.Joins.cell_of_block N2.out.1]; rfl) (by simp; have := HL.out; omega)
 ·exact ⟨by show 0 ≤ _; omega, _, _, rfl, fun i hi => by have : i < 0 := hi; omega⟩
 ·refine ⟨by show 1 ≤ _; omega, _, _, rfl, fun i hi => ⟨w0.heap.size + 1, 0, rfl, hk, ?_⟩⟩
  obtain rfl : i = 0 := by have : i < 1 := hi; omega
  exact CF.out.cell (by rw [Go.Joins.cell_of_block N2.out.2]; rfl) (by simp; have := HL.out; omega)
 ·exact (U0.out.trans U2.out).below (CF.out.below w.heap.size (fun q z => by simp at z; have := HR.out; omega) (U0.out.trans U2.out).size)
theorem chk_one (seq : Int) (hs : seq = 1 ∨ seq = 2) (r k g1 g3 : Nat) (h : (r = 4607182418800017408 ∧ k = 4611686018427387904) ∨ (r = 4611686018427387904 ∧ k = 4607182418800017408) ∨ (r = 4617315517961601024 ∧ k = 4607182418800017408) ∨ (r = 4618441417868443648 ∧ k = 4607182418800017408)) : (oneS seq r k g1 g3).chk = 0 := by
 rcases hs with rfl | rfl <;> rcases h with ⟨rfl, rfl⟩ | ⟨rfl, rfl⟩ | ⟨rfl, rfl⟩ | ⟨rfl, rfl⟩ <;> kernel_rfl
def exC1 : Cp := (decC (newC 4 4) (oneU 1 4607182418800017408 4611686018427387904) 0).2.2
def exC2 : Cp := (decC exC1 (oneU 2 4611686018427387904 4607182418800017408) 0).2.2
def exD1 : Cp := (decC (newC 1 0) (oneU 1 4617315517961601024 4607182418800017408) 0).2.2
theorem ex_a : (decC (newC 4 4) (oneU 1 4607182418800017408 4611686018427387904) 0).1 = 0 ∧ (decC (newC 4 4) (oneU 1 4607182418800017408 4611686018427387904) 0).2.1 = 1 := by constructor <;> kernel_rfl
theorem ex_b : (decC exC1 (oneU 2 4611686018427387904 4607182418800017408) 0).1 = 112 ∧ (decC exC1 (oneU 2 4611686018427387904 4607182418800017408) 0).2.1 = 0 := by constructor <;> kernel_rfl
theorem ex_c : exC2.cnt = 1 ∧ exC2.hor = 0 ∧ exC2.rc.length = 1 := by refine ⟨?_, ?_, ?_⟩ <;> kernel_rfl
theorem ex_d : (decC (newC 1 0) (oneU 1 4617315517961601024 4607182418800017408) 0).1 = 0 ∧ (decC (newC 1 0) (oneU 1 4617315517961601024 4607182418800017408) 0).2.1 = 1 := by constructor <;> kernel_rfl
theorem ex_e : (decC exD1 (oneU 2 4618441417868443648 4607182418800017408) 0).1 = 111 ∧ (decC exD1 (oneU 2 4618441417868443648 4607182418800017408) 0).2.1 = 0 := by constructor <;> kernel_rfl
theorem W1 : Fl.W 4607182418800017408 := by unfold Fl.W; omega
theorem W2 : Fl.W 4611686018427387904 := by unfold Fl.W; omega
theorem W5 : Fl.W 4617315517961601024 := by unfold Fl.W; omega
theorem W6 : Fl.W 4618441417868443648 := by unfold Fl.W; omega
def DtPost (base cb : Nat) (G : Cg) (db : Nat) (D : Cg) (r : Int × Int × Cp) (W0 w : World) (e : Ending) (w' : World) : Prop := ∃ G', e = .returned (.agg #[.int .i64 r.1, .int .i64 r.2.1]) ∧ TwoC base cb G' db D w' ∧ Old W0 w' ∧ G'.c = r.2.2 ∧ CMov cb w G w' G'
theorem decide_two (s : Sb) (W0 : World) (cb : Nat) (G : Cg) (db : Nat) (D : Cg) (w : World) (hs : s.Ok w) (hf : s.Far (mblC cb G)) (h : TwoC W0.heap.size cb G db D w) (ok : CpOk G.c) (u : Old W0 w) :
    Calls Tryz.prog 8 #[.pointer (some ⟨cb, 0, none⟩), .agg #[.int .i64 s.s1, .int .i64 s.s2, .int .i64 s.s3, .slice s.a1 s.n1 s.c1, .slice s.a2 s.n2 s.c2, .slice s.a3 s.n3 s.c3]] w fun e w' => DtPost W0.heap.size cb G db D (decC G.c s.pl s.chk) W0 w e w' := by
 refine (decide_any s W0.heap.size cb G w hs hf h.a ok).mono ?_
 rintro e w' ⟨G', rfl, a, m, c, f⟩
 exact ⟨G', rfl, h.mov a m f, m.keep u h.a, c, m⟩
theorem Su.one_F (seq : Int) (r k : Nat) (hr : Fl.W r) (hk : Fl.W k) : (oneU seq r k).F := ⟨fun x q => by simp [oneU] at q; subst q; exact hr, fun x q => by simp [oneU] at q, fun x q => by simp [oneU] at q; subst q; exact hk⟩
theorem dec_ex (seq : Int) (r k g1 g3 : Nat) (n0 m0 : Int) (c0 : Cp) (hs : seq = 1 ∨ seq = 2) (hrk : (r = 4607182418800017408 ∧ k = 4611686018427387904) ∨ (r = 4611686018427387904 ∧ k = 4607182418800017408) ∨ (r = 4617315517961601024 ∧ k = 4607182418800017408) ∨ (r = 4618441417868443648 ∧ k = 4607182418800017408)) (W0 : World) (cb : Nat) (G : Cg) (db : Nat) (D : Cg) (w wb : World) (hs' : (oneS seq r k g1 g3).Ok w) (l1 : wb.heap.size ≤ g1) (l3 : wb.heap.size ≤ g3) (h : TwoC W0.heap.size cb G db D w) (hb : CtAt W0.heap.size cb G wb) (ok : CpOk G.c) (u : Old W0 w) (hc : G.c = c0) (e1 : (decC c0 (oneU seq r k) 0).1 = n0) (e2 : (decC c0 (oneU seq r k) 0).2.1 = m0) :
    Calls Tryz.prog 8 #[.pointer (some ⟨cb, 0, none⟩), .agg #[.int .i64 1, .int .i64 seq, .int .i64 0, .slice (some ⟨g1, 0, none⟩) 1 1, .slice none 0 0, .slice (some ⟨g3, 0, none⟩) 1 1]] w fun e w' => ∃ G', e = .returned (.agg #[.int .i64 n0, .int .i64 m0]) ∧ TwoC W0.heap.size cb G' db D w' ∧ Old W0 w' ∧ G'.c = (decC c0 (oneU seq r k) 0).2.2 ∧ CMov cb w G w' G' := by
 have q := decide_two (oneS seq r k g1 g3) W0 cb G db D w hs' (Sb.new_far (w := w) (n := wb.heap.size) (fun g e => by cases e; exact l1) rfl (fun g e => by cases e; exact l3) (fun k q => (hb.lt k q).2)) h ok u
 unfold DtPost at q
 rw [chk_one seq hs r k g1 g3 hrk, oneS_pl, hc, e1, e2] at q
 exact q
set_option maxHeartbeats 16000000 in
theorem alive_any (w : World) : Calls Tryz.prog 7 #[] w fun e w' => e = .returned (.bool true) ∧ Old w w' := by
 have HN := hid (fun (k o : Int) (W : World) => cnew_any k o W)
 have HO := hid (fun (seq : Int) (r k : Nat) (hr : Fl.W r) (hk : Fl.W k) (W : World) => one_any seq r k hr hk W)
 go_enter Tryz.func7, Tryz.ntmps7
 go_upto_region 2 with (first | (go_at_call 6; refine (HN.out 1 0 w1).mono ?_; rintro e w2 ⟨db, D, rfl, h2, o2, c2⟩; have H2 := hid h2; have O2 := hid o2; have C2 := hid c2; clear h2 o2 c2) | (go_at_call 6; refine (HN.out 4 4 w).mono ?_; rintro e w1 ⟨cb, G, rfl, h1, o1, c1⟩; have H1 := hid h1; have O1 := hid o1; have C1 := hid c1; clear h1 o1 c1))
 have KG := hid (show G.kn = [] from by have := H1.out.kp; rw [C1.out] at this; exact List.map_eq_nil_iff.1 this)
 have KD := hid (show D.kn = [] from by have := H2.out.kp; rw [C2.out] at this; exact List.map_eq_nil_iff.1 this)
 have TC := hid (TwoC.new H1.out O1.out (Old.refl w1) H2.out O2.out KG.out KD.out)
 have UC := hid (O1.out.trans O2.out)
 clear H1 H2 O1 O2 KG KD
 have OkG := hid (show CpOk G.c from by rw [C1.out]; exact (new_ok 4 4).1)
 have OkD := hid (show CpOk D.c from by rw [C2.out]; exact (new_ok 1 0).1)
 have FkG := hid (show ∀ k ∈ G.c.rc, k.u.F from by rw [C1.out]; exact (new_ok 4 4).2)
 have FkD := hid (show ∀ k ∈ D.c.rc, k.u.F from by rw [C2.out]; exact (new_ok 1 0).2)
 go_upto_region 5 with (first | (go_at_call 8; have OkP := hid (show CpOk Gp.c from by rw [Cp.out]; exact (dec_ok (new_ok 4 4).1 (new_ok 4 4).2 (Su.one_F _ _ _ W1 W2) 0).1); refine (dec_ex 2 4611686018427387904 4607182418800017408 g1q g3q _ _ exC1 (.inr rfl) (.inr (.inl ⟨rfl, rfl⟩)) w _ _ _ _ woq wp Hoq.out Lq.out.1 Lq.out.2 Toq.out Tp.out.a OkP.out Uoq.out Cp.out ex_b.1 ex_b.2).mono ?_; rintro e wq ⟨Gq, rfl, tq, uq, cq, mq⟩; have Tq := hid tq; have Uq := hid uq; have Cq := hid cq; have Mq := hid mq; clear tq uq cq mq) | (go_at_call 19; refine (HO.out 2 4611686018427387904 4607182418800017408 W2 W1 wp).mono ?_; rintro e woq ⟨g1q, g3q, rfl, hq, l1q, l3q, oq⟩; have Hoq := hid hq; have Lq := hid (And.intro l1q l3q); have Toq := hid (Tp.out.old oq); have Uoq := hid (Up.out.trans oq); have Ooq := hid oq; clear hq l1q l3q oq) | (go_at_call 8; refine (dec_ex 1 4607182418800017408 4611686018427387904 g1p g3p _ _ (newC 4 4) (.inl rfl) (.inl ⟨rfl, rfl⟩) w _ _ _ _ wop w2 Hop.out Lp.out.1 Lp.out.2 Top.out TC.out.a OkG.out Uop.out C1.out ex_a.1 ex_a.2).mono ?_; rintro e wp ⟨Gp, rfl, tp, up, cp, mp⟩; have Tp := hid tp; have Up := hid up; have Cp := hid cp; have Mp := hid mp; clear tp up cp mp) | (go_at_call 19; refine (HO.out 1 4607182418800017408 4611686018427387904 W1 W2 w2).mono ?_; rintro e wop ⟨g1p, g3p, rfl, hp, l1p, l3p, op⟩; have Hop := hid hp; have Lp := hid (And.intro l1p l3p); have Top := hid (TC.out.old op); have Uop := hid (UC.out.trans op); have Oop := hid op; clear hp l1p l3p op))
 skip
 have Ux := hid (((Old.refl wq).alloc (.cells #[.int .i64 0, .int .i64 1] 33)).alloc (.cells #[.int .i64 112, .int .i64 0] 33))
 have Nx := hid (two_newK wq (.cells #[.int .i64 0, .int .i64 1] 33) (.cells #[.int .i64 112, .int .i64 0] 33))
 generalize (wq.alloc (.cells #[.int .i64 0, .int .i64 1] 33)).alloc (.cells #[.int .i64 112, .int .i64 0] 33) = wx at *
 obtain ⟨b1, hb1⟩ : ∃ b1, wq.heap.size = b1 := ⟨_, rfl⟩
 rw [hb1] at Nx ⊢
 obtain ⟨b2, hb2⟩ : ∃ b2, b1 + 1 = b2 := ⟨_, rfl⟩
 have NB := hid (show b1 ∉ mblC db D ∧ b2 ∉ mblC db D from ⟨fun q => by have := (Tq.out.b.lt _ q).2; omega, fun q => by have := (Tq.out.b.lt _ q).2; omega⟩)
 rw [hb2] at Nx ⊢
 have LB := hid (And.intro (heap_lt Nx.out.1) (heap_lt Nx.out.2))
 clear hb1 hb2
 have Tx := hid ((Tq.out.old Ux.out).swap)
 have Vx := hid (Uq.out.trans Ux.out)
 go_upto_region 6 with (first | (go_at_call 8; have OkR := hid (show CpOk Dr.c from by rw [Cr.out]; exact (dec_ok (new_ok 1 0).1 (new_ok 1 0).2 (Su.one_F _ _ _ W5 W1) 0).1); refine (dec_ex 2 4618441417868443648 4607182418800017408 g1s g3s _ _ exD1 (.inr rfl) (.inr (.inr (.inr ⟨rfl, rfl⟩))) w _ _ _ _ wos wr Hos.out Ls.out.1 Ls.out.2 Tos.out Tr.out.a OkR.out Uos.out Cr.out ex_e.1 ex_e.2).mono ?_; rintro e ws ⟨Ds, rfl, ts, us, cs, ms⟩; have Ts := hid ts; have Us := hid us; have Cs := hid cs; have Ms := hid ms; clear ts us cs ms; have Ns := hid (And.intro (Ms.out.1.heapAt (Oos.out.block Nr.out.1) NBr.out.1) (Ms.out.1.heapAt (Oos.out.block Nr.out.2) NBr.out.2))) | (go_at_call 19; refine (HO.out 2 4618441417868443648 4607182418800017408 W6 W1 wr).mono ?_; rintro e wos ⟨g1s, g3s, rfl, hs, l1s, l3s, os⟩; have Hos := hid hs; have Ls := hid (And.intro l1s l3s); have Tos := hid (Tr.out.old os); have Uos := hid (Ur.out.trans os); have Oos := hid os; clear hs l1s l3s os) | (go_at_call 8; refine (dec_ex 1 4617315517961601024 4607182418800017408 g1r g3r _ _ (newC 1 0) (.inl rfl) (.inr (.inr (.inl ⟨rfl, rfl⟩))) w _ _ _ _ wor wx Hor.out Lr.out.1 Lr.out.2 Tor.out Tx.out.a OkD.out Uor.out C2.out ex_d.1 ex_d.2).mono ?_; rintro e wr ⟨Dr, rfl, tr, ur, cr, mr⟩; have Tr := hid tr; have Ur := hid ur; have Cr := hid cr; have Mr := hid mr; clear tr ur cr mr; have Nr := hid (And.intro (Mr.out.1.heapAt (Oor.out.block Nx.out.1) NB.out.1) (Mr.out.1.heapAt (Oor.out.block Nx.out.2) NB.out.2)); have NBr := hid (And.intro (fun q => by rcases Mr.out.2 _ q with z | z; exact NB.out.1 z; have := Oor.out.size; have := LB.out; omega) (fun q => by rcases Mr.out.2 _ q with z | z; exact NB.out.2 z; have := Oor.out.size; have := LB.out; omega) : b1 ∉ mblC db Dr ∧ b2 ∉ mblC db Dr)) | (go_at_call 19; refine (HO.out 1 4617315517961601024 4607182418800017408 W5 W1 wx).mono ?_; rintro e wor ⟨g1r, g3r, rfl, hr, l1r, l3r, or⟩; have Hor := hid hr; have Lr := hid (And.intro l1r l3r); have Tor := hid (Tx.out.old or); have Uor := hid (Vx.out.trans or); have Oor := hid or; clear hr l1r l3r or))
 have Uy := hid (((Old.refl ws).alloc (.cells #[.int .i64 0, .int .i64 1] 33)).alloc (.cells #[.int .i64 111, .int .i64 0] 33))
 have Ny := hid (two_newK ws (.cells #[.int .i64 0, .int .i64 1] 33) (.cells #[.int .i64 111, .int .i64 0] 33))
 skip
 generalize (ws.alloc (.cells #[.int .i64 0, .int .i64 1] 33)).alloc (.cells #[.int .i64 111, .int .i64 0] 33) = wy at *
 obtain ⟨b3, hb3⟩ : ∃ b3, ws.heap.size = b3 := ⟨_, rfl⟩
 rw [hb3] at Ny ⊢
 obtain ⟨b4, hb4⟩ : ∃ b4, b3 + 1 = b4 := ⟨_, rfl⟩
 rw [hb4] at Ny ⊢
 clear hb3 hb4
 have Ty := hid ((Ts.out.old Uy.out).swap)
 have Wy := hid (Us.out.trans Uy.out)
 have Nw := hid (And.intro (Uy.out.block Ns.out.1) (Uy.out.block Ns.out.2))
 obtain ⟨⟨v0, v1⟩, -⟩ := box2V Nw.out.1
 obtain ⟨⟨v2, v3⟩, -⟩ := box2V Nw.out.2
 obtain ⟨⟨v4, v5⟩, -⟩ := box2V Ny.out.1
 obtain ⟨⟨v6, v7⟩, -⟩ := box2V Ny.out.2
 have Cc := hid (show Gq.c = exC2 from Cq.out)
 have HCn := hid (count_any _ _ _ wy Ty.out.a)
 have HHo := hid (horizon_any _ _ _ wy Ty.out.a)
 rw [Cc.out, ex_c.1] at HCn
 rw [Cc.out, ex_c.2.1] at HHo
 have HRe := hid (recent_any _ _ _ wy Ty.out.a (by rw [Cc.out]; exact (dec_ok (dec_ok (new_ok 4 4).1 (new_ok 4 4).2 (Su.one_F _ _ _ W1 W2) 0).1 (dec_ok (new_ok 4 4).1 (new_ok 4 4).2 (Su.one_F _ _ _ W1 W2) 0).2 (Su.one_F _ _ _ W2 W1) 0).1))
 unfold RePost at HRe
 rw [Cc.out] at HRe
 go_wp2_with (first | (go_at_call 21; refine HRe.out.mono ?_; rintro e wz ⟨vz, Lz, rfl, dz, lz, -, oz⟩; have Oz := hid oz; have hlz : Lz.length = 1 := (by have := congrArg List.length lz; simp only [List.length_map] at this; rw [this]; exact ex_c.2.2); obtain ⟨az, cz, ez⟩ := dn_len dz.row; rw [hlz] at ez; subst ez; clear dz lz oz) | (go_at_call 20; refine HHo.out.mono ?_; rintro e w_ ⟨rfl, hw_⟩; subst hw_) | (go_at_call 10; refine HCn.out.mono ?_; rintro e w_ ⟨rfl, hw_⟩; subst hw_))
 go_ret
 exact ⟨rfl, Wy.out.trans Oz.out⟩
end Go.Proofs.YtgeinnaljlajoaaGreat
namespace Go.Proofs.YtgeinnaljlajoaaGreat
open Go.RowKit Go.Lib
set_option linter.unusedVariables false
set_option linter.unusedSimpArgs false
set_option maxRecDepth 20000
theorem fold_zero {α : Type} (f : α → Int) (h : ∀ x, f x = 0) : ∀ (L : List α), L.foldl (fun n x => max n (f x)) 0 = 0
 | [] => rfl
 | x :: r => by
  show r.foldl _ (max 0 (f x)) = 0
  rw [h x]
  exact fold_zero f h r
theorem gA_nil (ks : List Nat) : gA [] ks = 0 := fold_zero _ (fun _ => rfl) ks
theorem gO_nil (ss : List Sp) : gO [] ss = 0 := fold_zero _ (fun _ => rfl) ss
theorem gP_nil (ks : List Nat) : gP [] ks = 0 := fold_zero _ (fun _ => rfl) ks
theorem rdU_nil (u : Su) : rdU u [] = 0 := by unfold rdU; rw [gA_nil, gO_nil]; rfl
theorem met_none (u : Su) (h : 0 ≤ u.s3) : met0T ⟨[], [], [], []⟩ u = ⟨false, false, 0, 0⟩ := by
 unfold met0T
 dsimp only
 rw [gA_nil, rdU_nil, gP_nil]
 have a : decide (u.s3 < 0) = false := decide_eq_false (by omega)
 have b : ¬ u.s3 < 0 := by omega
 rw [a, if_neg b, show max (0 : Int) 0 = 0 from rfl, if_neg b]
theorem dec_new (k o : Int) (u : Su) (ck : Int) (h0 : u.s3 = 0) : decC (newC k o) u ck = if ck ≠ 0 then (ck, 0, newC k o) else (0, 1, pushC (newC k o) u false) := by
 by_cases hc : ck ≠ 0
 ·rw [if_pos hc]
  have : faultC (newC k o) u ck = ck := by unfold faultC; rw [if_pos hc]
  unfold decC
  rw [this, if_pos hc]
 ·rw [if_neg hc]
  have hf : faultC (newC k o) u ck = 0 := by
   unfold faultC
   rw [if_neg hc, if_neg (by show ¬ 1099511627776 ≤ (0 : Int); omega), if_neg (by show ¬ (0 : Int) < u.s3; omega), if_neg (by show ¬ u.s3 < (0 : Int); omega)]
  have hm : metC (newC k o) u = ⟨false, false, 0, 0⟩ := met_none u (by omega)
  unfold decC
  rw [hf, hm, if_neg (by decide), if_neg (by decide), if_neg (by decide)]
  have hcm : commitC (newC k o) u (decide ((0 : Int) < 0)) = pushC (newC k o) u false := by
   unfold commitC
   rw [if_pos]
   ·rfl
   ·show (1 : Int) ≤ max 1 (min k 32)
    omega
  dsimp only
  rw [hcm]
  rfl
theorem dec_second (k o : Int) (a u : Su) (ck : Int) (h0 : u.s3 = 0) : (decC (pushC (newC k o) a false) u ck).1 = (if ck ≠ 0 then ck else if bwU u a = true then 111 else if (meetU u a && meetU a u) = true then 112 else 0) ∧ (decC (pushC (newC k o) a false) u ck).2.1 = (if ck ≠ 0 then 0 else if bwU u a = true then 0 else if (meetU u a && meetU a u) = true then 0 else 2) := by
 by_cases hc : ck ≠ 0
 ·have : faultC (pushC (newC k o) a false) u ck = ck := by unfold faultC; rw [if_pos hc]
  unfold decC
  rw [this, if_pos hc, if_pos hc, if_pos hc]
  exact ⟨rfl, rfl⟩
 ·have hf : faultC (pushC (newC k o) a false) u ck = 0 := by
    unfold faultC
    rw [if_neg hc, if_neg (by show ¬ 1099511627776 ≤ (0 : Int) + 1; omega), if_neg (by show ¬ (0 : Int) + 1 < u.s3; omega), if_neg (by show ¬ u.s3 < (0 : Int); omega)]
  have hm : metC (pushC (newC k o) a false) u = addM u ⟨false, false, 0, 0⟩ ⟨1, a, false⟩ := by
   show stepM u (met0T ⟨[], [], [], []⟩ u) ⟨0 + 1, a, false⟩ = _
   rw [met_none u (by omega)]
   unfold stepM
   rw [if_pos (by show u.s3 < (0 : Int) + 1; omega)]
   rfl
  unfold decC
  rw [hf, hm, if_neg hc, if_neg hc, if_neg (by decide)]
  unfold addM dangM
  dsimp only
  cases bwU u a <;> cases meetU u a <;> cases meetU a u <;> simp [pushC, newC]
theorem keyEq_comm (x k : Nat) : keyEq x k = keyEq k x := by
 unfold keyEq
 rw [Bool.and_comm (!Fl.nan x) (!Fl.nan k)]
 congr 1
 exact decide_eq_decide.2 ⟨fun h => h.symm, fun h => h.symm⟩
theorem bwU_comm (a b : Su) : bwU a b = bwU b a := by
 have h : ∀ a b : Su, bwU a b = true → bwU b a = true := fun a b h => by
  unfold bwU writeU at *
  rw [List.any_eq_true] at *
  obtain ⟨x, hx, q⟩ := h
  rw [List.any_eq_true] at q
  obtain ⟨y, hy, z⟩ := q
  exact ⟨y, hy, List.any_eq_true.2 ⟨x, hx, by rw [keyEq_comm]; exact z⟩⟩
 cases e : bwU a b
 ·cases e2 : bwU b a
  ·rfl
  ·rw [h b a e2] at e; cases e
 ·rw [h a b e]
theorem FRow.blk_lt {w : World} {v : Value} {n : Nat} {x : Nat → Nat} (h : FRow w v n x) (h0 : 0 < n) (g : Nat) (e : v.ownBlock = some g) : g < w.heap.size := by
 obtain ⟨-, a, c, rfl, hc⟩ := h
 obtain ⟨b, off, rfl, -, q⟩ := hc 0 h0
 cases e
 exact World.block_lt_of_cell? w _ q
theorem SRow.blk_lt {w : World} {v : Value} {n : Nat} {x : Nat → Sp} (h : SRow w v n x) (h0 : 0 < n) (g : Nat) (e : v.ownBlock = some g) : g < w.heap.size := by
 obtain ⟨-, a, c, rfl, hc⟩ := h
 obtain ⟨b, off, rfl, -, -, q, -⟩ := hc 0 h0
 cases e
 exact World.block_lt_of_cell? w _ q
theorem Sb.arg_far {s : Sb} {w : World} {S : List Nat} (h : s.Ok w) (hS : ∀ k ∈ S, w.heap.size ≤ k) : s.Far S :=
 ⟨fun z g e q => absurd (h.h1.blk_lt z g e) (Nat.not_lt.2 (hS g q)), fun z g e q => absurd (h.h2.blk_lt z g e) (Nat.not_lt.2 (hS g q)), fun z g e q => absurd (h.h3.blk_lt z g e) (Nat.not_lt.2 (hS g q))⟩
end Go.Proofs.YtgeinnaljlajoaaGreat
namespace Go.Proofs.YtgeinnaljlajoaaGreat
open Go.RowKit Go.Lib
set_option linter.unusedVariables false
set_option linter.unusedSimpArgs false
set_option maxRecDepth 20000
attribute [local go_sem] run_bits run_frombits run_store_float eqF
theorem pairs_last (A B : Su) (h : bwU A B = false) (c : Int) (n : Int) (e1 : c = if bwU B A = true then 111 else if (meetU B A && meetU A B) = true then 112 else 0) (e2 : n = if bwU B A = true then 0 else if (meetU B A && meetU A B) = true then 0 else 2) : ((meetU A B && meetU B A) = true → c = 112 ∧ n = 0) ∧ ((meetU A B && meetU B A) = false → c = 0 ∧ n = 2) := by
 rw [bwU_comm B A, h] at e1 e2
 rw [Bool.and_comm (meetU B A) (meetU A B)] at e1 e2
 subst e1 e2
 refine ⟨fun z => ?_, fun z => ?_⟩ <;> rw [z] <;> exact ⟨rfl, rfl⟩
abbrev SubB' (b : Nat) (s1 s2 s3 : Int) (u v r : Value) (w : World) : Prop := w.heap[b]? = some (.cells #[.int .i64 s1, .int .i64 s2, .int .i64 s3, u, v, r] 25 (0, 0))
theorem CMov.keep' {W0 w w' : World} {base cb : Nat} {G G' : Cg} (m : CMov cb w G w' G') (u : Old W0 w) (hb : W0.heap.size ≤ base) (h : CtAt base cb G w) : Old W0 w' :=
 Old.below u (m.1.below _ (fun k hk => Nat.le_trans hb (h.lt k hk).1) u.size)
theorem commit_okP (u : Su) (f : u.F) : CpOk (pushC (newC 4 9) u false) := by
 have := (dec_ok (new_ok 4 9).1 (new_ok 4 9).2 (u := { u with s3 := 0 }) ⟨f.1, f.2.1, f.2.2⟩ 0).1
 rw [dec_new 4 9 _ 0 rfl] at this
 simp only [ne_eq, not_true_eq_false, if_false] at this
 exact ⟨this.k1, this.k2, this.m1, this.m2, this.n1, this.n2, this.h1, this.h2, this.r, this.gw, this.gm, this.gr, this.gs, this.qw, this.qm, this.qr, this.qs, fun k q => by
  have e : (pushC (newC 4 9) u false).rc = [⟨0 + 1, u, false⟩] := rfl
  rw [e] at q
  simp only [List.mem_singleton] at q
  subst q
  exact ⟨by show (1 : Int) ≤ 0 + 1; omega, by show (0 : Int) + 1 ≤ 0 + 1; omega⟩⟩
end Go.Proofs.YtgeinnaljlajoaaGreat
