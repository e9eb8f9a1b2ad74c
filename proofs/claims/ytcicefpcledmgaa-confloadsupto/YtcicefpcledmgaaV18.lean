/- The example that the laws of layer 15 begin with; no condition. -/
import Derived.Test.YtcicefpcledmgaaV17
namespace Go.Proofs.Ytcicefpcledmgaa
open Go.RowKit Go.Lib
set_option linter.unusedVariables false
set_option linter.unusedSimpArgs false
set_option maxRecDepth 20000
theorem flt4 : fltC 3 iota1 1 iota4 2 4 = 0 := by decide +kernel
theorem nx4 : nxV 2 4 (lsI iota1 3) = [1, 2, 3, 4] := by decide +kernel
abbrev BxA (nb xb : Nat) (a b c : Value) : World → Prop := fun wz => wz.cell? ⟨nb, 0, none⟩ = some a ∧ wz.cell? ⟨xb, 0, none⟩ = some b ∧ wz.cell? ⟨xb, 1, none⟩ = some c
theorem BxA.old {nb xb : Nat} {a b c : Value} {w w' : World} (u : Old w w') (h : BxA nb xb a b c w) : BxA nb xb a b c w' := ⟨u.keep h.1, u.keep h.2.1, u.keep h.2.2⟩
theorem NRowL.congr {w : World} {v : Value} {n : Nat} {f g : Nat → Int} (h : NRowL w v n f) (e : ∀ i, i < n → f i = g i) : NRowL w v n g := by
  obtain ⟨a, p, c, r, b1, b2, hc⟩ := h
  exact ⟨a, p, c, r, b1, b2, fun i hi => by obtain ⟨x, o, q, z⟩ := hc i hi; exact ⟨x, o, q, by rw [z, e i hi]⟩⟩
theorem wantCall0 {P : Program} {ops : Array Oper} {o : Oper} {a : Act} {w : World} {K : Act → World → Prop} {Q : Exit → Act → World → Prop} {E : Prop} (hw : Region.wanted o (yielded ops a.tmps) = true) (F : FuncId) (ts : Array TypeId)
    (hop : o.op = Op.call { callee := Callee.value (Operand.func F), args := #[], argTypes := ts }) (hF : a.eval (Operand.func F) = .func (.func F) #[] #[])
    (henter : (callFunc F #[]).run P w = .ok (.enter F #[]) w)
    (hc : Calls P F #[] w fun e w' => ∃ r, e = .returned r ∧ K (a.put o.dst r) w') :
    if Region.wanted o (yielded ops a.tmps) = true then Oper.wp P o a w K Q else E := by
  rw [if_pos hw]
  unfold Oper.wp
  simp [execOp, hop, resolve, invoke, hF, Deferred.ofValue]
  rw [henter]
  refine hc.mono ?_
  rintro e w' ⟨r, rfl, hk⟩
  exact hk
theorem wantCall1 {P : Program} {ops : Array Oper} {o : Oper} {a : Act} {w : World} {K : Act → World → Prop} {Q : Exit → Act → World → Prop} {E : Prop} (hw : Region.wanted o (yielded ops a.tmps) = true) (F : FuncId) (x : Operand) (ts : Array TypeId)
    (hop : o.op = Op.call { callee := Callee.value (Operand.func F), args := #[x], argTypes := ts }) (v : Value) (hx : a.eval x = v) (hF : a.eval (Operand.func F) = .func (.func F) #[] #[])
    (henter : (callFunc F #[v]).run P w = .ok (.enter F #[v]) w)
    (hc : Calls P F #[v] w fun e w' => ∃ r, e = .returned r ∧ K (a.put o.dst r) w') :
    if Region.wanted o (yielded ops a.tmps) = true then Oper.wp P o a w K Q else E := by
  rw [if_pos hw]
  unfold Oper.wp
  simp [execOp, hop, resolve, invoke, hx, hF, Deferred.ofValue]
  rw [henter]
  refine hc.mono ?_
  rintro e w' ⟨r, rfl, hk⟩
  exact hk
theorem bldA {ops : Array Oper} {o : Oper} {a : Act} {w : World} {K : Act → World → Prop} {Q : Exit → Act → World → Prop} {E : Prop} (hw : Region.wanted o (yielded ops a.tmps) = true) (hop : o.op = Op.buildSlice 22 2 #[(0, Operand.const (Value.int IntKind.i64 1)), (1, Operand.const (Value.int IntKind.i64 3))])
    (hK : ∀ m w', Old w w' → NRowL w' (.slice (some ⟨m, 0, none⟩) 2 2) 2 (gI [1, 3]) → K (a.put o.dst (.slice (some ⟨m, 0, none⟩) 2 2)) w') :
    if Region.wanted o (yielded ops a.tmps) = true then Oper.wp Try.prog o a w K Q else E := by
  rw [if_pos hw]
  obtain ⟨d, p', t, ps, af, gd⟩ := o
  subst hop
  unfold Oper.wp execOp
  simp only [List.map_toArray, List.map_cons, List.map_nil]
  go_simp
  refine hK w.heap.size _ ((Old.refl w).alloc _) ⟨by omega, _, 2, rfl, by omega, by omega, fun i hi => ⟨w.heap.size, 0, rfl, ?_⟩⟩
  match i, hi with
  | 0, _ => simp [gI]
  | 1, _ => simp [gI]
theorem bldB {ops : Array Oper} {o : Oper} {a : Act} {w : World} {K : Act → World → Prop} {Q : Exit → Act → World → Prop} {E : Prop} (hw : Region.wanted o (yielded ops a.tmps) = true) (hop : o.op = Op.buildSlice 22 1 #[(0, Operand.const (Value.int IntKind.i64 2))])
    (hK : ∀ m w', Old w w' → NRowL w' (.slice (some ⟨m, 0, none⟩) 1 1) 1 (gI [2]) → K (a.put o.dst (.slice (some ⟨m, 0, none⟩) 1 1)) w') :
    if Region.wanted o (yielded ops a.tmps) = true then Oper.wp Try.prog o a w K Q else E := by
  rw [if_pos hw]
  obtain ⟨d, p', t, ps, af, gd⟩ := o
  subst hop
  unfold Oper.wp execOp
  simp only [List.map_toArray, List.map_cons, List.map_nil]
  go_simp
  refine hK w.heap.size _ ((Old.refl w).alloc _) ⟨by omega, _, 1, rfl, by omega, by omega, fun i hi => ⟨w.heap.size, 0, rfl, ?_⟩⟩
  match i, hi with
  | 0, _ => simp [gI]
theorem bldC {ops : Array Oper} {o : Oper} {a : Act} {w : World} {K : Act → World → Prop} {Q : Exit → Act → World → Prop} {E : Prop} (hw : Region.wanted o (yielded ops a.tmps) = true) (hop : o.op = Op.buildSlice 22 4 #[(0, Operand.const (Value.int IntKind.i64 1)), (1, Operand.const (Value.int IntKind.i64 2)), (2, Operand.const (Value.int IntKind.i64 3)), (3, Operand.const (Value.int IntKind.i64 4))])
    (hK : ∀ m w', Old w w' → NRowL w' (.slice (some ⟨m, 0, none⟩) 4 4) 4 (gI [1, 2, 3, 4]) → K (a.put o.dst (.slice (some ⟨m, 0, none⟩) 4 4)) w') :
    if Region.wanted o (yielded ops a.tmps) = true then Oper.wp Try.prog o a w K Q else E := by
  rw [if_pos hw]
  obtain ⟨d, p', t, ps, af, gd⟩ := o
  subst hop
  unfold Oper.wp execOp
  simp only [List.map_toArray, List.map_cons, List.map_nil]
  go_simp
  refine hK w.heap.size _ ((Old.refl w).alloc _) ⟨by omega, _, 4, rfl, by omega, by omega, fun i hi => ⟨w.heap.size, 0, rfl, ?_⟩⟩
  match i, hi with
  | 0, _ => simp [gI]
  | 1, _ => simp [gI]
  | 2, _ => simp [gI]
  | 3, _ => simp [gI]
theorem bldD {ops : Array Oper} {o : Oper} {a : Act} {w : World} {K : Act → World → Prop} {Q : Exit → Act → World → Prop} {E : Prop} (hw : Region.wanted o (yielded ops a.tmps) = true) (hop : o.op = Op.buildSlice 22 3 #[(0, Operand.const (Value.int IntKind.i64 1)), (1, Operand.const (Value.int IntKind.i64 3)), (2, Operand.const (Value.int IntKind.i64 4))])
    (hK : ∀ m w', Old w w' → NRowL w' (.slice (some ⟨m, 0, none⟩) 3 3) 3 (gI [1, 3, 4]) → K (a.put o.dst (.slice (some ⟨m, 0, none⟩) 3 3)) w') :
    if Region.wanted o (yielded ops a.tmps) = true then Oper.wp Try.prog o a w K Q else E := by
  rw [if_pos hw]
  obtain ⟨d, p', t, ps, af, gd⟩ := o
  subst hop
  unfold Oper.wp execOp
  simp only [List.map_toArray, List.map_cons, List.map_nil]
  go_simp
  refine hK w.heap.size _ ((Old.refl w).alloc _) ⟨by omega, _, 3, rfl, by omega, by omega, fun i hi => ⟨w.heap.size, 0, rfl, ?_⟩⟩
  match i, hi with
  | 0, _ => simp [gI]
  | 1, _ => simp [gI]
  | 2, _ => simp [gI]
theorem quoA : decide (3 / 2 < cntK iota1 (fun x => (lsI (gI [1, 3]) 2).contains x) 3) = true := by decide +kernel
theorem quoB : decide (3 / 2 < cntK iota1 (fun x => (lsI (gI [2]) 1).contains x) 3) = false := by decide +kernel
theorem shS (g off n c : Nat) : Sh (.slice (some ⟨g, off, none⟩) n c) := .inr ⟨_, n, c, rfl⟩
theorem quorumA (b1 b2 m : Nat) (w : World) (h1 : NRowL w (.slice (some ⟨b1, 0, none⟩) 3 3) 3 iota1) (h2 : NRowL w (.slice (some ⟨b2, 0, none⟩) 1 1) 1 iota4) (h3 : NRowL w (.slice (some ⟨m, 0, none⟩) 2 2) 2 (gI [1, 3])) :
    Calls Try.prog 13 #[.agg #[.slice (some ⟨b1, 0, none⟩) 3 3, .slice (some ⟨b2, 0, none⟩) 1 1], .slice (some ⟨m, 0, none⟩) 2 2] w fun e w' => e = .returned (.bool true) ∧ Old w w' := by
  have q := quorum_any _ _ _ 3 1 2 iota1 iota4 (gI [1, 3]) w h1 h2 h3
  rw [quoA] at q
  exact q
theorem quorumB (b1 b2 m : Nat) (w : World) (h1 : NRowL w (.slice (some ⟨b1, 0, none⟩) 3 3) 3 iota1) (h2 : NRowL w (.slice (some ⟨b2, 0, none⟩) 1 1) 1 iota4) (h3 : NRowL w (.slice (some ⟨m, 0, none⟩) 1 1) 1 (gI [2])) :
    Calls Try.prog 13 #[.agg #[.slice (some ⟨b1, 0, none⟩) 3 3, .slice (some ⟨b2, 0, none⟩) 1 1], .slice (some ⟨m, 0, none⟩) 1 1] w fun e w' => e = .returned (.bool false) ∧ Old w w' := by
  have q := quorum_any _ _ _ 3 1 1 iota1 iota4 (gI [2]) w h1 h2 h3
  rw [quoB] at q
  exact q
theorem rightA (v1 v2 : Value) (w : World) (h1 : NRowL w v1 3 iota1) (h2 : NRowL w v2 1 iota4) : Calls Try.prog 9 #[.agg #[v1, v2]] w fun e w' => e = .returned (.bool true) ∧ Old w w' := by
  have q := right_any v1 v2 3 1 iota1 iota4 w h1 h2
  rw [right3] at q
  exact q
theorem voterA (v1 v2 : Value) (w : World) (h1 : NRowL w v1 3 iota1) (h2 : NRowL w v2 1 iota4) : Calls Try.prog 12 #[.agg #[v1, v2], .int .i64 1] w fun e w' => e = .returned (.bool true) ∧ Old w w' := by
  have q := voter_any v1 v2 3 1 iota1 iota4 1 w h1 h2
  rw [show hasK iota1 1 3 = true from by decide +kernel] at q
  exact q
theorem memberA (v1 v2 : Value) (w : World) (h1 : NRowL w v1 3 iota1) (h2 : NRowL w v2 1 iota4) : Calls Try.prog 11 #[.agg #[v1, v2], .int .i64 4] w fun e w' => e = .returned (.bool true) ∧ Old w w' := by
  have q := member_any v1 v2 3 1 iota1 iota4 4 w h1 h2
  rw [show memB 3 iota1 1 iota4 4 = true from by decide +kernel] at q
  exact q
theorem othersA (v1 v2 : Value) (w : World) (h1 : NRowL w v1 3 iota1) (s1 : Sh v1) (h2 : NRowL w v2 1 iota4) (s2 : Sh v2) : Calls Try.prog 25 #[.agg #[v1, v2], .int .i64 2] w fun e w' => ∃ p c, e = .returned (.slice p 3 c) ∧ NRowL w' (.slice p 3 c) 3 (gI [1, 3, 4]) ∧ Old w w' := by
  refine (others_any v1 v2 3 1 iota1 iota4 2 w h1 s1 h2 s2 (by decide) (by decide)).mono ?_
  rintro e w' ⟨v, rfl, o, u⟩
  rw [oth2] at o
  obtain ⟨p, c, rfl⟩ := o.len
  exact ⟨p, c, rfl, o.rowL (by decide) rfl (fun i hi => rfl), u⟩
theorem next3 (b1 b2 : Nat) (w : World) (h1 : NRowL w (.slice (some ⟨b1, 0, none⟩) 3 3) 3 iota1) (h2 : NRowL w (.slice (some ⟨b2, 0, none⟩) 1 1) 1 iota4) :
    Calls Try.prog 10 #[.agg #[.slice (some ⟨b1, 0, none⟩) 3 3, .slice (some ⟨b2, 0, none⟩) 1 1], .int .i64 2, .int .i64 4] w fun e w' => ∃ p1 c1 p2 n2 c2, e = .returned (.tuple #[.agg #[.slice p1 4 c1, .slice p2 n2 c2], .int .i64 0]) ∧ NRowL w' (.slice p1 4 c1) 4 iota1 ∧ Old w w' := by
  refine (next_any _ _ 3 1 iota1 iota4 2 4 w h1 h2 (shS _ _ _ _) (shS _ _ _ _)).mono ?_
  rintro e w' ⟨u, q⟩
  rw [flt4, nx4] at q
  rcases q with ⟨h, _⟩ | ⟨_, v1, v2, rfl, o1, o2⟩
  · exact absurd rfl h
  · obtain ⟨p1, c1, rfl⟩ := o1.len
    obtain ⟨p2, c2, rfl⟩ := o2.len
    exact ⟨p1, c1, p2, _, c2, rfl, o1.rowL (by decide) rfl (fun i hi => by match i, hi with | 0, _ => decide | 1, _ => decide | 2, _ => decide | 3, _ => decide), u⟩
theorem bytes3 (b1 b2 : Nat) (w : World) (h1 : NRowL w (.slice (some ⟨b1, 0, none⟩) 3 3) 3 iota1) (h2 : NRowL w (.slice (some ⟨b2, 0, none⟩) 1 1) 1 iota4) :
    Calls Try.prog 19 #[.agg #[.slice (some ⟨b1, 0, none⟩) 3 3, .slice (some ⟨b2, 0, none⟩) 1 1]] w fun e w' => ∃ p n c, e = .returned (.tuple #[.slice p n c, .int .i64 0]) ∧ Pk.OwnL w.heap.size w' (.slice p n c) (bytesC (lsI iota1 3) (lsI iota4 1)) ∧ Old w w' := by
  refine (bytes_any _ _ 3 1 iota1 iota4 w h1 h2 right3).mono ?_
  rintro e w' ⟨v, rfl, o, u⟩
  have hv : ∃ p n c, v = .slice p n c := by
    rcases o.own.2 with ⟨rfl, _⟩ | ⟨g, cap, cur, rfl, _⟩
    · exact ⟨_, _, _, rfl⟩
    · exact ⟨_, _, _, rfl⟩
  obtain ⟨p, n, c, rfl⟩ := hv
  exact ⟨p, n, c, rfl, o, u⟩
theorem load3 (v : Value) (w : World) (base : Nat) (h : Pk.OwnL base w v (bytesC (lsI iota1 3) (lsI iota4 1))) :
    Calls Try.prog 22 #[v] w fun e w' => ∃ p1 c1 p2 c2, e = .returned (.tuple #[.agg #[.slice p1 3 c1, .slice p2 1 c2], .int .i64 0]) ∧ NRowL w' (.slice p1 3 c1) 3 iota1 ∧ NRowL w' (.slice p2 1 c2) 1 iota4 ∧ Sh (.slice p1 3 c1) ∧ Sh (.slice p2 1 c2) ∧ Old w w' := by
  refine (load_any _ w v h.row).mono ?_
  rintro e w' ⟨u, q⟩
  rw [ld_bytes right3] at q
  rcases q with ⟨a, b, v1, v2, e1, rfl, o1, o2⟩ | ⟨e1, _⟩
  · cases e1
    have s1 := o1.sh
    have s2 := o2.sh
    obtain ⟨p1, c1, rfl⟩ := o1.len
    obtain ⟨p2, c2, rfl⟩ := o2.len
    exact ⟨p1, c1, p2, c2, rfl, o1.rowL (by decide) rfl (fun i hi => lsI_get iota1 3 i hi), o2.rowL (by decide) rfl (fun i hi => lsI_get iota4 1 i hi), s1, s2, u⟩
  · cases e1
set_option maxHeartbeats 8000000 in
set_option maxRecDepth 20000 in
theorem alive_any (w : World) : Calls Try.prog 8 #[] w fun e w' => e = .returned (.bool true) ∧ Old w w' := by
  go_enter Try.func8, Try.ntmps8
  go_upto_region 2 with (first | (go_at_call 28; refine (threeB_any _).mono ?_; rintro e w1 ⟨b1, b2, rfl, r1, r2, o1⟩; have R1 := hid r1; have R2 := hid r2; have O1 := hid o1; clear r1 r2 o1) | (go_at_call 10; refine (next3 _ _ _ R1.out R2.out).mono ?_; rintro e w2 ⟨p1, c1, p2, n2, c2, rfl, r3, o2⟩; have R3 := hid r3; have O2 := hid (O1.out.trans o2); clear r3 o2))
  have HN0 := hid (show (w2.alloc (.cells #[.slice p1 4 c1, .slice p2 n2 c2] 24)).cell? ⟨w2.heap.size, 0, none⟩ = some (.slice p1 4 c1) by simp)
  have R4 := hid (R3.out.old ((Old.refl _).alloc (.cells #[.slice p1 4 c1, .slice p2 n2 c2] 24)))
  have O3 := hid (O2.out.alloc (.cells #[.slice p1 4 c1, .slice p2 n2 c2] 24))
  generalize w2.alloc (.cells #[.slice p1 4 c1, .slice p2 n2 c2] 24) = w3 at *
  generalize w2.heap.size = nb at *
  clear R1 R2 R3 O1 O2
  go_upto_region 3 with (first | (go_at_call 28; refine (threeB_any _).mono ?_; rintro e w4 ⟨d1, d2, rfl, r1, r2, o1⟩; have R1 := hid r1; have R2 := hid r2; have O4 := hid o1; clear r1 r2 o1) | (go_at_call 19; refine (bytes3 _ _ _ R1.out R2.out).mono ?_; rintro e w5 ⟨pb, lb, cb, rfl, r5, o5⟩; have R5 := hid r5; have O5 := hid (O4.out.trans o5); clear r5 o5))
  clear R1 R2 O4
  go_upto_region 4 with (go_at_call 22; refine (load3 _ _ _ R5.out).mono ?_; rintro e w6 ⟨q1, e1, q2, e2, rfl, r6, r7, s6, s7, o6⟩; have R6 := hid r6; have R7 := hid r7; have S6 := hid s6; have S7 := hid s7; have O6 := hid (O5.out.trans o6); clear r6 r7 s6 s7 o6)
  have HBc := hid (show (w6.alloc (.cells #[.slice q1 3 e1, .slice q2 1 e2] 24)).cell? ⟨w6.heap.size, 0, none⟩ = some (.slice q1 3 e1) ∧ (w6.alloc (.cells #[.slice q1 3 e1, .slice q2 1 e2] 24)).cell? ⟨w6.heap.size, 1, none⟩ = some (.slice q2 1 e2) from ⟨by simp, by simp⟩)
  have O7 := hid (O6.out.alloc (.cells #[.slice q1 3 e1, .slice q2 1 e2] 24))
  have R8 := hid (R6.out.old ((Old.refl _).alloc (.cells #[.slice q1 3 e1, .slice q2 1 e2] 24)))
  have R9 := hid (R7.out.old ((Old.refl _).alloc (.cells #[.slice q1 3 e1, .slice q2 1 e2] 24)))
  generalize w6.alloc (.cells #[.slice q1 3 e1, .slice q2 1 e2] 24) = w9 at *
  generalize w6.heap.size = xb at *
  have HN1 := hid (O7.out.keep HN0.out)
  have R10 := hid (R4.out.old O7.out)
  have OW := hid (O3.out.trans O7.out)
  clear R5 R6 R7 O5 O6 O7 HN0 R4 O3
  have HBx := hid (show BxA nb xb (.slice p1 4 c1) (.slice q1 3 e1) (.slice q2 1 e2) w9 from ⟨HN1.out, HBc.out.1, HBc.out.2⟩)
  clear HN1 HBc
  refine wp_region_noPanic ?_
  refine wp_region_held_drew (S := BxA nb xb (.slice p1 4 c1) (.slice q1 3 e1) (.slice q2 1 e2)) (by kernel_rfl) ?_ (fun hHeld => ?_)
  · exact BxA.old ((Old.refl w9).drew) HBx.out
  (try simp only [Act.put]); (try simp only [List.setIfInBounds_toArray]); (try simp only [List.set_cons_succ]); (try simp only [List.set_cons_zero])
  clear hHeld
  refine wpAnyH_ready (rs := [0, 1]) (by kernel_rfl) (by simp) ?_
  refine AllReadyH.cons (o := { dst := some 22, op := Op.call { callee := Callee.value (Operand.func 28), args := #[], argTypes := #[] }, type := 24, pos := "law.go:19", after := #[], guard := none }) rfl (fun K hK => ?_) (AllReadyH.cons (o := { dst := some 23, op := Op.buildSlice 22 2 #[(0, Operand.const (Value.int IntKind.i64 1)), (1, Operand.const (Value.int IntKind.i64 3))], type := 22, pos := "law.go:19", after := #[], guard := none }) rfl (fun K hK => ?_) AllReadyH.nil)
  · skip
    refine wantCall0 ?_ 28 #[] ?_ ?_ ((enters_of Try.func28 (by kernel_rfl) rfl) _ _) ?_
    · rfl
    · rfl
    · rfl
    refine (threeB_any _).mono ?_
    rintro o x1 ⟨y1, z1, rfl, s1, t1, b1⟩
    refine ⟨_, rfl, ?_⟩
    have U1 := ((Old.refl w9).drew).trans b1
    refine hK.out _ _ (BxA.old U1 HBx.out) (fun _ => ?_)
    clear hK K
    (try simp only [Act.put]); (try simp only [List.setIfInBounds_toArray]); (try simp only [List.set_cons_succ]); (try simp only [List.set_cons_zero])
    refine wpAnyH_ready (rs := [1]) (by kernel_rfl) (by simp) ?_
    refine AllReadyH.cons (o := { dst := some 23, op := Op.buildSlice 22 2 #[(0, Operand.const (Value.int IntKind.i64 1)), (1, Operand.const (Value.int IntKind.i64 3))], type := 22, pos := "law.go:19", after := #[], guard := none }) rfl (fun K hK => ?_) AllReadyH.nil
    · skip
      refine bldA ?_ ?_ ?_
      · rfl
      · rfl
      intro m2 x2 b2 s2
      have r3 := s1.old b2
      have r4 := t1.old b2
      have U2 := U1.trans b2
      refine hK.out _ _ (BxA.old U2 HBx.out) (fun _ => ?_)
      clear hK K
      (try simp only [Act.put]); (try simp only [List.setIfInBounds_toArray]); (try simp only [List.set_cons_succ]); (try simp only [List.set_cons_zero])
      refine wpAnyH_ready (rs := [2]) (by kernel_rfl) (by simp) ?_
      refine AllReadyH.cons (o := { dst := some 24, op := Op.call { callee := Callee.value (Operand.func 13), args := #[Operand.tmp 22, Operand.tmp 23], argTypes := #[24, 22] }, type := 4, pos := "law.go:19", after := #[{ on := 0, ground := Ground.data }, { on := 1, ground := Ground.data }, { on := 0, ground := Ground.chain }], guard := none }) rfl (fun K hK => ?_) AllReadyH.nil
      · skip
        refine wantCall2 ?_ 13 (.tmp 22) (.tmp 23) #[24, 22] ?_ (.agg #[.slice (some ⟨y1, 0, none⟩) 3 3, .slice (some ⟨z1, 0, none⟩) 1 1]) (.slice (some ⟨m2, 0, none⟩) 2 2) ?_ ?_ ?_ ((enters_of Try.func13 (by kernel_rfl) rfl) _ _) ?_
        · rfl
        · rfl
        · rfl
        · rfl
        · rfl
        refine (quorumA _ _ _ _ r3 r4 s2).mono ?_
        rintro o x5 ⟨rfl, b5⟩
        refine ⟨_, rfl, ?_⟩
        have U5 := U2.trans b5
        refine hK.out _ _ (BxA.old U5 HBx.out) (fun _ => ?_)
        clear hK K
        (try simp only [Act.put]); (try simp only [List.setIfInBounds_toArray]); (try simp only [List.set_cons_succ]); (try simp only [List.set_cons_zero])
        refine wpAnyH_take (i := 3) (oi := { dst := some 25, op := Op.move (Operand.tmp 24), type := 4, pos := "law.go:19", after := #[{ on := 2, ground := Ground.data }, { on := 2, ground := Ground.chain }], guard := none }) (v := ?vk6) rfl (by kernel_rfl) (by kernel_rfl) (by kernel_rfl) (fun _ _ _ h => h) (Or.inl ⟨by rfl, ?hk6⟩) (BxA.old U5 HBx.out) ?rk6
        case hk6 => (intro wz hSw; (try dsimp only at hSw); go_simp; try with_reducible rfl)
        (try simp only [Act.put]); (try simp only [List.setIfInBounds_toArray]); (try simp only [List.set_cons_succ]); (try simp only [List.set_cons_zero])
        refine wpAnyH_ready (rs := [4, 5]) (by kernel_rfl) (by simp) ?_
        refine AllReadyH.cons (o := { dst := some 26, op := Op.call { callee := Callee.value (Operand.func 28), args := #[], argTypes := #[] }, type := 24, pos := "law.go:19", after := #[{ on := 3, ground := Ground.chain }, { on := 3, ground := Ground.guard }], guard := some (3, true) }) rfl (fun K hK => ?_) (AllReadyH.cons (o := { dst := some 27, op := Op.buildSlice 22 1 #[(0, Operand.const (Value.int IntKind.i64 2))], type := 22, pos := "law.go:19", after := #[{ on := 3, ground := Ground.guard }], guard := some (3, true) }) rfl (fun K hK => ?_) AllReadyH.nil)
        · skip
          refine wantCall0 ?_ 28 #[] ?_ ?_ ((enters_of Try.func28 (by kernel_rfl) rfl) _ _) ?_
          · rfl
          · rfl
          · rfl
          refine (threeB_any _).mono ?_
          rintro o x7 ⟨y7, z7, rfl, s7, t7, b7⟩
          refine ⟨_, rfl, ?_⟩
          have U7 := U5.trans b7
          refine hK.out _ _ (BxA.old U7 HBx.out) (fun _ => ?_)
          clear hK K
          (try simp only [Act.put]); (try simp only [List.setIfInBounds_toArray]); (try simp only [List.set_cons_succ]); (try simp only [List.set_cons_zero])
          refine wpAnyH_ready (rs := [5]) (by kernel_rfl) (by simp) ?_
          refine AllReadyH.cons (o := { dst := some 27, op := Op.buildSlice 22 1 #[(0, Operand.const (Value.int IntKind.i64 2))], type := 22, pos := "law.go:19", after := #[{ on := 3, ground := Ground.guard }], guard := some (3, true) }) rfl (fun K hK => ?_) AllReadyH.nil
          · skip
            refine bldB ?_ ?_ ?_
            · rfl
            · rfl
            intro m8 x8 b8 s8
            have r9 := s7.old b8
            have r10 := t7.old b8
            have U8 := U7.trans b8
            refine hK.out _ _ (BxA.old U8 HBx.out) (fun _ => ?_)
            clear hK K
            (try simp only [Act.put]); (try simp only [List.setIfInBounds_toArray]); (try simp only [List.set_cons_succ]); (try simp only [List.set_cons_zero])
            refine wpAnyH_ready (rs := [6]) (by kernel_rfl) (by simp) ?_
            refine AllReadyH.cons (o := { dst := some 28, op := Op.call { callee := Callee.value (Operand.func 13), args := #[Operand.tmp 26, Operand.tmp 27], argTypes := #[24, 22] }, type := 4, pos := "law.go:19", after := #[{ on := 4, ground := Ground.data }, { on := 5, ground := Ground.data }, { on := 4, ground := Ground.chain }, { on := 3, ground := Ground.guard }], guard := some (3, true) }) rfl (fun K hK => ?_) AllReadyH.nil
            · skip
              refine wantCall2 ?_ 13 (.tmp 26) (.tmp 27) #[24, 22] ?_ (.agg #[.slice (some ⟨y7, 0, none⟩) 3 3, .slice (some ⟨z7, 0, none⟩) 1 1]) (.slice (some ⟨m8, 0, none⟩) 1 1) ?_ ?_ ?_ ((enters_of Try.func13 (by kernel_rfl) rfl) _ _) ?_
              · rfl
              · rfl
              · rfl
              · rfl
              · rfl
              refine (quorumB _ _ _ _ r9 r10 s8).mono ?_
              rintro o x11 ⟨rfl, b11⟩
              refine ⟨_, rfl, ?_⟩
              have U11 := U8.trans b11
              refine hK.out _ _ (BxA.old U11 HBx.out) (fun _ => ?_)
              clear hK K
              (try simp only [Act.put]); (try simp only [List.setIfInBounds_toArray]); (try simp only [List.set_cons_succ]); (try simp only [List.set_cons_zero])
              refine wpAnyH_take (i := 7) (oi := { dst := some 29, op := Op.unOp UnOp.not 4 (Operand.tmp 28), type := 4, pos := "law.go:19", after := #[{ on := 6, ground := Ground.data }, { on := 3, ground := Ground.guard }], guard := some (3, true) }) (v := ?vk12) rfl (by kernel_rfl) (by kernel_rfl) (by kernel_rfl) (fun _ _ _ h => h) (Or.inl ⟨by rfl, ?hk12⟩) (BxA.old U11 HBx.out) ?rk12
              case hk12 => (intro wz hSw; (try dsimp only at hSw); go_simp; try with_reducible rfl)
              (try simp only [Act.put]); (try simp only [List.setIfInBounds_toArray]); (try simp only [List.set_cons_succ]); (try simp only [List.set_cons_zero])
              refine wpAnyH_take (i := 8) (oi := { dst := some 30, op := Op.pick (Operand.tmp 25) (Operand.tmp 29) (Operand.const (Value.bool false)), type := 4, pos := "law.go:19", after := #[{ on := 3, ground := Ground.data }, { on := 7, ground := Ground.data }], guard := none }) (v := ?vk13) rfl (by kernel_rfl) (by kernel_rfl) (by kernel_rfl) (fun _ _ _ h => h) (Or.inl ⟨by rfl, ?hk13⟩) (BxA.old U11 HBx.out) ?rk13
              case hk13 => (intro wz hSw; (try dsimp only at hSw); go_simp; try with_reducible rfl)
              (try simp only [Act.put]); (try simp only [List.setIfInBounds_toArray]); (try simp only [List.set_cons_succ]); (try simp only [List.set_cons_zero])
              refine wpAnyH_take (i := 9) (oi := { dst := some 31, op := Op.move (Operand.tmp 30), type := 4, pos := "law.go:19", after := #[{ on := 8, ground := Ground.data }, { on := 6, ground := Ground.chain }], guard := none }) (v := ?vk14) rfl (by kernel_rfl) (by kernel_rfl) (by kernel_rfl) (fun _ _ _ h => h) (Or.inl ⟨by rfl, ?hk14⟩) (BxA.old U11 HBx.out) ?rk14
              case hk14 => (intro wz hSw; (try dsimp only at hSw); go_simp; try with_reducible rfl)
              (try simp only [Act.put]); (try simp only [List.setIfInBounds_toArray]); (try simp only [List.set_cons_succ]); (try simp only [List.set_cons_zero])
              refine wpAnyH_take (i := 10) (oi := { dst := some 32, op := Op.move (Operand.tmp 2), type := 27, pos := "law.go:19", after := #[{ on := 9, ground := Ground.guard }], guard := some (9, true) }) (v := ?vk15) rfl (by kernel_rfl) (by kernel_rfl) (by kernel_rfl) (fun _ _ _ h => h) (Or.inl ⟨by rfl, ?hk15⟩) (BxA.old U11 HBx.out) ?rk15
              case hk15 => (intro wz hSw; (try dsimp only at hSw); go_simp; try with_reducible rfl)
              (try simp only [Act.put]); (try simp only [List.setIfInBounds_toArray]); (try simp only [List.set_cons_succ]); (try simp only [List.set_cons_zero])
              refine wpAnyH_take (i := 11) (oi := { dst := some 33, op := Op.binOp BinOp.eql 27 (Operand.tmp 32) (Operand.const (Value.int IntKind.i64 0)) 27, type := 4, pos := "law.go:19", after := #[{ on := 10, ground := Ground.data }, { on := 9, ground := Ground.guard }], guard := some (9, true) }) (v := ?vk16) rfl (by kernel_rfl) (by kernel_rfl) (by kernel_rfl) (fun _ _ _ h => h) (Or.inl ⟨by rfl, ?hk16⟩) (BxA.old U11 HBx.out) ?rk16
              case hk16 => (intro wz hSw; (try dsimp only at hSw); go_simp; try with_reducible rfl)
              (try simp only [Act.put]); (try simp only [List.setIfInBounds_toArray]); (try simp only [List.set_cons_succ]); (try simp only [List.set_cons_zero])
              refine wpAnyH_take (i := 12) (oi := { dst := some 34, op := Op.pick (Operand.tmp 31) (Operand.tmp 33) (Operand.const (Value.bool false)), type := 4, pos := "law.go:19", after := #[{ on := 9, ground := Ground.data }, { on := 11, ground := Ground.data }], guard := none }) (v := ?vk17) rfl (by kernel_rfl) (by kernel_rfl) (by kernel_rfl) (fun _ _ _ h => h) (Or.inl ⟨by rfl, ?hk17⟩) (BxA.old U11 HBx.out) ?rk17
              case hk17 => (intro wz hSw; (try dsimp only at hSw); go_simp; try with_reducible rfl)
              (try simp only [Act.put]); (try simp only [List.setIfInBounds_toArray]); (try simp only [List.set_cons_succ]); (try simp only [List.set_cons_zero])
              refine wpAnyH_take (i := 13) (oi := { dst := some 35, op := Op.move (Operand.tmp 34), type := 4, pos := "law.go:19", after := #[{ on := 12, ground := Ground.data }, { on := 9, ground := Ground.chain }], guard := none }) (v := ?vk18) rfl (by kernel_rfl) (by kernel_rfl) (by kernel_rfl) (fun _ _ _ h => h) (Or.inl ⟨by rfl, ?hk18⟩) (BxA.old U11 HBx.out) ?rk18
              case hk18 => (intro wz hSw; (try dsimp only at hSw); go_simp; try with_reducible rfl)
              (try simp only [Act.put]); (try simp only [List.setIfInBounds_toArray]); (try simp only [List.set_cons_succ]); (try simp only [List.set_cons_zero])
              refine wpAnyH_take (i := 14) (oi := { dst := some 36, op := Op.fieldAddr 24 (Operand.tmp 1) 0, type := 0, pos := "law.go:19", after := #[{ on := 13, ground := Ground.guard }], guard := some (13, true) }) (v := ?vk19) rfl (by kernel_rfl) (by kernel_rfl) (by kernel_rfl) (fun _ _ _ h => h) (Or.inl ⟨by rfl, ?hk19⟩) (BxA.old U11 HBx.out) ?rk19
              case hk19 => (intro wz hSw; (try dsimp only at hSw); go_simp; try with_reducible rfl)
              (try simp only [Act.put]); (try simp only [List.setIfInBounds_toArray]); (try simp only [List.set_cons_succ]); (try simp only [List.set_cons_zero])
              refine wpAnyH_take (i := 15) (oi := { dst := some 37, op := Op.load 22 (Operand.tmp 36), type := 22, pos := "law.go:19", after := #[{ on := 14, ground := Ground.data }, { on := 13, ground := Ground.guard }], guard := some (13, true) }) (v := ?vk20) rfl (by kernel_rfl) (by kernel_rfl) (by kernel_rfl) (fun _ _ _ h => h) (Or.inl ⟨by rfl, ?hk20⟩) (BxA.old U11 HBx.out) ?rk20
              case hk20 => (intro wz hSw; (try dsimp only at hSw); go_simp; try with_reducible rfl)
              (try simp only [Act.put]); (try simp only [List.setIfInBounds_toArray]); (try simp only [List.set_cons_succ]); (try simp only [List.set_cons_zero])
              refine wpAnyH_ready (rs := [16]) (by kernel_rfl) (by simp) ?_
              refine AllReadyH.cons (o := { dst := some 38, op := Op.buildSlice 22 4 #[(0, Operand.const (Value.int IntKind.i64 1)), (1, Operand.const (Value.int IntKind.i64 2)), (2, Operand.const (Value.int IntKind.i64 3)), (3, Operand.const (Value.int IntKind.i64 4))], type := 22, pos := "law.go:19", after := #[{ on := 13, ground := Ground.guard }], guard := some (13, true) }) rfl (fun K hK => ?_) AllReadyH.nil
              · skip
                refine bldC ?_ ?_ ?_
                · rfl
                · rfl
                intro m21 x21 b21 s21
                have U21 := U11.trans b21
                refine hK.out _ _ (BxA.old U21 HBx.out) (fun _ => ?_)
                clear hK K
                (try simp only [Act.put]); (try simp only [List.setIfInBounds_toArray]); (try simp only [List.set_cons_succ]); (try simp only [List.set_cons_zero])
                refine wpAnyH_ready (rs := [17]) (by kernel_rfl) (by simp) ?_
                refine AllReadyH.cons (o := { dst := some 39, op := Op.call { callee := Callee.value (Operand.func 17), args := #[Operand.tmp 37, Operand.tmp 38], argTypes := #[22, 22] }, type := 4, pos := "law.go:19", after := #[{ on := 15, ground := Ground.data }, { on := 16, ground := Ground.data }, { on := 13, ground := Ground.chain }, { on := 13, ground := Ground.guard }], guard := some (13, true) }) rfl (fun K hK => ?_) AllReadyH.nil
                · skip
                  refine wantCall2 ?_ 17 (.tmp 37) (.tmp 38) #[22, 22] ?_ (.slice p1 4 c1) (.slice (some ⟨m21, 0, none⟩) 4 4) ?_ ?_ ?_ ((enters_of Try.func17 (by kernel_rfl) rfl) _ _) ?_
                  · rfl
                  · rfl
                  · rfl
                  · rfl
                  · rfl
                  refine (sameInts_eq _ _ 4 iota1 _ (R10.out.old U21) (s21.congr (fun i hi => by match i, hi with | 0, _ => decide | 1, _ => decide | 2, _ => decide | 3, _ => decide))).mono ?_
                  rintro o x22 ⟨rfl, b22⟩
                  refine ⟨_, rfl, ?_⟩
                  have U22 := U21.trans b22
                  refine hK.out _ _ (BxA.old U22 HBx.out) (fun _ => ?_)
                  clear hK K
                  (try simp only [Act.put]); (try simp only [List.setIfInBounds_toArray]); (try simp only [List.set_cons_succ]); (try simp only [List.set_cons_zero])
                  refine wpAnyH_take (i := 18) (oi := { dst := some 40, op := Op.pick (Operand.tmp 35) (Operand.tmp 39) (Operand.const (Value.bool false)), type := 4, pos := "law.go:19", after := #[{ on := 13, ground := Ground.data }, { on := 17, ground := Ground.data }], guard := none }) (v := ?vk23) rfl (by kernel_rfl) (by kernel_rfl) (by kernel_rfl) (fun _ _ _ h => h) (Or.inl ⟨by rfl, ?hk23⟩) (BxA.old U22 HBx.out) ?rk23
                  case hk23 => (intro wz hSw; (try dsimp only at hSw); go_simp; try with_reducible rfl)
                  (try simp only [Act.put]); (try simp only [List.setIfInBounds_toArray]); (try simp only [List.set_cons_succ]); (try simp only [List.set_cons_zero])
                  refine wpAnyH_take (i := 19) (oi := { dst := some 41, op := Op.move (Operand.tmp 40), type := 4, pos := "law.go:19", after := #[{ on := 18, ground := Ground.data }, { on := 17, ground := Ground.chain }], guard := none }) (v := ?vk24) rfl (by kernel_rfl) (by kernel_rfl) (by kernel_rfl) (fun _ _ _ h => h) (Or.inl ⟨by rfl, ?hk24⟩) (BxA.old U22 HBx.out) ?rk24
                  case hk24 => (intro wz hSw; (try dsimp only at hSw); go_simp; try with_reducible rfl)
                  (try simp only [Act.put]); (try simp only [List.setIfInBounds_toArray]); (try simp only [List.set_cons_succ]); (try simp only [List.set_cons_zero])
                  refine wpAnyH_take (i := 20) (oi := { dst := some 42, op := Op.move (Operand.tmp 4), type := 27, pos := "law.go:19", after := #[{ on := 19, ground := Ground.guard }], guard := some (19, true) }) (v := ?vk25) rfl (by kernel_rfl) (by kernel_rfl) (by kernel_rfl) (fun _ _ _ h => h) (Or.inl ⟨by rfl, ?hk25⟩) (BxA.old U22 HBx.out) ?rk25
                  case hk25 => (intro wz hSw; (try dsimp only at hSw); go_simp; try with_reducible rfl)
                  (try simp only [Act.put]); (try simp only [List.setIfInBounds_toArray]); (try simp only [List.set_cons_succ]); (try simp only [List.set_cons_zero])
                  refine wpAnyH_take (i := 21) (oi := { dst := some 43, op := Op.binOp BinOp.eql 27 (Operand.tmp 42) (Operand.const (Value.int IntKind.i64 0)) 27, type := 4, pos := "law.go:19", after := #[{ on := 20, ground := Ground.data }, { on := 19, ground := Ground.guard }], guard := some (19, true) }) (v := ?vk26) rfl (by kernel_rfl) (by kernel_rfl) (by kernel_rfl) (fun _ _ _ h => h) (Or.inl ⟨by rfl, ?hk26⟩) (BxA.old U22 HBx.out) ?rk26
                  case hk26 => (intro wz hSw; (try dsimp only at hSw); go_simp; try with_reducible rfl)
                  (try simp only [Act.put]); (try simp only [List.setIfInBounds_toArray]); (try simp only [List.set_cons_succ]); (try simp only [List.set_cons_zero])
                  refine wpAnyH_take (i := 22) (oi := { dst := some 44, op := Op.pick (Operand.tmp 41) (Operand.tmp 43) (Operand.const (Value.bool false)), type := 4, pos := "law.go:19", after := #[{ on := 19, ground := Ground.data }, { on := 21, ground := Ground.data }], guard := none }) (v := ?vk27) rfl (by kernel_rfl) (by kernel_rfl) (by kernel_rfl) (fun _ _ _ h => h) (Or.inl ⟨by rfl, ?hk27⟩) (BxA.old U22 HBx.out) ?rk27
                  case hk27 => (intro wz hSw; (try dsimp only at hSw); go_simp; try with_reducible rfl)
                  (try simp only [Act.put]); (try simp only [List.setIfInBounds_toArray]); (try simp only [List.set_cons_succ]); (try simp only [List.set_cons_zero])
                  refine wpAnyH_take (i := 23) (oi := { dst := some 45, op := Op.move (Operand.tmp 44), type := 4, pos := "law.go:19", after := #[{ on := 22, ground := Ground.data }, { on := 19, ground := Ground.chain }], guard := none }) (v := ?vk28) rfl (by kernel_rfl) (by kernel_rfl) (by kernel_rfl) (fun _ _ _ h => h) (Or.inl ⟨by rfl, ?hk28⟩) (BxA.old U22 HBx.out) ?rk28
                  case hk28 => (intro wz hSw; (try dsimp only at hSw); go_simp; try with_reducible rfl)
                  (try simp only [Act.put]); (try simp only [List.setIfInBounds_toArray]); (try simp only [List.set_cons_succ]); (try simp only [List.set_cons_zero])
                  refine wpAnyH_take (i := 24) (oi := { dst := some 46, op := Op.move (Operand.tmp 6), type := 27, pos := "law.go:19", after := #[{ on := 23, ground := Ground.guard }], guard := some (23, true) }) (v := ?vk29) rfl (by kernel_rfl) (by kernel_rfl) (by kernel_rfl) (fun _ _ _ h => h) (Or.inl ⟨by rfl, ?hk29⟩) (BxA.old U22 HBx.out) ?rk29
                  case hk29 => (intro wz hSw; (try dsimp only at hSw); go_simp; try with_reducible rfl)
                  (try simp only [Act.put]); (try simp only [List.setIfInBounds_toArray]); (try simp only [List.set_cons_succ]); (try simp only [List.set_cons_zero])
                  refine wpAnyH_take (i := 25) (oi := { dst := some 47, op := Op.binOp BinOp.eql 27 (Operand.tmp 46) (Operand.const (Value.int IntKind.i64 0)) 27, type := 4, pos := "law.go:19", after := #[{ on := 24, ground := Ground.data }, { on := 23, ground := Ground.guard }], guard := some (23, true) }) (v := ?vk30) rfl (by kernel_rfl) (by kernel_rfl) (by kernel_rfl) (fun _ _ _ h => h) (Or.inl ⟨by rfl, ?hk30⟩) (BxA.old U22 HBx.out) ?rk30
                  case hk30 => (intro wz hSw; (try dsimp only at hSw); go_simp; try with_reducible rfl)
                  (try simp only [Act.put]); (try simp only [List.setIfInBounds_toArray]); (try simp only [List.set_cons_succ]); (try simp only [List.set_cons_zero])
                  refine wpAnyH_take (i := 26) (oi := { dst := some 48, op := Op.pick (Operand.tmp 45) (Operand.tmp 47) (Operand.const (Value.bool false)), type := 4, pos := "law.go:19", after := #[{ on := 23, ground := Ground.data }, { on := 25, ground := Ground.data }], guard := none }) (v := ?vk31) rfl (by kernel_rfl) (by kernel_rfl) (by kernel_rfl) (fun _ _ _ h => h) (Or.inl ⟨by rfl, ?hk31⟩) (BxA.old U22 HBx.out) ?rk31
                  case hk31 => (intro wz hSw; (try dsimp only at hSw); go_simp; try with_reducible rfl)
                  (try simp only [Act.put]); (try simp only [List.setIfInBounds_toArray]); (try simp only [List.set_cons_succ]); (try simp only [List.set_cons_zero])
                  refine wpAnyH_take (i := 27) (oi := { dst := some 49, op := Op.move (Operand.tmp 48), type := 4, pos := "law.go:19", after := #[{ on := 26, ground := Ground.data }, { on := 23, ground := Ground.chain }], guard := none }) (v := ?vk32) rfl (by kernel_rfl) (by kernel_rfl) (by kernel_rfl) (fun _ _ _ h => h) (Or.inl ⟨by rfl, ?hk32⟩) (BxA.old U22 HBx.out) ?rk32
                  case hk32 => (intro wz hSw; (try dsimp only at hSw); go_simp; try with_reducible rfl)
                  (try simp only [Act.put]); (try simp only [List.setIfInBounds_toArray]); (try simp only [List.set_cons_succ]); (try simp only [List.set_cons_zero])
                  refine wpAnyH_take (i := 28) (oi := { dst := some 50, op := Op.load 24 (Operand.tmp 5), type := 24, pos := "law.go:19", after := #[{ on := 27, ground := Ground.guard }], guard := some (27, true) }) (v := ?vk33) rfl (by kernel_rfl) (by kernel_rfl) (by kernel_rfl) (fun _ _ _ h => h) (Or.inl ⟨by rfl, ?hk33⟩) (BxA.old U22 HBx.out) ?rk33
                  case hk33 => (intro wz hSw; (try dsimp only at hSw); go_simp; try with_reducible rfl)
                  (try simp only [Act.put]); (try simp only [List.setIfInBounds_toArray]); (try simp only [List.set_cons_succ]); (try simp only [List.set_cons_zero])
                  refine wpAnyH_ready (rs := [29]) (by kernel_rfl) (by simp) ?_
                  refine AllReadyH.cons (o := { dst := some 51, op := Op.call { callee := Callee.value (Operand.func 28), args := #[], argTypes := #[] }, type := 24, pos := "law.go:19", after := #[{ on := 27, ground := Ground.chain }, { on := 27, ground := Ground.guard }], guard := some (27, true) }) rfl (fun K hK => ?_) AllReadyH.nil
                  · skip
                    refine wantCall0 ?_ 28 #[] ?_ ?_ ((enters_of Try.func28 (by kernel_rfl) rfl) _ _) ?_
                    · rfl
                    · rfl
                    · rfl
                    refine (threeB_any _).mono ?_
                    rintro o x34 ⟨y34, z34, rfl, s34, t34, b34⟩
                    refine ⟨_, rfl, ?_⟩
                    have U34 := U22.trans b34
                    refine hK.out _ _ (BxA.old U34 HBx.out) (fun _ => ?_)
                    clear hK K
                    (try simp only [Act.put]); (try simp only [List.setIfInBounds_toArray]); (try simp only [List.set_cons_succ]); (try simp only [List.set_cons_zero])
                    refine wpAnyH_ready (rs := [30]) (by kernel_rfl) (by simp) ?_
                    refine AllReadyH.cons (o := { dst := some 52, op := Op.call { callee := Callee.value (Operand.func 16), args := #[Operand.tmp 50, Operand.tmp 51], argTypes := #[24, 24] }, type := 4, pos := "law.go:19", after := #[{ on := 28, ground := Ground.data }, { on := 29, ground := Ground.data }, { on := 29, ground := Ground.chain }, { on := 27, ground := Ground.guard }], guard := some (27, true) }) rfl (fun K hK => ?_) AllReadyH.nil
                    · skip
                      refine wantCall2 ?_ 16 (.tmp 50) (.tmp 51) #[24, 24] ?_ (.agg #[.slice q1 3 e1, .slice q2 1 e2]) (.agg #[.slice (some ⟨y34, 0, none⟩) 3 3, .slice (some ⟨z34, 0, none⟩) 1 1]) ?_ ?_ ?_ ((enters_of Try.func16 (by kernel_rfl) rfl) _ _) ?_
                      · rfl
                      · rfl
                      · rfl
                      · rfl
                      · rfl
                      refine (same_eq _ _ _ _ 3 1 iota1 iota4 _ (R8.out.old U34) (R9.out.old U34) s34 t34).mono ?_
                      rintro o x35 ⟨rfl, b35⟩
                      refine ⟨_, rfl, ?_⟩
                      have U35 := U34.trans b35
                      refine hK.out _ _ (BxA.old U35 HBx.out) (fun _ => ?_)
                      clear hK K
                      (try simp only [Act.put]); (try simp only [List.setIfInBounds_toArray]); (try simp only [List.set_cons_succ]); (try simp only [List.set_cons_zero])
                      refine wpAnyH_take (i := 31) (oi := { dst := some 53, op := Op.pick (Operand.tmp 49) (Operand.tmp 52) (Operand.const (Value.bool false)), type := 4, pos := "law.go:19", after := #[{ on := 27, ground := Ground.data }, { on := 30, ground := Ground.data }], guard := none }) (v := ?vk36) rfl (by kernel_rfl) (by kernel_rfl) (by kernel_rfl) (fun _ _ _ h => h) (Or.inl ⟨by rfl, ?hk36⟩) (BxA.old U35 HBx.out) ?rk36
                      case hk36 => (intro wz hSw; (try dsimp only at hSw); go_simp; try with_reducible rfl)
                      (try simp only [Act.put]); (try simp only [List.setIfInBounds_toArray]); (try simp only [List.set_cons_succ]); (try simp only [List.set_cons_zero])
                      refine wpAnyH_take (i := 32) (oi := { dst := some 54, op := Op.move (Operand.tmp 53), type := 4, pos := "law.go:19", after := #[{ on := 31, ground := Ground.data }, { on := 30, ground := Ground.chain }], guard := none }) (v := ?vk37) rfl (by kernel_rfl) (by kernel_rfl) (by kernel_rfl) (fun _ _ _ h => h) (Or.inl ⟨by rfl, ?hk37⟩) (BxA.old U35 HBx.out) ?rk37
                      case hk37 => (intro wz hSw; (try dsimp only at hSw); go_simp; try with_reducible rfl)
                      (try simp only [Act.put]); (try simp only [List.setIfInBounds_toArray]); (try simp only [List.set_cons_succ]); (try simp only [List.set_cons_zero])
                      refine wpAnyH_take (i := 33) (oi := { dst := some 55, op := Op.load 24 (Operand.tmp 5), type := 24, pos := "law.go:19", after := #[{ on := 32, ground := Ground.guard }], guard := some (32, true) }) (v := ?vk38) rfl (by kernel_rfl) (by kernel_rfl) (by kernel_rfl) (fun _ _ _ h => h) (Or.inl ⟨by rfl, ?hk38⟩) (BxA.old U35 HBx.out) ?rk38
                      case hk38 => (intro wz hSw; (try dsimp only at hSw); go_simp; try with_reducible rfl)
                      (try simp only [Act.put]); (try simp only [List.setIfInBounds_toArray]); (try simp only [List.set_cons_succ]); (try simp only [List.set_cons_zero])
                      refine wpAnyH_ready (rs := [34]) (by kernel_rfl) (by simp) ?_
                      refine AllReadyH.cons (o := { dst := some 56, op := Op.call { callee := Callee.value (Operand.func 9), args := #[Operand.tmp 55], argTypes := #[24] }, type := 4, pos := "law.go:19", after := #[{ on := 33, ground := Ground.data }, { on := 32, ground := Ground.chain }, { on := 32, ground := Ground.guard }], guard := some (32, true) }) rfl (fun K hK => ?_) AllReadyH.nil
                      · skip
                        refine wantCall1 ?_ 9 (.tmp 55) #[24] ?_ (.agg #[.slice q1 3 e1, .slice q2 1 e2]) ?_ ?_ ((enters_of Try.func9 (by kernel_rfl) rfl) _ _) ?_
                        · rfl
                        · rfl
                        · rfl
                        · rfl
                        refine (rightA _ _ _ (R8.out.old U35) (R9.out.old U35)).mono ?_
                        rintro o x39 ⟨rfl, b39⟩
                        refine ⟨_, rfl, ?_⟩
                        have U39 := U35.trans b39
                        refine hK.out _ _ (BxA.old U39 HBx.out) (fun _ => ?_)
                        clear hK K
                        (try simp only [Act.put]); (try simp only [List.setIfInBounds_toArray]); (try simp only [List.set_cons_succ]); (try simp only [List.set_cons_zero])
                        refine wpAnyH_take (i := 35) (oi := { dst := some 57, op := Op.pick (Operand.tmp 54) (Operand.tmp 56) (Operand.const (Value.bool false)), type := 4, pos := "law.go:19", after := #[{ on := 32, ground := Ground.data }, { on := 34, ground := Ground.data }], guard := none }) (v := ?vk40) rfl (by kernel_rfl) (by kernel_rfl) (by kernel_rfl) (fun _ _ _ h => h) (Or.inl ⟨by rfl, ?hk40⟩) (BxA.old U39 HBx.out) ?rk40
                        case hk40 => (intro wz hSw; (try dsimp only at hSw); go_simp; try with_reducible rfl)
                        (try simp only [Act.put]); (try simp only [List.setIfInBounds_toArray]); (try simp only [List.set_cons_succ]); (try simp only [List.set_cons_zero])
                        refine wpAnyH_take (i := 36) (oi := { dst := some 58, op := Op.move (Operand.tmp 57), type := 4, pos := "law.go:19", after := #[{ on := 35, ground := Ground.data }, { on := 34, ground := Ground.chain }], guard := none }) (v := ?vk41) rfl (by kernel_rfl) (by kernel_rfl) (by kernel_rfl) (fun _ _ _ h => h) (Or.inl ⟨by rfl, ?hk41⟩) (BxA.old U39 HBx.out) ?rk41
                        case hk41 => (intro wz hSw; (try dsimp only at hSw); go_simp; try with_reducible rfl)
                        (try simp only [Act.put]); (try simp only [List.setIfInBounds_toArray]); (try simp only [List.set_cons_succ]); (try simp only [List.set_cons_zero])
                        refine wpAnyH_take (i := 37) (oi := { dst := some 59, op := Op.load 24 (Operand.tmp 5), type := 24, pos := "law.go:19", after := #[{ on := 36, ground := Ground.guard }], guard := some (36, true) }) (v := ?vk42) rfl (by kernel_rfl) (by kernel_rfl) (by kernel_rfl) (fun _ _ _ h => h) (Or.inl ⟨by rfl, ?hk42⟩) (BxA.old U39 HBx.out) ?rk42
                        case hk42 => (intro wz hSw; (try dsimp only at hSw); go_simp; try with_reducible rfl)
                        (try simp only [Act.put]); (try simp only [List.setIfInBounds_toArray]); (try simp only [List.set_cons_succ]); (try simp only [List.set_cons_zero])
                        refine wpAnyH_ready (rs := [38]) (by kernel_rfl) (by simp) ?_
                        refine AllReadyH.cons (o := { dst := some 60, op := Op.call { callee := Callee.value (Operand.func 12), args := #[Operand.tmp 59, Operand.const (Value.int IntKind.i64 1)], argTypes := #[24, 3] }, type := 4, pos := "law.go:19", after := #[{ on := 37, ground := Ground.data }, { on := 36, ground := Ground.chain }, { on := 36, ground := Ground.guard }], guard := some (36, true) }) rfl (fun K hK => ?_) AllReadyH.nil
                        · skip
                          refine wantCall2 ?_ 12 (.tmp 59) (.const (.int .i64 1)) #[24, 3] ?_ (.agg #[.slice q1 3 e1, .slice q2 1 e2]) (.int .i64 1) ?_ ?_ ?_ ((enters_of Try.func12 (by kernel_rfl) rfl) _ _) ?_
                          · rfl
                          · rfl
                          · rfl
                          · rfl
                          · rfl
                          refine (voterA _ _ _ (R8.out.old U39) (R9.out.old U39)).mono ?_
                          rintro o x43 ⟨rfl, b43⟩
                          refine ⟨_, rfl, ?_⟩
                          have U43 := U39.trans b43
                          refine hK.out _ _ (BxA.old U43 HBx.out) (fun _ => ?_)
                          clear hK K
                          (try simp only [Act.put]); (try simp only [List.setIfInBounds_toArray]); (try simp only [List.set_cons_succ]); (try simp only [List.set_cons_zero])
                          refine wpAnyH_take (i := 39) (oi := { dst := some 61, op := Op.pick (Operand.tmp 58) (Operand.tmp 60) (Operand.const (Value.bool false)), type := 4, pos := "law.go:19", after := #[{ on := 36, ground := Ground.data }, { on := 38, ground := Ground.data }], guard := none }) (v := ?vk44) rfl (by kernel_rfl) (by kernel_rfl) (by kernel_rfl) (fun _ _ _ h => h) (Or.inl ⟨by rfl, ?hk44⟩) (BxA.old U43 HBx.out) ?rk44
                          case hk44 => (intro wz hSw; (try dsimp only at hSw); go_simp; try with_reducible rfl)
                          (try simp only [Act.put]); (try simp only [List.setIfInBounds_toArray]); (try simp only [List.set_cons_succ]); (try simp only [List.set_cons_zero])
                          refine wpAnyH_take (i := 40) (oi := { dst := some 62, op := Op.move (Operand.tmp 61), type := 4, pos := "law.go:19", after := #[{ on := 39, ground := Ground.data }, { on := 38, ground := Ground.chain }], guard := none }) (v := ?vk45) rfl (by kernel_rfl) (by kernel_rfl) (by kernel_rfl) (fun _ _ _ h => h) (Or.inl ⟨by rfl, ?hk45⟩) (BxA.old U43 HBx.out) ?rk45
                          case hk45 => (intro wz hSw; (try dsimp only at hSw); go_simp; try with_reducible rfl)
                          (try simp only [Act.put]); (try simp only [List.setIfInBounds_toArray]); (try simp only [List.set_cons_succ]); (try simp only [List.set_cons_zero])
                          refine wpAnyH_take (i := 41) (oi := { dst := some 63, op := Op.load 24 (Operand.tmp 5), type := 24, pos := "law.go:19", after := #[{ on := 40, ground := Ground.guard }], guard := some (40, true) }) (v := ?vk46) rfl (by kernel_rfl) (by kernel_rfl) (by kernel_rfl) (fun _ _ _ h => h) (Or.inl ⟨by rfl, ?hk46⟩) (BxA.old U43 HBx.out) ?rk46
                          case hk46 => (intro wz hSw; (try dsimp only at hSw); go_simp; try with_reducible rfl)
                          (try simp only [Act.put]); (try simp only [List.setIfInBounds_toArray]); (try simp only [List.set_cons_succ]); (try simp only [List.set_cons_zero])
                          refine wpAnyH_ready (rs := [42]) (by kernel_rfl) (by simp) ?_
                          refine AllReadyH.cons (o := { dst := some 64, op := Op.call { callee := Callee.value (Operand.func 11), args := #[Operand.tmp 63, Operand.const (Value.int IntKind.i64 4)], argTypes := #[24, 3] }, type := 4, pos := "law.go:19", after := #[{ on := 41, ground := Ground.data }, { on := 40, ground := Ground.chain }, { on := 40, ground := Ground.guard }], guard := some (40, true) }) rfl (fun K hK => ?_) AllReadyH.nil
                          · skip
                            refine wantCall2 ?_ 11 (.tmp 63) (.const (.int .i64 4)) #[24, 3] ?_ (.agg #[.slice q1 3 e1, .slice q2 1 e2]) (.int .i64 4) ?_ ?_ ?_ ((enters_of Try.func11 (by kernel_rfl) rfl) _ _) ?_
                            · rfl
                            · rfl
                            · rfl
                            · rfl
                            · rfl
                            refine (memberA _ _ _ (R8.out.old U43) (R9.out.old U43)).mono ?_
                            rintro o x47 ⟨rfl, b47⟩
                            refine ⟨_, rfl, ?_⟩
                            have U47 := U43.trans b47
                            refine hK.out _ _ (BxA.old U47 HBx.out) (fun _ => ?_)
                            clear hK K
                            (try simp only [Act.put]); (try simp only [List.setIfInBounds_toArray]); (try simp only [List.set_cons_succ]); (try simp only [List.set_cons_zero])
                            refine wpAnyH_take (i := 43) (oi := { dst := some 65, op := Op.pick (Operand.tmp 62) (Operand.tmp 64) (Operand.const (Value.bool false)), type := 4, pos := "law.go:19", after := #[{ on := 40, ground := Ground.data }, { on := 42, ground := Ground.data }], guard := none }) (v := ?vk48) rfl (by kernel_rfl) (by kernel_rfl) (by kernel_rfl) (fun _ _ _ h => h) (Or.inl ⟨by rfl, ?hk48⟩) (BxA.old U47 HBx.out) ?rk48
                            case hk48 => (intro wz hSw; (try dsimp only at hSw); go_simp; try with_reducible rfl)
                            (try simp only [Act.put]); (try simp only [List.setIfInBounds_toArray]); (try simp only [List.set_cons_succ]); (try simp only [List.set_cons_zero])
                            refine wpAnyH_take (i := 44) (oi := { dst := some 66, op := Op.move (Operand.tmp 65), type := 4, pos := "law.go:19", after := #[{ on := 43, ground := Ground.data }, { on := 42, ground := Ground.chain }], guard := none }) (v := ?vk49) rfl (by kernel_rfl) (by kernel_rfl) (by kernel_rfl) (fun _ _ _ h => h) (Or.inl ⟨by rfl, ?hk49⟩) (BxA.old U47 HBx.out) ?rk49
                            case hk49 => (intro wz hSw; (try dsimp only at hSw); go_simp; try with_reducible rfl)
                            (try simp only [Act.put]); (try simp only [List.setIfInBounds_toArray]); (try simp only [List.set_cons_succ]); (try simp only [List.set_cons_zero])
                            refine wpAnyH_take (i := 45) (oi := { dst := some 67, op := Op.load 24 (Operand.tmp 5), type := 24, pos := "law.go:19", after := #[{ on := 44, ground := Ground.guard }], guard := some (44, true) }) (v := ?vk50) rfl (by kernel_rfl) (by kernel_rfl) (by kernel_rfl) (fun _ _ _ h => h) (Or.inl ⟨by rfl, ?hk50⟩) (BxA.old U47 HBx.out) ?rk50
                            case hk50 => (intro wz hSw; (try dsimp only at hSw); go_simp; try with_reducible rfl)
                            (try simp only [Act.put]); (try simp only [List.setIfInBounds_toArray]); (try simp only [List.set_cons_succ]); (try simp only [List.set_cons_zero])
                            refine wpAnyH_ready (rs := [46, 47]) (by kernel_rfl) (by simp) ?_
                            refine AllReadyH.cons (o := { dst := some 68, op := Op.call { callee := Callee.value (Operand.func 25), args := #[Operand.tmp 67, Operand.const (Value.int IntKind.i64 2)], argTypes := #[24, 3] }, type := 22, pos := "law.go:19", after := #[{ on := 45, ground := Ground.data }, { on := 44, ground := Ground.chain }, { on := 44, ground := Ground.guard }], guard := some (44, true) }) rfl (fun K hK => ?_) (AllReadyH.cons (o := { dst := some 69, op := Op.buildSlice 22 3 #[(0, Operand.const (Value.int IntKind.i64 1)), (1, Operand.const (Value.int IntKind.i64 3)), (2, Operand.const (Value.int IntKind.i64 4))], type := 22, pos := "law.go:19", after := #[{ on := 44, ground := Ground.guard }], guard := some (44, true) }) rfl (fun K hK => ?_) AllReadyH.nil)
                            · skip
                              refine wantCall2 ?_ 25 (.tmp 67) (.const (.int .i64 2)) #[24, 3] ?_ (.agg #[.slice q1 3 e1, .slice q2 1 e2]) (.int .i64 2) ?_ ?_ ?_ ((enters_of Try.func25 (by kernel_rfl) rfl) _ _) ?_
                              · rfl
                              · rfl
                              · rfl
                              · rfl
                              · rfl
                              refine (othersA _ _ _ (R8.out.old U47) S6.out (R9.out.old U47) S7.out).mono ?_
                              rintro o x51 ⟨p51, c51, rfl, s51, b51⟩
                              refine ⟨_, rfl, ?_⟩
                              have U51 := U47.trans b51
                              refine hK.out _ _ (BxA.old U51 HBx.out) (fun _ => ?_)
                              clear hK K
                              (try simp only [Act.put]); (try simp only [List.setIfInBounds_toArray]); (try simp only [List.set_cons_succ]); (try simp only [List.set_cons_zero])
                              refine wpAnyH_ready (rs := [47]) (by kernel_rfl) (by simp) ?_
                              refine AllReadyH.cons (o := { dst := some 69, op := Op.buildSlice 22 3 #[(0, Operand.const (Value.int IntKind.i64 1)), (1, Operand.const (Value.int IntKind.i64 3)), (2, Operand.const (Value.int IntKind.i64 4))], type := 22, pos := "law.go:19", after := #[{ on := 44, ground := Ground.guard }], guard := some (44, true) }) rfl (fun K hK => ?_) AllReadyH.nil
                              · skip
                                refine bldD ?_ ?_ ?_
                                · rfl
                                · rfl
                                intro m52 x52 b52 s52
                                have r53 := s51.old b52
                                have U52 := U51.trans b52
                                refine hK.out _ _ (BxA.old U52 HBx.out) (fun _ => ?_)
                                clear hK K
                                (try simp only [Act.put]); (try simp only [List.setIfInBounds_toArray]); (try simp only [List.set_cons_succ]); (try simp only [List.set_cons_zero])
                                refine wpAnyH_ready (rs := [48]) (by kernel_rfl) (by simp) ?_
                                refine AllReadyH.cons (o := { dst := some 70, op := Op.call { callee := Callee.value (Operand.func 17), args := #[Operand.tmp 68, Operand.tmp 69], argTypes := #[22, 22] }, type := 4, pos := "law.go:19", after := #[{ on := 46, ground := Ground.data }, { on := 47, ground := Ground.data }, { on := 46, ground := Ground.chain }, { on := 44, ground := Ground.guard }], guard := some (44, true) }) rfl (fun K hK => ?_) AllReadyH.nil
                                · skip
                                  refine wantCall2 ?_ 17 (.tmp 68) (.tmp 69) #[22, 22] ?_ (.slice p51 3 c51) (.slice (some ⟨m52, 0, none⟩) 3 3) ?_ ?_ ?_ ((enters_of Try.func17 (by kernel_rfl) rfl) _ _) ?_
                                  · rfl
                                  · rfl
                                  · rfl
                                  · rfl
                                  · rfl
                                  refine (sameInts_eq _ _ 3 (gI [1, 3, 4]) _ r53 s52).mono ?_
                                  rintro o x54 ⟨rfl, b54⟩
                                  refine ⟨_, rfl, ?_⟩
                                  have r55 := r53.old b54
                                  have r56 := s52.old b54
                                  have U54 := U52.trans b54
                                  refine hK.out _ _ (BxA.old U54 HBx.out) (fun _ => ?_)
                                  clear hK K
                                  (try simp only [Act.put]); (try simp only [List.setIfInBounds_toArray]); (try simp only [List.set_cons_succ]); (try simp only [List.set_cons_zero])
                                  refine wpAnyH_take (i := 49) (oi := { dst := some 71, op := Op.pick (Operand.tmp 66) (Operand.tmp 70) (Operand.const (Value.bool false)), type := 4, pos := "law.go:19", after := #[{ on := 44, ground := Ground.data }, { on := 48, ground := Ground.data }], guard := none }) (v := ?vk57) rfl (by kernel_rfl) (by kernel_rfl) (by kernel_rfl) (fun _ _ _ h => h) (Or.inl ⟨by rfl, ?hk57⟩) (BxA.old U54 HBx.out) ?rk57
                                  case hk57 => (intro wz hSw; (try dsimp only at hSw); go_simp; try with_reducible rfl)
                                  (try simp only [Act.put]); (try simp only [List.setIfInBounds_toArray]); (try simp only [List.set_cons_succ]); (try simp only [List.set_cons_zero])
                                  refine wpAnyH_ready (rs := [50]) (by kernel_rfl) (by simp) ?_
                                  refine AllReadyH.cons (o := { dst := some 0, op := Op.assign (Operand.tmp 71), type := 4, pos := "law.go:19", after := #[{ on := 49, ground := Ground.data }, { on := 48, ground := Ground.chain }, { on := 0, ground := Ground.phase }, { on := 1, ground := Ground.phase }, { on := 2, ground := Ground.phase }, { on := 3, ground := Ground.phase }, { on := 4, ground := Ground.phase }, { on := 5, ground := Ground.phase }, { on := 6, ground := Ground.phase }, { on := 7, ground := Ground.phase }, { on := 8, ground := Ground.phase }, { on := 9, ground := Ground.phase }, { on := 10, ground := Ground.phase }, { on := 11, ground := Ground.phase }, { on := 12, ground := Ground.phase }, { on := 13, ground := Ground.phase }, { on := 14, ground := Ground.phase }, { on := 15, ground := Ground.phase }, { on := 16, ground := Ground.phase }, { on := 17, ground := Ground.phase }, { on := 18, ground := Ground.phase }, { on := 19, ground := Ground.phase }, { on := 20, ground := Ground.phase }, { on := 21, ground := Ground.phase }, { on := 22, ground := Ground.phase }, { on := 23, ground := Ground.phase }, { on := 24, ground := Ground.phase }, { on := 25, ground := Ground.phase }, { on := 26, ground := Ground.phase }, { on := 27, ground := Ground.phase }, { on := 28, ground := Ground.phase }, { on := 29, ground := Ground.phase }, { on := 30, ground := Ground.phase }, { on := 31, ground := Ground.phase }, { on := 32, ground := Ground.phase }, { on := 33, ground := Ground.phase }, { on := 34, ground := Ground.phase }, { on := 35, ground := Ground.phase }, { on := 36, ground := Ground.phase }, { on := 37, ground := Ground.phase }, { on := 38, ground := Ground.phase }, { on := 39, ground := Ground.phase }, { on := 40, ground := Ground.phase }, { on := 41, ground := Ground.phase }, { on := 42, ground := Ground.phase }, { on := 43, ground := Ground.phase }, { on := 44, ground := Ground.phase }, { on := 45, ground := Ground.phase }, { on := 46, ground := Ground.phase }, { on := 47, ground := Ground.phase }, { on := 48, ground := Ground.phase }, { on := 49, ground := Ground.phase }], guard := none }) rfl (fun K hK => ?_) AllReadyH.nil
                                  · skip
                                    go_simp
                                    refine hK.out _ _ (BxA.old U54 HBx.out) (fun _ => ?_)
                                    clear hK K
                                    (try simp only [Act.put]); (try simp only [List.setIfInBounds_toArray]); (try simp only [List.set_cons_succ]); (try simp only [List.set_cons_zero])
                                    refine wpAnyH_done (by kernel_rfl) ?_ _
                                    refine NoPanic.normal ?_
                                    have UZ := hid U54
                                    go_wp2
                                    go_ret
                                    exact ⟨rfl, OW.out.trans UZ.out⟩
                            · skip
                              refine bldD ?_ ?_ ?_
                              · rfl
                              · rfl
                              intro m58 x58 b58 s58
                              have U58 := U47.trans b58
                              refine hK.out _ _ (BxA.old U58 HBx.out) (fun _ => ?_)
                              clear hK K
                              (try simp only [Act.put]); (try simp only [List.setIfInBounds_toArray]); (try simp only [List.set_cons_succ]); (try simp only [List.set_cons_zero])
                              refine wpAnyH_ready (rs := [46]) (by kernel_rfl) (by simp) ?_
                              refine AllReadyH.cons (o := { dst := some 68, op := Op.call { callee := Callee.value (Operand.func 25), args := #[Operand.tmp 67, Operand.const (Value.int IntKind.i64 2)], argTypes := #[24, 3] }, type := 22, pos := "law.go:19", after := #[{ on := 45, ground := Ground.data }, { on := 44, ground := Ground.chain }, { on := 44, ground := Ground.guard }], guard := some (44, true) }) rfl (fun K hK => ?_) AllReadyH.nil
                              · skip
                                refine wantCall2 ?_ 25 (.tmp 67) (.const (.int .i64 2)) #[24, 3] ?_ (.agg #[.slice q1 3 e1, .slice q2 1 e2]) (.int .i64 2) ?_ ?_ ?_ ((enters_of Try.func25 (by kernel_rfl) rfl) _ _) ?_
                                · rfl
                                · rfl
                                · rfl
                                · rfl
                                · rfl
                                refine (othersA _ _ _ (R8.out.old U58) S6.out (R9.out.old U58) S7.out).mono ?_
                                rintro o x59 ⟨p59, c59, rfl, s59, b59⟩
                                refine ⟨_, rfl, ?_⟩
                                have r60 := s58.old b59
                                have U59 := U58.trans b59
                                refine hK.out _ _ (BxA.old U59 HBx.out) (fun _ => ?_)
                                clear hK K
                                (try simp only [Act.put]); (try simp only [List.setIfInBounds_toArray]); (try simp only [List.set_cons_succ]); (try simp only [List.set_cons_zero])
                                refine wpAnyH_ready (rs := [48]) (by kernel_rfl) (by simp) ?_
                                refine AllReadyH.cons (o := { dst := some 70, op := Op.call { callee := Callee.value (Operand.func 17), args := #[Operand.tmp 68, Operand.tmp 69], argTypes := #[22, 22] }, type := 4, pos := "law.go:19", after := #[{ on := 46, ground := Ground.data }, { on := 47, ground := Ground.data }, { on := 46, ground := Ground.chain }, { on := 44, ground := Ground.guard }], guard := some (44, true) }) rfl (fun K hK => ?_) AllReadyH.nil
                                · skip
                                  refine wantCall2 ?_ 17 (.tmp 68) (.tmp 69) #[22, 22] ?_ (.slice p59 3 c59) (.slice (some ⟨m58, 0, none⟩) 3 3) ?_ ?_ ?_ ((enters_of Try.func17 (by kernel_rfl) rfl) _ _) ?_
                                  · rfl
                                  · rfl
                                  · rfl
                                  · rfl
                                  · rfl
                                  refine (sameInts_eq _ _ 3 (gI [1, 3, 4]) _ s59 r60).mono ?_
                                  rintro o x61 ⟨rfl, b61⟩
                                  refine ⟨_, rfl, ?_⟩
                                  have r62 := r60.old b61
                                  have r63 := s59.old b61
                                  have U61 := U59.trans b61
                                  refine hK.out _ _ (BxA.old U61 HBx.out) (fun _ => ?_)
                                  clear hK K
                                  (try simp only [Act.put]); (try simp only [List.setIfInBounds_toArray]); (try simp only [List.set_cons_succ]); (try simp only [List.set_cons_zero])
                                  refine wpAnyH_take (i := 49) (oi := { dst := some 71, op := Op.pick (Operand.tmp 66) (Operand.tmp 70) (Operand.const (Value.bool false)), type := 4, pos := "law.go:19", after := #[{ on := 44, ground := Ground.data }, { on := 48, ground := Ground.data }], guard := none }) (v := ?vk64) rfl (by kernel_rfl) (by kernel_rfl) (by kernel_rfl) (fun _ _ _ h => h) (Or.inl ⟨by rfl, ?hk64⟩) (BxA.old U61 HBx.out) ?rk64
                                  case hk64 => (intro wz hSw; (try dsimp only at hSw); go_simp; try with_reducible rfl)
                                  (try simp only [Act.put]); (try simp only [List.setIfInBounds_toArray]); (try simp only [List.set_cons_succ]); (try simp only [List.set_cons_zero])
                                  refine wpAnyH_ready (rs := [50]) (by kernel_rfl) (by simp) ?_
                                  refine AllReadyH.cons (o := { dst := some 0, op := Op.assign (Operand.tmp 71), type := 4, pos := "law.go:19", after := #[{ on := 49, ground := Ground.data }, { on := 48, ground := Ground.chain }, { on := 0, ground := Ground.phase }, { on := 1, ground := Ground.phase }, { on := 2, ground := Ground.phase }, { on := 3, ground := Ground.phase }, { on := 4, ground := Ground.phase }, { on := 5, ground := Ground.phase }, { on := 6, ground := Ground.phase }, { on := 7, ground := Ground.phase }, { on := 8, ground := Ground.phase }, { on := 9, ground := Ground.phase }, { on := 10, ground := Ground.phase }, { on := 11, ground := Ground.phase }, { on := 12, ground := Ground.phase }, { on := 13, ground := Ground.phase }, { on := 14, ground := Ground.phase }, { on := 15, ground := Ground.phase }, { on := 16, ground := Ground.phase }, { on := 17, ground := Ground.phase }, { on := 18, ground := Ground.phase }, { on := 19, ground := Ground.phase }, { on := 20, ground := Ground.phase }, { on := 21, ground := Ground.phase }, { on := 22, ground := Ground.phase }, { on := 23, ground := Ground.phase }, { on := 24, ground := Ground.phase }, { on := 25, ground := Ground.phase }, { on := 26, ground := Ground.phase }, { on := 27, ground := Ground.phase }, { on := 28, ground := Ground.phase }, { on := 29, ground := Ground.phase }, { on := 30, ground := Ground.phase }, { on := 31, ground := Ground.phase }, { on := 32, ground := Ground.phase }, { on := 33, ground := Ground.phase }, { on := 34, ground := Ground.phase }, { on := 35, ground := Ground.phase }, { on := 36, ground := Ground.phase }, { on := 37, ground := Ground.phase }, { on := 38, ground := Ground.phase }, { on := 39, ground := Ground.phase }, { on := 40, ground := Ground.phase }, { on := 41, ground := Ground.phase }, { on := 42, ground := Ground.phase }, { on := 43, ground := Ground.phase }, { on := 44, ground := Ground.phase }, { on := 45, ground := Ground.phase }, { on := 46, ground := Ground.phase }, { on := 47, ground := Ground.phase }, { on := 48, ground := Ground.phase }, { on := 49, ground := Ground.phase }], guard := none }) rfl (fun K hK => ?_) AllReadyH.nil
                                  · skip
                                    go_simp
                                    refine hK.out _ _ (BxA.old U61 HBx.out) (fun _ => ?_)
                                    clear hK K
                                    (try simp only [Act.put]); (try simp only [List.setIfInBounds_toArray]); (try simp only [List.set_cons_succ]); (try simp only [List.set_cons_zero])
                                    refine wpAnyH_done (by kernel_rfl) ?_ _
                                    refine NoPanic.normal ?_
                                    have UZ := hid U61
                                    go_wp2
                                    go_ret
                                    exact ⟨rfl, OW.out.trans UZ.out⟩
        · skip
          refine bldB ?_ ?_ ?_
          · rfl
          · rfl
          intro m65 x65 b65 s65
          have U65 := U5.trans b65
          refine hK.out _ _ (BxA.old U65 HBx.out) (fun _ => ?_)
          clear hK K
          (try simp only [Act.put]); (try simp only [List.setIfInBounds_toArray]); (try simp only [List.set_cons_succ]); (try simp only [List.set_cons_zero])
          refine wpAnyH_ready (rs := [4]) (by kernel_rfl) (by simp) ?_
          refine AllReadyH.cons (o := { dst := some 26, op := Op.call { callee := Callee.value (Operand.func 28), args := #[], argTypes := #[] }, type := 24, pos := "law.go:19", after := #[{ on := 3, ground := Ground.chain }, { on := 3, ground := Ground.guard }], guard := some (3, true) }) rfl (fun K hK => ?_) AllReadyH.nil
          · skip
            refine wantCall0 ?_ 28 #[] ?_ ?_ ((enters_of Try.func28 (by kernel_rfl) rfl) _ _) ?_
            · rfl
            · rfl
            · rfl
            refine (threeB_any _).mono ?_
            rintro o x66 ⟨y66, z66, rfl, s66, t66, b66⟩
            refine ⟨_, rfl, ?_⟩
            have r67 := s65.old b66
            have U66 := U65.trans b66
            refine hK.out _ _ (BxA.old U66 HBx.out) (fun _ => ?_)
            clear hK K
            (try simp only [Act.put]); (try simp only [List.setIfInBounds_toArray]); (try simp only [List.set_cons_succ]); (try simp only [List.set_cons_zero])
            refine wpAnyH_ready (rs := [6]) (by kernel_rfl) (by simp) ?_
            refine AllReadyH.cons (o := { dst := some 28, op := Op.call { callee := Callee.value (Operand.func 13), args := #[Operand.tmp 26, Operand.tmp 27], argTypes := #[24, 22] }, type := 4, pos := "law.go:19", after := #[{ on := 4, ground := Ground.data }, { on := 5, ground := Ground.data }, { on := 4, ground := Ground.chain }, { on := 3, ground := Ground.guard }], guard := some (3, true) }) rfl (fun K hK => ?_) AllReadyH.nil
            · skip
              refine wantCall2 ?_ 13 (.tmp 26) (.tmp 27) #[24, 22] ?_ (.agg #[.slice (some ⟨y66, 0, none⟩) 3 3, .slice (some ⟨z66, 0, none⟩) 1 1]) (.slice (some ⟨m65, 0, none⟩) 1 1) ?_ ?_ ?_ ((enters_of Try.func13 (by kernel_rfl) rfl) _ _) ?_
              · rfl
              · rfl
              · rfl
              · rfl
              · rfl
              refine (quorumB _ _ _ _ s66 t66 r67).mono ?_
              rintro o x68 ⟨rfl, b68⟩
              refine ⟨_, rfl, ?_⟩
              have U68 := U66.trans b68
              refine hK.out _ _ (BxA.old U68 HBx.out) (fun _ => ?_)
              clear hK K
              (try simp only [Act.put]); (try simp only [List.setIfInBounds_toArray]); (try simp only [List.set_cons_succ]); (try simp only [List.set_cons_zero])
              refine wpAnyH_take (i := 7) (oi := { dst := some 29, op := Op.unOp UnOp.not 4 (Operand.tmp 28), type := 4, pos := "law.go:19", after := #[{ on := 6, ground := Ground.data }, { on := 3, ground := Ground.guard }], guard := some (3, true) }) (v := ?vk69) rfl (by kernel_rfl) (by kernel_rfl) (by kernel_rfl) (fun _ _ _ h => h) (Or.inl ⟨by rfl, ?hk69⟩) (BxA.old U68 HBx.out) ?rk69
              case hk69 => (intro wz hSw; (try dsimp only at hSw); go_simp; try with_reducible rfl)
              (try simp only [Act.put]); (try simp only [List.setIfInBounds_toArray]); (try simp only [List.set_cons_succ]); (try simp only [List.set_cons_zero])
              refine wpAnyH_take (i := 8) (oi := { dst := some 30, op := Op.pick (Operand.tmp 25) (Operand.tmp 29) (Operand.const (Value.bool false)), type := 4, pos := "law.go:19", after := #[{ on := 3, ground := Ground.data }, { on := 7, ground := Ground.data }], guard := none }) (v := ?vk70) rfl (by kernel_rfl) (by kernel_rfl) (by kernel_rfl) (fun _ _ _ h => h) (Or.inl ⟨by rfl, ?hk70⟩) (BxA.old U68 HBx.out) ?rk70
              case hk70 => (intro wz hSw; (try dsimp only at hSw); go_simp; try with_reducible rfl)
              (try simp only [Act.put]); (try simp only [List.setIfInBounds_toArray]); (try simp only [List.set_cons_succ]); (try simp only [List.set_cons_zero])
              refine wpAnyH_take (i := 9) (oi := { dst := some 31, op := Op.move (Operand.tmp 30), type := 4, pos := "law.go:19", after := #[{ on := 8, ground := Ground.data }, { on := 6, ground := Ground.chain }], guard := none }) (v := ?vk71) rfl (by kernel_rfl) (by kernel_rfl) (by kernel_rfl) (fun _ _ _ h => h) (Or.inl ⟨by rfl, ?hk71⟩) (BxA.old U68 HBx.out) ?rk71
              case hk71 => (intro wz hSw; (try dsimp only at hSw); go_simp; try with_reducible rfl)
              (try simp only [Act.put]); (try simp only [List.setIfInBounds_toArray]); (try simp only [List.set_cons_succ]); (try simp only [List.set_cons_zero])
              refine wpAnyH_take (i := 10) (oi := { dst := some 32, op := Op.move (Operand.tmp 2), type := 27, pos := "law.go:19", after := #[{ on := 9, ground := Ground.guard }], guard := some (9, true) }) (v := ?vk72) rfl (by kernel_rfl) (by kernel_rfl) (by kernel_rfl) (fun _ _ _ h => h) (Or.inl ⟨by rfl, ?hk72⟩) (BxA.old U68 HBx.out) ?rk72
              case hk72 => (intro wz hSw; (try dsimp only at hSw); go_simp; try with_reducible rfl)
              (try simp only [Act.put]); (try simp only [List.setIfInBounds_toArray]); (try simp only [List.set_cons_succ]); (try simp only [List.set_cons_zero])
              refine wpAnyH_take (i := 11) (oi := { dst := some 33, op := Op.binOp BinOp.eql 27 (Operand.tmp 32) (Operand.const (Value.int IntKind.i64 0)) 27, type := 4, pos := "law.go:19", after := #[{ on := 10, ground := Ground.data }, { on := 9, ground := Ground.guard }], guard := some (9, true) }) (v := ?vk73) rfl (by kernel_rfl) (by kernel_rfl) (by kernel_rfl) (fun _ _ _ h => h) (Or.inl ⟨by rfl, ?hk73⟩) (BxA.old U68 HBx.out) ?rk73
              case hk73 => (intro wz hSw; (try dsimp only at hSw); go_simp; try with_reducible rfl)
              (try simp only [Act.put]); (try simp only [List.setIfInBounds_toArray]); (try simp only [List.set_cons_succ]); (try simp only [List.set_cons_zero])
              refine wpAnyH_take (i := 12) (oi := { dst := some 34, op := Op.pick (Operand.tmp 31) (Operand.tmp 33) (Operand.const (Value.bool false)), type := 4, pos := "law.go:19", after := #[{ on := 9, ground := Ground.data }, { on := 11, ground := Ground.data }], guard := none }) (v := ?vk74) rfl (by kernel_rfl) (by kernel_rfl) (by kernel_rfl) (fun _ _ _ h => h) (Or.inl ⟨by rfl, ?hk74⟩) (BxA.old U68 HBx.out) ?rk74
              case hk74 => (intro wz hSw; (try dsimp only at hSw); go_simp; try with_reducible rfl)
              (try simp only [Act.put]); (try simp only [List.setIfInBounds_toArray]); (try simp only [List.set_cons_succ]); (try simp only [List.set_cons_zero])
              refine wpAnyH_take (i := 13) (oi := { dst := some 35, op := Op.move (Operand.tmp 34), type := 4, pos := "law.go:19", after := #[{ on := 12, ground := Ground.data }, { on := 9, ground := Ground.chain }], guard := none }) (v := ?vk75) rfl (by kernel_rfl) (by kernel_rfl) (by kernel_rfl) (fun _ _ _ h => h) (Or.inl ⟨by rfl, ?hk75⟩) (BxA.old U68 HBx.out) ?rk75
              case hk75 => (intro wz hSw; (try dsimp only at hSw); go_simp; try with_reducible rfl)
              (try simp only [Act.put]); (try simp only [List.setIfInBounds_toArray]); (try simp only [List.set_cons_succ]); (try simp only [List.set_cons_zero])
              refine wpAnyH_take (i := 14) (oi := { dst := some 36, op := Op.fieldAddr 24 (Operand.tmp 1) 0, type := 0, pos := "law.go:19", after := #[{ on := 13, ground := Ground.guard }], guard := some (13, true) }) (v := ?vk76) rfl (by kernel_rfl) (by kernel_rfl) (by kernel_rfl) (fun _ _ _ h => h) (Or.inl ⟨by rfl, ?hk76⟩) (BxA.old U68 HBx.out) ?rk76
              case hk76 => (intro wz hSw; (try dsimp only at hSw); go_simp; try with_reducible rfl)
              (try simp only [Act.put]); (try simp only [List.setIfInBounds_toArray]); (try simp only [List.set_cons_succ]); (try simp only [List.set_cons_zero])
              refine wpAnyH_take (i := 15) (oi := { dst := some 37, op := Op.load 22 (Operand.tmp 36), type := 22, pos := "law.go:19", after := #[{ on := 14, ground := Ground.data }, { on := 13, ground := Ground.guard }], guard := some (13, true) }) (v := ?vk77) rfl (by kernel_rfl) (by kernel_rfl) (by kernel_rfl) (fun _ _ _ h => h) (Or.inl ⟨by rfl, ?hk77⟩) (BxA.old U68 HBx.out) ?rk77
              case hk77 => (intro wz hSw; (try dsimp only at hSw); go_simp; try with_reducible rfl)
              (try simp only [Act.put]); (try simp only [List.setIfInBounds_toArray]); (try simp only [List.set_cons_succ]); (try simp only [List.set_cons_zero])
              refine wpAnyH_ready (rs := [16]) (by kernel_rfl) (by simp) ?_
              refine AllReadyH.cons (o := { dst := some 38, op := Op.buildSlice 22 4 #[(0, Operand.const (Value.int IntKind.i64 1)), (1, Operand.const (Value.int IntKind.i64 2)), (2, Operand.const (Value.int IntKind.i64 3)), (3, Operand.const (Value.int IntKind.i64 4))], type := 22, pos := "law.go:19", after := #[{ on := 13, ground := Ground.guard }], guard := some (13, true) }) rfl (fun K hK => ?_) AllReadyH.nil
              · skip
                refine bldC ?_ ?_ ?_
                · rfl
                · rfl
                intro m78 x78 b78 s78
                have U78 := U68.trans b78
                refine hK.out _ _ (BxA.old U78 HBx.out) (fun _ => ?_)
                clear hK K
                (try simp only [Act.put]); (try simp only [List.setIfInBounds_toArray]); (try simp only [List.set_cons_succ]); (try simp only [List.set_cons_zero])
                refine wpAnyH_ready (rs := [17]) (by kernel_rfl) (by simp) ?_
                refine AllReadyH.cons (o := { dst := some 39, op := Op.call { callee := Callee.value (Operand.func 17), args := #[Operand.tmp 37, Operand.tmp 38], argTypes := #[22, 22] }, type := 4, pos := "law.go:19", after := #[{ on := 15, ground := Ground.data }, { on := 16, ground := Ground.data }, { on := 13, ground := Ground.chain }, { on := 13, ground := Ground.guard }], guard := some (13, true) }) rfl (fun K hK => ?_) AllReadyH.nil
                · skip
                  refine wantCall2 ?_ 17 (.tmp 37) (.tmp 38) #[22, 22] ?_ (.slice p1 4 c1) (.slice (some ⟨m78, 0, none⟩) 4 4) ?_ ?_ ?_ ((enters_of Try.func17 (by kernel_rfl) rfl) _ _) ?_
                  · rfl
                  · rfl
                  · rfl
                  · rfl
                  · rfl
                  refine (sameInts_eq _ _ 4 iota1 _ (R10.out.old U78) (s78.congr (fun i hi => by match i, hi with | 0, _ => decide | 1, _ => decide | 2, _ => decide | 3, _ => decide))).mono ?_
                  rintro o x79 ⟨rfl, b79⟩
                  refine ⟨_, rfl, ?_⟩
                  have U79 := U78.trans b79
                  refine hK.out _ _ (BxA.old U79 HBx.out) (fun _ => ?_)
                  clear hK K
                  (try simp only [Act.put]); (try simp only [List.setIfInBounds_toArray]); (try simp only [List.set_cons_succ]); (try simp only [List.set_cons_zero])
                  refine wpAnyH_take (i := 18) (oi := { dst := some 40, op := Op.pick (Operand.tmp 35) (Operand.tmp 39) (Operand.const (Value.bool false)), type := 4, pos := "law.go:19", after := #[{ on := 13, ground := Ground.data }, { on := 17, ground := Ground.data }], guard := none }) (v := ?vk80) rfl (by kernel_rfl) (by kernel_rfl) (by kernel_rfl) (fun _ _ _ h => h) (Or.inl ⟨by rfl, ?hk80⟩) (BxA.old U79 HBx.out) ?rk80
                  case hk80 => (intro wz hSw; (try dsimp only at hSw); go_simp; try with_reducible rfl)
                  (try simp only [Act.put]); (try simp only [List.setIfInBounds_toArray]); (try simp only [List.set_cons_succ]); (try simp only [List.set_cons_zero])
                  refine wpAnyH_take (i := 19) (oi := { dst := some 41, op := Op.move (Operand.tmp 40), type := 4, pos := "law.go:19", after := #[{ on := 18, ground := Ground.data }, { on := 17, ground := Ground.chain }], guard := none }) (v := ?vk81) rfl (by kernel_rfl) (by kernel_rfl) (by kernel_rfl) (fun _ _ _ h => h) (Or.inl ⟨by rfl, ?hk81⟩) (BxA.old U79 HBx.out) ?rk81
                  case hk81 => (intro wz hSw; (try dsimp only at hSw); go_simp; try with_reducible rfl)
                  (try simp only [Act.put]); (try simp only [List.setIfInBounds_toArray]); (try simp only [List.set_cons_succ]); (try simp only [List.set_cons_zero])
                  refine wpAnyH_take (i := 20) (oi := { dst := some 42, op := Op.move (Operand.tmp 4), type := 27, pos := "law.go:19", after := #[{ on := 19, ground := Ground.guard }], guard := some (19, true) }) (v := ?vk82) rfl (by kernel_rfl) (by kernel_rfl) (by kernel_rfl) (fun _ _ _ h => h) (Or.inl ⟨by rfl, ?hk82⟩) (BxA.old U79 HBx.out) ?rk82
                  case hk82 => (intro wz hSw; (try dsimp only at hSw); go_simp; try with_reducible rfl)
                  (try simp only [Act.put]); (try simp only [List.setIfInBounds_toArray]); (try simp only [List.set_cons_succ]); (try simp only [List.set_cons_zero])
                  refine wpAnyH_take (i := 21) (oi := { dst := some 43, op := Op.binOp BinOp.eql 27 (Operand.tmp 42) (Operand.const (Value.int IntKind.i64 0)) 27, type := 4, pos := "law.go:19", after := #[{ on := 20, ground := Ground.data }, { on := 19, ground := Ground.guard }], guard := some (19, true) }) (v := ?vk83) rfl (by kernel_rfl) (by kernel_rfl) (by kernel_rfl) (fun _ _ _ h => h) (Or.inl ⟨by rfl, ?hk83⟩) (BxA.old U79 HBx.out) ?rk83
                  case hk83 => (intro wz hSw; (try dsimp only at hSw); go_simp; try with_reducible rfl)
                  (try simp only [Act.put]); (try simp only [List.setIfInBounds_toArray]); (try simp only [List.set_cons_succ]); (try simp only [List.set_cons_zero])
                  refine wpAnyH_take (i := 22) (oi := { dst := some 44, op := Op.pick (Operand.tmp 41) (Operand.tmp 43) (Operand.const (Value.bool false)), type := 4, pos := "law.go:19", after := #[{ on := 19, ground := Ground.data }, { on := 21, ground := Ground.data }], guard := none }) (v := ?vk84) rfl (by kernel_rfl) (by kernel_rfl) (by kernel_rfl) (fun _ _ _ h => h) (Or.inl ⟨by rfl, ?hk84⟩) (BxA.old U79 HBx.out) ?rk84
                  case hk84 => (intro wz hSw; (try dsimp only at hSw); go_simp; try with_reducible rfl)
                  (try simp only [Act.put]); (try simp only [List.setIfInBounds_toArray]); (try simp only [List.set_cons_succ]); (try simp only [List.set_cons_zero])
                  refine wpAnyH_take (i := 23) (oi := { dst := some 45, op := Op.move (Operand.tmp 44), type := 4, pos := "law.go:19", after := #[{ on := 22, ground := Ground.data }, { on := 19, ground := Ground.chain }], guard := none }) (v := ?vk85) rfl (by kernel_rfl) (by kernel_rfl) (by kernel_rfl) (fun _ _ _ h => h) (Or.inl ⟨by rfl, ?hk85⟩) (BxA.old U79 HBx.out) ?rk85
                  case hk85 => (intro wz hSw; (try dsimp only at hSw); go_simp; try with_reducible rfl)
                  (try simp only [Act.put]); (try simp only [List.setIfInBounds_toArray]); (try simp only [List.set_cons_succ]); (try simp only [List.set_cons_zero])
                  refine wpAnyH_take (i := 24) (oi := { dst := some 46, op := Op.move (Operand.tmp 6), type := 27, pos := "law.go:19", after := #[{ on := 23, ground := Ground.guard }], guard := some (23, true) }) (v := ?vk86) rfl (by kernel_rfl) (by kernel_rfl) (by kernel_rfl) (fun _ _ _ h => h) (Or.inl ⟨by rfl, ?hk86⟩) (BxA.old U79 HBx.out) ?rk86
                  case hk86 => (intro wz hSw; (try dsimp only at hSw); go_simp; try with_reducible rfl)
                  (try simp only [Act.put]); (try simp only [List.setIfInBounds_toArray]); (try simp only [List.set_cons_succ]); (try simp only [List.set_cons_zero])
                  refine wpAnyH_take (i := 25) (oi := { dst := some 47, op := Op.binOp BinOp.eql 27 (Operand.tmp 46) (Operand.const (Value.int IntKind.i64 0)) 27, type := 4, pos := "law.go:19", after := #[{ on := 24, ground := Ground.data }, { on := 23, ground := Ground.guard }], guard := some (23, true) }) (v := ?vk87) rfl (by kernel_rfl) (by kernel_rfl) (by kernel_rfl) (fun _ _ _ h => h) (Or.inl ⟨by rfl, ?hk87⟩) (BxA.old U79 HBx.out) ?rk87
                  case hk87 => (intro wz hSw; (try dsimp only at hSw); go_simp; try with_reducible rfl)
                  (try simp only [Act.put]); (try simp only [List.setIfInBounds_toArray]); (try simp only [List.set_cons_succ]); (try simp only [List.set_cons_zero])
                  refine wpAnyH_take (i := 26) (oi := { dst := some 48, op := Op.pick (Operand.tmp 45) (Operand.tmp 47) (Operand.const (Value.bool false)), type := 4, pos := "law.go:19", after := #[{ on := 23, ground := Ground.data }, { on := 25, ground := Ground.data }], guard := none }) (v := ?vk88) rfl (by kernel_rfl) (by kernel_rfl) (by kernel_rfl) (fun _ _ _ h => h) (Or.inl ⟨by rfl, ?hk88⟩) (BxA.old U79 HBx.out) ?rk88
                  case hk88 => (intro wz hSw; (try dsimp only at hSw); go_simp; try with_reducible rfl)
                  (try simp only [Act.put]); (try simp only [List.setIfInBounds_toArray]); (try simp only [List.set_cons_succ]); (try simp only [List.set_cons_zero])
                  refine wpAnyH_take (i := 27) (oi := { dst := some 49, op := Op.move (Operand.tmp 48), type := 4, pos := "law.go:19", after := #[{ on := 26, ground := Ground.data }, { on := 23, ground := Ground.chain }], guard := none }) (v := ?vk89) rfl (by kernel_rfl) (by kernel_rfl) (by kernel_rfl) (fun _ _ _ h => h) (Or.inl ⟨by rfl, ?hk89⟩) (BxA.old U79 HBx.out) ?rk89
                  case hk89 => (intro wz hSw; (try dsimp only at hSw); go_simp; try with_reducible rfl)
                  (try simp only [Act.put]); (try simp only [List.setIfInBounds_toArray]); (try simp only [List.set_cons_succ]); (try simp only [List.set_cons_zero])
                  refine wpAnyH_take (i := 28) (oi := { dst := some 50, op := Op.load 24 (Operand.tmp 5), type := 24, pos := "law.go:19", after := #[{ on := 27, ground := Ground.guard }], guard := some (27, true) }) (v := ?vk90) rfl (by kernel_rfl) (by kernel_rfl) (by kernel_rfl) (fun _ _ _ h => h) (Or.inl ⟨by rfl, ?hk90⟩) (BxA.old U79 HBx.out) ?rk90
                  case hk90 => (intro wz hSw; (try dsimp only at hSw); go_simp; try with_reducible rfl)
                  (try simp only [Act.put]); (try simp only [List.setIfInBounds_toArray]); (try simp only [List.set_cons_succ]); (try simp only [List.set_cons_zero])
                  refine wpAnyH_ready (rs := [29]) (by kernel_rfl) (by simp) ?_
                  refine AllReadyH.cons (o := { dst := some 51, op := Op.call { callee := Callee.value (Operand.func 28), args := #[], argTypes := #[] }, type := 24, pos := "law.go:19", after := #[{ on := 27, ground := Ground.chain }, { on := 27, ground := Ground.guard }], guard := some (27, true) }) rfl (fun K hK => ?_) AllReadyH.nil
                  · skip
                    refine wantCall0 ?_ 28 #[] ?_ ?_ ((enters_of Try.func28 (by kernel_rfl) rfl) _ _) ?_
                    · rfl
                    · rfl
                    · rfl
                    refine (threeB_any _).mono ?_
                    rintro o x91 ⟨y91, z91, rfl, s91, t91, b91⟩
                    refine ⟨_, rfl, ?_⟩
                    have U91 := U79.trans b91
                    refine hK.out _ _ (BxA.old U91 HBx.out) (fun _ => ?_)
                    clear hK K
                    (try simp only [Act.put]); (try simp only [List.setIfInBounds_toArray]); (try simp only [List.set_cons_succ]); (try simp only [List.set_cons_zero])
                    refine wpAnyH_ready (rs := [30]) (by kernel_rfl) (by simp) ?_
                    refine AllReadyH.cons (o := { dst := some 52, op := Op.call { callee := Callee.value (Operand.func 16), args := #[Operand.tmp 50, Operand.tmp 51], argTypes := #[24, 24] }, type := 4, pos := "law.go:19", after := #[{ on := 28, ground := Ground.data }, { on := 29, ground := Ground.data }, { on := 29, ground := Ground.chain }, { on := 27, ground := Ground.guard }], guard := some (27, true) }) rfl (fun K hK => ?_) AllReadyH.nil
                    · skip
                      refine wantCall2 ?_ 16 (.tmp 50) (.tmp 51) #[24, 24] ?_ (.agg #[.slice q1 3 e1, .slice q2 1 e2]) (.agg #[.slice (some ⟨y91, 0, none⟩) 3 3, .slice (some ⟨z91, 0, none⟩) 1 1]) ?_ ?_ ?_ ((enters_of Try.func16 (by kernel_rfl) rfl) _ _) ?_
                      · rfl
                      · rfl
                      · rfl
                      · rfl
                      · rfl
                      refine (same_eq _ _ _ _ 3 1 iota1 iota4 _ (R8.out.old U91) (R9.out.old U91) s91 t91).mono ?_
                      rintro o x92 ⟨rfl, b92⟩
                      refine ⟨_, rfl, ?_⟩
                      have U92 := U91.trans b92
                      refine hK.out _ _ (BxA.old U92 HBx.out) (fun _ => ?_)
                      clear hK K
                      (try simp only [Act.put]); (try simp only [List.setIfInBounds_toArray]); (try simp only [List.set_cons_succ]); (try simp only [List.set_cons_zero])
                      refine wpAnyH_take (i := 31) (oi := { dst := some 53, op := Op.pick (Operand.tmp 49) (Operand.tmp 52) (Operand.const (Value.bool false)), type := 4, pos := "law.go:19", after := #[{ on := 27, ground := Ground.data }, { on := 30, ground := Ground.data }], guard := none }) (v := ?vk93) rfl (by kernel_rfl) (by kernel_rfl) (by kernel_rfl) (fun _ _ _ h => h) (Or.inl ⟨by rfl, ?hk93⟩) (BxA.old U92 HBx.out) ?rk93
                      case hk93 => (intro wz hSw; (try dsimp only at hSw); go_simp; try with_reducible rfl)
                      (try simp only [Act.put]); (try simp only [List.setIfInBounds_toArray]); (try simp only [List.set_cons_succ]); (try simp only [List.set_cons_zero])
                      refine wpAnyH_take (i := 32) (oi := { dst := some 54, op := Op.move (Operand.tmp 53), type := 4, pos := "law.go:19", after := #[{ on := 31, ground := Ground.data }, { on := 30, ground := Ground.chain }], guard := none }) (v := ?vk94) rfl (by kernel_rfl) (by kernel_rfl) (by kernel_rfl) (fun _ _ _ h => h) (Or.inl ⟨by rfl, ?hk94⟩) (BxA.old U92 HBx.out) ?rk94
                      case hk94 => (intro wz hSw; (try dsimp only at hSw); go_simp; try with_reducible rfl)
                      (try simp only [Act.put]); (try simp only [List.setIfInBounds_toArray]); (try simp only [List.set_cons_succ]); (try simp only [List.set_cons_zero])
                      refine wpAnyH_take (i := 33) (oi := { dst := some 55, op := Op.load 24 (Operand.tmp 5), type := 24, pos := "law.go:19", after := #[{ on := 32, ground := Ground.guard }], guard := some (32, true) }) (v := ?vk95) rfl (by kernel_rfl) (by kernel_rfl) (by kernel_rfl) (fun _ _ _ h => h) (Or.inl ⟨by rfl, ?hk95⟩) (BxA.old U92 HBx.out) ?rk95
                      case hk95 => (intro wz hSw; (try dsimp only at hSw); go_simp; try with_reducible rfl)
                      (try simp only [Act.put]); (try simp only [List.setIfInBounds_toArray]); (try simp only [List.set_cons_succ]); (try simp only [List.set_cons_zero])
                      refine wpAnyH_ready (rs := [34]) (by kernel_rfl) (by simp) ?_
                      refine AllReadyH.cons (o := { dst := some 56, op := Op.call { callee := Callee.value (Operand.func 9), args := #[Operand.tmp 55], argTypes := #[24] }, type := 4, pos := "law.go:19", after := #[{ on := 33, ground := Ground.data }, { on := 32, ground := Ground.chain }, { on := 32, ground := Ground.guard }], guard := some (32, true) }) rfl (fun K hK => ?_) AllReadyH.nil
                      · skip
                        refine wantCall1 ?_ 9 (.tmp 55) #[24] ?_ (.agg #[.slice q1 3 e1, .slice q2 1 e2]) ?_ ?_ ((enters_of Try.func9 (by kernel_rfl) rfl) _ _) ?_
                        · rfl
                        · rfl
                        · rfl
                        · rfl
                        refine (rightA _ _ _ (R8.out.old U92) (R9.out.old U92)).mono ?_
                        rintro o x96 ⟨rfl, b96⟩
                        refine ⟨_, rfl, ?_⟩
                        have U96 := U92.trans b96
                        refine hK.out _ _ (BxA.old U96 HBx.out) (fun _ => ?_)
                        clear hK K
                        (try simp only [Act.put]); (try simp only [List.setIfInBounds_toArray]); (try simp only [List.set_cons_succ]); (try simp only [List.set_cons_zero])
                        refine wpAnyH_take (i := 35) (oi := { dst := some 57, op := Op.pick (Operand.tmp 54) (Operand.tmp 56) (Operand.const (Value.bool false)), type := 4, pos := "law.go:19", after := #[{ on := 32, ground := Ground.data }, { on := 34, ground := Ground.data }], guard := none }) (v := ?vk97) rfl (by kernel_rfl) (by kernel_rfl) (by kernel_rfl) (fun _ _ _ h => h) (Or.inl ⟨by rfl, ?hk97⟩) (BxA.old U96 HBx.out) ?rk97
                        case hk97 => (intro wz hSw; (try dsimp only at hSw); go_simp; try with_reducible rfl)
                        (try simp only [Act.put]); (try simp only [List.setIfInBounds_toArray]); (try simp only [List.set_cons_succ]); (try simp only [List.set_cons_zero])
                        refine wpAnyH_take (i := 36) (oi := { dst := some 58, op := Op.move (Operand.tmp 57), type := 4, pos := "law.go:19", after := #[{ on := 35, ground := Ground.data }, { on := 34, ground := Ground.chain }], guard := none }) (v := ?vk98) rfl (by kernel_rfl) (by kernel_rfl) (by kernel_rfl) (fun _ _ _ h => h) (Or.inl ⟨by rfl, ?hk98⟩) (BxA.old U96 HBx.out) ?rk98
                        case hk98 => (intro wz hSw; (try dsimp only at hSw); go_simp; try with_reducible rfl)
                        (try simp only [Act.put]); (try simp only [List.setIfInBounds_toArray]); (try simp only [List.set_cons_succ]); (try simp only [List.set_cons_zero])
                        refine wpAnyH_take (i := 37) (oi := { dst := some 59, op := Op.load 24 (Operand.tmp 5), type := 24, pos := "law.go:19", after := #[{ on := 36, ground := Ground.guard }], guard := some (36, true) }) (v := ?vk99) rfl (by kernel_rfl) (by kernel_rfl) (by kernel_rfl) (fun _ _ _ h => h) (Or.inl ⟨by rfl, ?hk99⟩) (BxA.old U96 HBx.out) ?rk99
                        case hk99 => (intro wz hSw; (try dsimp only at hSw); go_simp; try with_reducible rfl)
                        (try simp only [Act.put]); (try simp only [List.setIfInBounds_toArray]); (try simp only [List.set_cons_succ]); (try simp only [List.set_cons_zero])
                        refine wpAnyH_ready (rs := [38]) (by kernel_rfl) (by simp) ?_
                        refine AllReadyH.cons (o := { dst := some 60, op := Op.call { callee := Callee.value (Operand.func 12), args := #[Operand.tmp 59, Operand.const (Value.int IntKind.i64 1)], argTypes := #[24, 3] }, type := 4, pos := "law.go:19", after := #[{ on := 37, ground := Ground.data }, { on := 36, ground := Ground.chain }, { on := 36, ground := Ground.guard }], guard := some (36, true) }) rfl (fun K hK => ?_) AllReadyH.nil
                        · skip
                          refine wantCall2 ?_ 12 (.tmp 59) (.const (.int .i64 1)) #[24, 3] ?_ (.agg #[.slice q1 3 e1, .slice q2 1 e2]) (.int .i64 1) ?_ ?_ ?_ ((enters_of Try.func12 (by kernel_rfl) rfl) _ _) ?_
                          · rfl
                          · rfl
                          · rfl
                          · rfl
                          · rfl
                          refine (voterA _ _ _ (R8.out.old U96) (R9.out.old U96)).mono ?_
                          rintro o x100 ⟨rfl, b100⟩
                          refine ⟨_, rfl, ?_⟩
                          have U100 := U96.trans b100
                          refine hK.out _ _ (BxA.old U100 HBx.out) (fun _ => ?_)
                          clear hK K
                          (try simp only [Act.put]); (try simp only [List.setIfInBounds_toArray]); (try simp only [List.set_cons_succ]); (try simp only [List.set_cons_zero])
                          refine wpAnyH_take (i := 39) (oi := { dst := some 61, op := Op.pick (Operand.tmp 58) (Operand.tmp 60) (Operand.const (Value.bool false)), type := 4, pos := "law.go:19", after := #[{ on := 36, ground := Ground.data }, { on := 38, ground := Ground.data }], guard := none }) (v := ?vk101) rfl (by kernel_rfl) (by kernel_rfl) (by kernel_rfl) (fun _ _ _ h => h) (Or.inl ⟨by rfl, ?hk101⟩) (BxA.old U100 HBx.out) ?rk101
                          case hk101 => (intro wz hSw; (try dsimp only at hSw); go_simp; try with_reducible rfl)
                          (try simp only [Act.put]); (try simp only [List.setIfInBounds_toArray]); (try simp only [List.set_cons_succ]); (try simp only [List.set_cons_zero])
                          refine wpAnyH_take (i := 40) (oi := { dst := some 62, op := Op.move (Operand.tmp 61), type := 4, pos := "law.go:19", after := #[{ on := 39, ground := Ground.data }, { on := 38, ground := Ground.chain }], guard := none }) (v := ?vk102) rfl (by kernel_rfl) (by kernel_rfl) (by kernel_rfl) (fun _ _ _ h => h) (Or.inl ⟨by rfl, ?hk102⟩) (BxA.old U100 HBx.out) ?rk102
                          case hk102 => (intro wz hSw; (try dsimp only at hSw); go_simp; try with_reducible rfl)
                          (try simp only [Act.put]); (try simp only [List.setIfInBounds_toArray]); (try simp only [List.set_cons_succ]); (try simp only [List.set_cons_zero])
                          refine wpAnyH_take (i := 41) (oi := { dst := some 63, op := Op.load 24 (Operand.tmp 5), type := 24, pos := "law.go:19", after := #[{ on := 40, ground := Ground.guard }], guard := some (40, true) }) (v := ?vk103) rfl (by kernel_rfl) (by kernel_rfl) (by kernel_rfl) (fun _ _ _ h => h) (Or.inl ⟨by rfl, ?hk103⟩) (BxA.old U100 HBx.out) ?rk103
                          case hk103 => (intro wz hSw; (try dsimp only at hSw); go_simp; try with_reducible rfl)
                          (try simp only [Act.put]); (try simp only [List.setIfInBounds_toArray]); (try simp only [List.set_cons_succ]); (try simp only [List.set_cons_zero])
                          refine wpAnyH_ready (rs := [42]) (by kernel_rfl) (by simp) ?_
                          refine AllReadyH.cons (o := { dst := some 64, op := Op.call { callee := Callee.value (Operand.func 11), args := #[Operand.tmp 63, Operand.const (Value.int IntKind.i64 4)], argTypes := #[24, 3] }, type := 4, pos := "law.go:19", after := #[{ on := 41, ground := Ground.data }, { on := 40, ground := Ground.chain }, { on := 40, ground := Ground.guard }], guard := some (40, true) }) rfl (fun K hK => ?_) AllReadyH.nil
                          · skip
                            refine wantCall2 ?_ 11 (.tmp 63) (.const (.int .i64 4)) #[24, 3] ?_ (.agg #[.slice q1 3 e1, .slice q2 1 e2]) (.int .i64 4) ?_ ?_ ?_ ((enters_of Try.func11 (by kernel_rfl) rfl) _ _) ?_
                            · rfl
                            · rfl
                            · rfl
                            · rfl
                            · rfl
                            refine (memberA _ _ _ (R8.out.old U100) (R9.out.old U100)).mono ?_
                            rintro o x104 ⟨rfl, b104⟩
                            refine ⟨_, rfl, ?_⟩
                            have U104 := U100.trans b104
                            refine hK.out _ _ (BxA.old U104 HBx.out) (fun _ => ?_)
                            clear hK K
                            (try simp only [Act.put]); (try simp only [List.setIfInBounds_toArray]); (try simp only [List.set_cons_succ]); (try simp only [List.set_cons_zero])
                            refine wpAnyH_take (i := 43) (oi := { dst := some 65, op := Op.pick (Operand.tmp 62) (Operand.tmp 64) (Operand.const (Value.bool false)), type := 4, pos := "law.go:19", after := #[{ on := 40, ground := Ground.data }, { on := 42, ground := Ground.data }], guard := none }) (v := ?vk105) rfl (by kernel_rfl) (by kernel_rfl) (by kernel_rfl) (fun _ _ _ h => h) (Or.inl ⟨by rfl, ?hk105⟩) (BxA.old U104 HBx.out) ?rk105
                            case hk105 => (intro wz hSw; (try dsimp only at hSw); go_simp; try with_reducible rfl)
                            (try simp only [Act.put]); (try simp only [List.setIfInBounds_toArray]); (try simp only [List.set_cons_succ]); (try simp only [List.set_cons_zero])
                            refine wpAnyH_take (i := 44) (oi := { dst := some 66, op := Op.move (Operand.tmp 65), type := 4, pos := "law.go:19", after := #[{ on := 43, ground := Ground.data }, { on := 42, ground := Ground.chain }], guard := none }) (v := ?vk106) rfl (by kernel_rfl) (by kernel_rfl) (by kernel_rfl) (fun _ _ _ h => h) (Or.inl ⟨by rfl, ?hk106⟩) (BxA.old U104 HBx.out) ?rk106
                            case hk106 => (intro wz hSw; (try dsimp only at hSw); go_simp; try with_reducible rfl)
                            (try simp only [Act.put]); (try simp only [List.setIfInBounds_toArray]); (try simp only [List.set_cons_succ]); (try simp only [List.set_cons_zero])
                            refine wpAnyH_take (i := 45) (oi := { dst := some 67, op := Op.load 24 (Operand.tmp 5), type := 24, pos := "law.go:19", after := #[{ on := 44, ground := Ground.guard }], guard := some (44, true) }) (v := ?vk107) rfl (by kernel_rfl) (by kernel_rfl) (by kernel_rfl) (fun _ _ _ h => h) (Or.inl ⟨by rfl, ?hk107⟩) (BxA.old U104 HBx.out) ?rk107
                            case hk107 => (intro wz hSw; (try dsimp only at hSw); go_simp; try with_reducible rfl)
                            (try simp only [Act.put]); (try simp only [List.setIfInBounds_toArray]); (try simp only [List.set_cons_succ]); (try simp only [List.set_cons_zero])
                            refine wpAnyH_ready (rs := [46, 47]) (by kernel_rfl) (by simp) ?_
                            refine AllReadyH.cons (o := { dst := some 68, op := Op.call { callee := Callee.value (Operand.func 25), args := #[Operand.tmp 67, Operand.const (Value.int IntKind.i64 2)], argTypes := #[24, 3] }, type := 22, pos := "law.go:19", after := #[{ on := 45, ground := Ground.data }, { on := 44, ground := Ground.chain }, { on := 44, ground := Ground.guard }], guard := some (44, true) }) rfl (fun K hK => ?_) (AllReadyH.cons (o := { dst := some 69, op := Op.buildSlice 22 3 #[(0, Operand.const (Value.int IntKind.i64 1)), (1, Operand.const (Value.int IntKind.i64 3)), (2, Operand.const (Value.int IntKind.i64 4))], type := 22, pos := "law.go:19", after := #[{ on := 44, ground := Ground.guard }], guard := some (44, true) }) rfl (fun K hK => ?_) AllReadyH.nil)
                            · skip
                              refine wantCall2 ?_ 25 (.tmp 67) (.const (.int .i64 2)) #[24, 3] ?_ (.agg #[.slice q1 3 e1, .slice q2 1 e2]) (.int .i64 2) ?_ ?_ ?_ ((enters_of Try.func25 (by kernel_rfl) rfl) _ _) ?_
                              · rfl
                              · rfl
                              · rfl
                              · rfl
                              · rfl
                              refine (othersA _ _ _ (R8.out.old U104) S6.out (R9.out.old U104) S7.out).mono ?_
                              rintro o x108 ⟨p108, c108, rfl, s108, b108⟩
                              refine ⟨_, rfl, ?_⟩
                              have U108 := U104.trans b108
                              refine hK.out _ _ (BxA.old U108 HBx.out) (fun _ => ?_)
                              clear hK K
                              (try simp only [Act.put]); (try simp only [List.setIfInBounds_toArray]); (try simp only [List.set_cons_succ]); (try simp only [List.set_cons_zero])
                              refine wpAnyH_ready (rs := [47]) (by kernel_rfl) (by simp) ?_
                              refine AllReadyH.cons (o := { dst := some 69, op := Op.buildSlice 22 3 #[(0, Operand.const (Value.int IntKind.i64 1)), (1, Operand.const (Value.int IntKind.i64 3)), (2, Operand.const (Value.int IntKind.i64 4))], type := 22, pos := "law.go:19", after := #[{ on := 44, ground := Ground.guard }], guard := some (44, true) }) rfl (fun K hK => ?_) AllReadyH.nil
                              · skip
                                refine bldD ?_ ?_ ?_
                                · rfl
                                · rfl
                                intro m109 x109 b109 s109
                                have r110 := s108.old b109
                                have U109 := U108.trans b109
                                refine hK.out _ _ (BxA.old U109 HBx.out) (fun _ => ?_)
                                clear hK K
                                (try simp only [Act.put]); (try simp only [List.setIfInBounds_toArray]); (try simp only [List.set_cons_succ]); (try simp only [List.set_cons_zero])
                                refine wpAnyH_ready (rs := [48]) (by kernel_rfl) (by simp) ?_
                                refine AllReadyH.cons (o := { dst := some 70, op := Op.call { callee := Callee.value (Operand.func 17), args := #[Operand.tmp 68, Operand.tmp 69], argTypes := #[22, 22] }, type := 4, pos := "law.go:19", after := #[{ on := 46, ground := Ground.data }, { on := 47, ground := Ground.data }, { on := 46, ground := Ground.chain }, { on := 44, ground := Ground.guard }], guard := some (44, true) }) rfl (fun K hK => ?_) AllReadyH.nil
                                · skip
                                  refine wantCall2 ?_ 17 (.tmp 68) (.tmp 69) #[22, 22] ?_ (.slice p108 3 c108) (.slice (some ⟨m109, 0, none⟩) 3 3) ?_ ?_ ?_ ((enters_of Try.func17 (by kernel_rfl) rfl) _ _) ?_
                                  · rfl
                                  · rfl
                                  · rfl
                                  · rfl
                                  · rfl
                                  refine (sameInts_eq _ _ 3 (gI [1, 3, 4]) _ r110 s109).mono ?_
                                  rintro o x111 ⟨rfl, b111⟩
                                  refine ⟨_, rfl, ?_⟩
                                  have r112 := r110.old b111
                                  have r113 := s109.old b111
                                  have U111 := U109.trans b111
                                  refine hK.out _ _ (BxA.old U111 HBx.out) (fun _ => ?_)
                                  clear hK K
                                  (try simp only [Act.put]); (try simp only [List.setIfInBounds_toArray]); (try simp only [List.set_cons_succ]); (try simp only [List.set_cons_zero])
                                  refine wpAnyH_take (i := 49) (oi := { dst := some 71, op := Op.pick (Operand.tmp 66) (Operand.tmp 70) (Operand.const (Value.bool false)), type := 4, pos := "law.go:19", after := #[{ on := 44, ground := Ground.data }, { on := 48, ground := Ground.data }], guard := none }) (v := ?vk114) rfl (by kernel_rfl) (by kernel_rfl) (by kernel_rfl) (fun _ _ _ h => h) (Or.inl ⟨by rfl, ?hk114⟩) (BxA.old U111 HBx.out) ?rk114
                                  case hk114 => (intro wz hSw; (try dsimp only at hSw); go_simp; try with_reducible rfl)
                                  (try simp only [Act.put]); (try simp only [List.setIfInBounds_toArray]); (try simp only [List.set_cons_succ]); (try simp only [List.set_cons_zero])
                                  refine wpAnyH_ready (rs := [50]) (by kernel_rfl) (by simp) ?_
                                  refine AllReadyH.cons (o := { dst := some 0, op := Op.assign (Operand.tmp 71), type := 4, pos := "law.go:19", after := #[{ on := 49, ground := Ground.data }, { on := 48, ground := Ground.chain }, { on := 0, ground := Ground.phase }, { on := 1, ground := Ground.phase }, { on := 2, ground := Ground.phase }, { on := 3, ground := Ground.phase }, { on := 4, ground := Ground.phase }, { on := 5, ground := Ground.phase }, { on := 6, ground := Ground.phase }, { on := 7, ground := Ground.phase }, { on := 8, ground := Ground.phase }, { on := 9, ground := Ground.phase }, { on := 10, ground := Ground.phase }, { on := 11, ground := Ground.phase }, { on := 12, ground := Ground.phase }, { on := 13, ground := Ground.phase }, { on := 14, ground := Ground.phase }, { on := 15, ground := Ground.phase }, { on := 16, ground := Ground.phase }, { on := 17, ground := Ground.phase }, { on := 18, ground := Ground.phase }, { on := 19, ground := Ground.phase }, { on := 20, ground := Ground.phase }, { on := 21, ground := Ground.phase }, { on := 22, ground := Ground.phase }, { on := 23, ground := Ground.phase }, { on := 24, ground := Ground.phase }, { on := 25, ground := Ground.phase }, { on := 26, ground := Ground.phase }, { on := 27, ground := Ground.phase }, { on := 28, ground := Ground.phase }, { on := 29, ground := Ground.phase }, { on := 30, ground := Ground.phase }, { on := 31, ground := Ground.phase }, { on := 32, ground := Ground.phase }, { on := 33, ground := Ground.phase }, { on := 34, ground := Ground.phase }, { on := 35, ground := Ground.phase }, { on := 36, ground := Ground.phase }, { on := 37, ground := Ground.phase }, { on := 38, ground := Ground.phase }, { on := 39, ground := Ground.phase }, { on := 40, ground := Ground.phase }, { on := 41, ground := Ground.phase }, { on := 42, ground := Ground.phase }, { on := 43, ground := Ground.phase }, { on := 44, ground := Ground.phase }, { on := 45, ground := Ground.phase }, { on := 46, ground := Ground.phase }, { on := 47, ground := Ground.phase }, { on := 48, ground := Ground.phase }, { on := 49, ground := Ground.phase }], guard := none }) rfl (fun K hK => ?_) AllReadyH.nil
                                  · skip
                                    go_simp
                                    refine hK.out _ _ (BxA.old U111 HBx.out) (fun _ => ?_)
                                    clear hK K
                                    (try simp only [Act.put]); (try simp only [List.setIfInBounds_toArray]); (try simp only [List.set_cons_succ]); (try simp only [List.set_cons_zero])
                                    refine wpAnyH_done (by kernel_rfl) ?_ _
                                    refine NoPanic.normal ?_
                                    have UZ := hid U111
                                    go_wp2
                                    go_ret
                                    exact ⟨rfl, OW.out.trans UZ.out⟩
                            · skip
                              refine bldD ?_ ?_ ?_
                              · rfl
                              · rfl
                              intro m115 x115 b115 s115
                              have U115 := U104.trans b115
                              refine hK.out _ _ (BxA.old U115 HBx.out) (fun _ => ?_)
                              clear hK K
                              (try simp only [Act.put]); (try simp only [List.setIfInBounds_toArray]); (try simp only [List.set_cons_succ]); (try simp only [List.set_cons_zero])
                              refine wpAnyH_ready (rs := [46]) (by kernel_rfl) (by simp) ?_
                              refine AllReadyH.cons (o := { dst := some 68, op := Op.call { callee := Callee.value (Operand.func 25), args := #[Operand.tmp 67, Operand.const (Value.int IntKind.i64 2)], argTypes := #[24, 3] }, type := 22, pos := "law.go:19", after := #[{ on := 45, ground := Ground.data }, { on := 44, ground := Ground.chain }, { on := 44, ground := Ground.guard }], guard := some (44, true) }) rfl (fun K hK => ?_) AllReadyH.nil
                              · skip
                                refine wantCall2 ?_ 25 (.tmp 67) (.const (.int .i64 2)) #[24, 3] ?_ (.agg #[.slice q1 3 e1, .slice q2 1 e2]) (.int .i64 2) ?_ ?_ ?_ ((enters_of Try.func25 (by kernel_rfl) rfl) _ _) ?_
                                · rfl
                                · rfl
                                · rfl
                                · rfl
                                · rfl
                                refine (othersA _ _ _ (R8.out.old U115) S6.out (R9.out.old U115) S7.out).mono ?_
                                rintro o x116 ⟨p116, c116, rfl, s116, b116⟩
                                refine ⟨_, rfl, ?_⟩
                                have r117 := s115.old b116
                                have U116 := U115.trans b116
                                refine hK.out _ _ (BxA.old U116 HBx.out) (fun _ => ?_)
                                clear hK K
                                (try simp only [Act.put]); (try simp only [List.setIfInBounds_toArray]); (try simp only [List.set_cons_succ]); (try simp only [List.set_cons_zero])
                                refine wpAnyH_ready (rs := [48]) (by kernel_rfl) (by simp) ?_
                                refine AllReadyH.cons (o := { dst := some 70, op := Op.call { callee := Callee.value (Operand.func 17), args := #[Operand.tmp 68, Operand.tmp 69], argTypes := #[22, 22] }, type := 4, pos := "law.go:19", after := #[{ on := 46, ground := Ground.data }, { on := 47, ground := Ground.data }, { on := 46, ground := Ground.chain }, { on := 44, ground := Ground.guard }], guard := some (44, true) }) rfl (fun K hK => ?_) AllReadyH.nil
                                · skip
                                  refine wantCall2 ?_ 17 (.tmp 68) (.tmp 69) #[22, 22] ?_ (.slice p116 3 c116) (.slice (some ⟨m115, 0, none⟩) 3 3) ?_ ?_ ?_ ((enters_of Try.func17 (by kernel_rfl) rfl) _ _) ?_
                                  · rfl
                                  · rfl
                                  · rfl
                                  · rfl
                                  · rfl
                                  refine (sameInts_eq _ _ 3 (gI [1, 3, 4]) _ s116 r117).mono ?_
                                  rintro o x118 ⟨rfl, b118⟩
                                  refine ⟨_, rfl, ?_⟩
                                  have r119 := r117.old b118
                                  have r120 := s116.old b118
                                  have U118 := U116.trans b118
                                  refine hK.out _ _ (BxA.old U118 HBx.out) (fun _ => ?_)
                                  clear hK K
                                  (try simp only [Act.put]); (try simp only [List.setIfInBounds_toArray]); (try simp only [List.set_cons_succ]); (try simp only [List.set_cons_zero])
                                  refine wpAnyH_take (i := 49) (oi := { dst := some 71, op := Op.pick (Operand.tmp 66) (Operand.tmp 70) (Operand.const (Value.bool false)), type := 4, pos := "law.go:19", after := #[{ on := 44, ground := Ground.data }, { on := 48, ground := Ground.data }], guard := none }) (v := ?vk121) rfl (by kernel_rfl) (by kernel_rfl) (by kernel_rfl) (fun _ _ _ h => h) (Or.inl ⟨by rfl, ?hk121⟩) (BxA.old U118 HBx.out) ?rk121
                                  case hk121 => (intro wz hSw; (try dsimp only at hSw); go_simp; try with_reducible rfl)
                                  (try simp only [Act.put]); (try simp only [List.setIfInBounds_toArray]); (try simp only [List.set_cons_succ]); (try simp only [List.set_cons_zero])
                                  refine wpAnyH_ready (rs := [50]) (by kernel_rfl) (by simp) ?_
                                  refine AllReadyH.cons (o := { dst := some 0, op := Op.assign (Operand.tmp 71), type := 4, pos := "law.go:19", after := #[{ on := 49, ground := Ground.data }, { on := 48, ground := Ground.chain }, { on := 0, ground := Ground.phase }, { on := 1, ground := Ground.phase }, { on := 2, ground := Ground.phase }, { on := 3, ground := Ground.phase }, { on := 4, ground := Ground.phase }, { on := 5, ground := Ground.phase }, { on := 6, ground := Ground.phase }, { on := 7, ground := Ground.phase }, { on := 8, ground := Ground.phase }, { on := 9, ground := Ground.phase }, { on := 10, ground := Ground.phase }, { on := 11, ground := Ground.phase }, { on := 12, ground := Ground.phase }, { on := 13, ground := Ground.phase }, { on := 14, ground := Ground.phase }, { on := 15, ground := Ground.phase }, { on := 16, ground := Ground.phase }, { on := 17, ground := Ground.phase }, { on := 18, ground := Ground.phase }, { on := 19, ground := Ground.phase }, { on := 20, ground := Ground.phase }, { on := 21, ground := Ground.phase }, { on := 22, ground := Ground.phase }, { on := 23, ground := Ground.phase }, { on := 24, ground := Ground.phase }, { on := 25, ground := Ground.phase }, { on := 26, ground := Ground.phase }, { on := 27, ground := Ground.phase }, { on := 28, ground := Ground.phase }, { on := 29, ground := Ground.phase }, { on := 30, ground := Ground.phase }, { on := 31, ground := Ground.phase }, { on := 32, ground := Ground.phase }, { on := 33, ground := Ground.phase }, { on := 34, ground := Ground.phase }, { on := 35, ground := Ground.phase }, { on := 36, ground := Ground.phase }, { on := 37, ground := Ground.phase }, { on := 38, ground := Ground.phase }, { on := 39, ground := Ground.phase }, { on := 40, ground := Ground.phase }, { on := 41, ground := Ground.phase }, { on := 42, ground := Ground.phase }, { on := 43, ground := Ground.phase }, { on := 44, ground := Ground.phase }, { on := 45, ground := Ground.phase }, { on := 46, ground := Ground.phase }, { on := 47, ground := Ground.phase }, { on := 48, ground := Ground.phase }, { on := 49, ground := Ground.phase }], guard := none }) rfl (fun K hK => ?_) AllReadyH.nil
                                  · skip
                                    go_simp
                                    refine hK.out _ _ (BxA.old U118 HBx.out) (fun _ => ?_)
                                    clear hK K
                                    (try simp only [Act.put]); (try simp only [List.setIfInBounds_toArray]); (try simp only [List.set_cons_succ]); (try simp only [List.set_cons_zero])
                                    refine wpAnyH_done (by kernel_rfl) ?_ _
                                    refine NoPanic.normal ?_
                                    have UZ := hid U118
                                    go_wp2
                                    go_ret
                                    exact ⟨rfl, OW.out.trans UZ.out⟩
  · skip
    refine bldA ?_ ?_ ?_
    · rfl
    · rfl
    intro m122 x122 b122 s122
    have U122 := ((Old.refl w9).drew).trans b122
    refine hK.out _ _ (BxA.old U122 HBx.out) (fun _ => ?_)
    clear hK K
    (try simp only [Act.put]); (try simp only [List.setIfInBounds_toArray]); (try simp only [List.set_cons_succ]); (try simp only [List.set_cons_zero])
    refine wpAnyH_ready (rs := [0]) (by kernel_rfl) (by simp) ?_
    refine AllReadyH.cons (o := { dst := some 22, op := Op.call { callee := Callee.value (Operand.func 28), args := #[], argTypes := #[] }, type := 24, pos := "law.go:19", after := #[], guard := none }) rfl (fun K hK => ?_) AllReadyH.nil
    · skip
      refine wantCall0 ?_ 28 #[] ?_ ?_ ((enters_of Try.func28 (by kernel_rfl) rfl) _ _) ?_
      · rfl
      · rfl
      · rfl
      refine (threeB_any _).mono ?_
      rintro o x123 ⟨y123, z123, rfl, s123, t123, b123⟩
      refine ⟨_, rfl, ?_⟩
      have r124 := s122.old b123
      have U123 := U122.trans b123
      refine hK.out _ _ (BxA.old U123 HBx.out) (fun _ => ?_)
      clear hK K
      (try simp only [Act.put]); (try simp only [List.setIfInBounds_toArray]); (try simp only [List.set_cons_succ]); (try simp only [List.set_cons_zero])
      refine wpAnyH_ready (rs := [2]) (by kernel_rfl) (by simp) ?_
      refine AllReadyH.cons (o := { dst := some 24, op := Op.call { callee := Callee.value (Operand.func 13), args := #[Operand.tmp 22, Operand.tmp 23], argTypes := #[24, 22] }, type := 4, pos := "law.go:19", after := #[{ on := 0, ground := Ground.data }, { on := 1, ground := Ground.data }, { on := 0, ground := Ground.chain }], guard := none }) rfl (fun K hK => ?_) AllReadyH.nil
      · skip
        refine wantCall2 ?_ 13 (.tmp 22) (.tmp 23) #[24, 22] ?_ (.agg #[.slice (some ⟨y123, 0, none⟩) 3 3, .slice (some ⟨z123, 0, none⟩) 1 1]) (.slice (some ⟨m122, 0, none⟩) 2 2) ?_ ?_ ?_ ((enters_of Try.func13 (by kernel_rfl) rfl) _ _) ?_
        · rfl
        · rfl
        · rfl
        · rfl
        · rfl
        refine (quorumA _ _ _ _ s123 t123 r124).mono ?_
        rintro o x125 ⟨rfl, b125⟩
        refine ⟨_, rfl, ?_⟩
        have U125 := U123.trans b125
        refine hK.out _ _ (BxA.old U125 HBx.out) (fun _ => ?_)
        clear hK K
        (try simp only [Act.put]); (try simp only [List.setIfInBounds_toArray]); (try simp only [List.set_cons_succ]); (try simp only [List.set_cons_zero])
        refine wpAnyH_take (i := 3) (oi := { dst := some 25, op := Op.move (Operand.tmp 24), type := 4, pos := "law.go:19", after := #[{ on := 2, ground := Ground.data }, { on := 2, ground := Ground.chain }], guard := none }) (v := ?vk126) rfl (by kernel_rfl) (by kernel_rfl) (by kernel_rfl) (fun _ _ _ h => h) (Or.inl ⟨by rfl, ?hk126⟩) (BxA.old U125 HBx.out) ?rk126
        case hk126 => (intro wz hSw; (try dsimp only at hSw); go_simp; try with_reducible rfl)
        (try simp only [Act.put]); (try simp only [List.setIfInBounds_toArray]); (try simp only [List.set_cons_succ]); (try simp only [List.set_cons_zero])
        refine wpAnyH_ready (rs := [4, 5]) (by kernel_rfl) (by simp) ?_
        refine AllReadyH.cons (o := { dst := some 26, op := Op.call { callee := Callee.value (Operand.func 28), args := #[], argTypes := #[] }, type := 24, pos := "law.go:19", after := #[{ on := 3, ground := Ground.chain }, { on := 3, ground := Ground.guard }], guard := some (3, true) }) rfl (fun K hK => ?_) (AllReadyH.cons (o := { dst := some 27, op := Op.buildSlice 22 1 #[(0, Operand.const (Value.int IntKind.i64 2))], type := 22, pos := "law.go:19", after := #[{ on := 3, ground := Ground.guard }], guard := some (3, true) }) rfl (fun K hK => ?_) AllReadyH.nil)
        · skip
          refine wantCall0 ?_ 28 #[] ?_ ?_ ((enters_of Try.func28 (by kernel_rfl) rfl) _ _) ?_
          · rfl
          · rfl
          · rfl
          refine (threeB_any _).mono ?_
          rintro o x127 ⟨y127, z127, rfl, s127, t127, b127⟩
          refine ⟨_, rfl, ?_⟩
          have U127 := U125.trans b127
          refine hK.out _ _ (BxA.old U127 HBx.out) (fun _ => ?_)
          clear hK K
          (try simp only [Act.put]); (try simp only [List.setIfInBounds_toArray]); (try simp only [List.set_cons_succ]); (try simp only [List.set_cons_zero])
          refine wpAnyH_ready (rs := [5]) (by kernel_rfl) (by simp) ?_
          refine AllReadyH.cons (o := { dst := some 27, op := Op.buildSlice 22 1 #[(0, Operand.const (Value.int IntKind.i64 2))], type := 22, pos := "law.go:19", after := #[{ on := 3, ground := Ground.guard }], guard := some (3, true) }) rfl (fun K hK => ?_) AllReadyH.nil
          · skip
            refine bldB ?_ ?_ ?_
            · rfl
            · rfl
            intro m128 x128 b128 s128
            have r129 := s127.old b128
            have r130 := t127.old b128
            have U128 := U127.trans b128
            refine hK.out _ _ (BxA.old U128 HBx.out) (fun _ => ?_)
            clear hK K
            (try simp only [Act.put]); (try simp only [List.setIfInBounds_toArray]); (try simp only [List.set_cons_succ]); (try simp only [List.set_cons_zero])
            refine wpAnyH_ready (rs := [6]) (by kernel_rfl) (by simp) ?_
            refine AllReadyH.cons (o := { dst := some 28, op := Op.call { callee := Callee.value (Operand.func 13), args := #[Operand.tmp 26, Operand.tmp 27], argTypes := #[24, 22] }, type := 4, pos := "law.go:19", after := #[{ on := 4, ground := Ground.data }, { on := 5, ground := Ground.data }, { on := 4, ground := Ground.chain }, { on := 3, ground := Ground.guard }], guard := some (3, true) }) rfl (fun K hK => ?_) AllReadyH.nil
            · skip
              refine wantCall2 ?_ 13 (.tmp 26) (.tmp 27) #[24, 22] ?_ (.agg #[.slice (some ⟨y127, 0, none⟩) 3 3, .slice (some ⟨z127, 0, none⟩) 1 1]) (.slice (some ⟨m128, 0, none⟩) 1 1) ?_ ?_ ?_ ((enters_of Try.func13 (by kernel_rfl) rfl) _ _) ?_
              · rfl
              · rfl
              · rfl
              · rfl
              · rfl
              refine (quorumB _ _ _ _ r129 r130 s128).mono ?_
              rintro o x131 ⟨rfl, b131⟩
              refine ⟨_, rfl, ?_⟩
              have U131 := U128.trans b131
              refine hK.out _ _ (BxA.old U131 HBx.out) (fun _ => ?_)
              clear hK K
              (try simp only [Act.put]); (try simp only [List.setIfInBounds_toArray]); (try simp only [List.set_cons_succ]); (try simp only [List.set_cons_zero])
              refine wpAnyH_take (i := 7) (oi := { dst := some 29, op := Op.unOp UnOp.not 4 (Operand.tmp 28), type := 4, pos := "law.go:19", after := #[{ on := 6, ground := Ground.data }, { on := 3, ground := Ground.guard }], guard := some (3, true) }) (v := ?vk132) rfl (by kernel_rfl) (by kernel_rfl) (by kernel_rfl) (fun _ _ _ h => h) (Or.inl ⟨by rfl, ?hk132⟩) (BxA.old U131 HBx.out) ?rk132
              case hk132 => (intro wz hSw; (try dsimp only at hSw); go_simp; try with_reducible rfl)
              (try simp only [Act.put]); (try simp only [List.setIfInBounds_toArray]); (try simp only [List.set_cons_succ]); (try simp only [List.set_cons_zero])
              refine wpAnyH_take (i := 8) (oi := { dst := some 30, op := Op.pick (Operand.tmp 25) (Operand.tmp 29) (Operand.const (Value.bool false)), type := 4, pos := "law.go:19", after := #[{ on := 3, ground := Ground.data }, { on := 7, ground := Ground.data }], guard := none }) (v := ?vk133) rfl (by kernel_rfl) (by kernel_rfl) (by kernel_rfl) (fun _ _ _ h => h) (Or.inl ⟨by rfl, ?hk133⟩) (BxA.old U131 HBx.out) ?rk133
              case hk133 => (intro wz hSw; (try dsimp only at hSw); go_simp; try with_reducible rfl)
              (try simp only [Act.put]); (try simp only [List.setIfInBounds_toArray]); (try simp only [List.set_cons_succ]); (try simp only [List.set_cons_zero])
              refine wpAnyH_take (i := 9) (oi := { dst := some 31, op := Op.move (Operand.tmp 30), type := 4, pos := "law.go:19", after := #[{ on := 8, ground := Ground.data }, { on := 6, ground := Ground.chain }], guard := none }) (v := ?vk134) rfl (by kernel_rfl) (by kernel_rfl) (by kernel_rfl) (fun _ _ _ h => h) (Or.inl ⟨by rfl, ?hk134⟩) (BxA.old U131 HBx.out) ?rk134
              case hk134 => (intro wz hSw; (try dsimp only at hSw); go_simp; try with_reducible rfl)
              (try simp only [Act.put]); (try simp only [List.setIfInBounds_toArray]); (try simp only [List.set_cons_succ]); (try simp only [List.set_cons_zero])
              refine wpAnyH_take (i := 10) (oi := { dst := some 32, op := Op.move (Operand.tmp 2), type := 27, pos := "law.go:19", after := #[{ on := 9, ground := Ground.guard }], guard := some (9, true) }) (v := ?vk135) rfl (by kernel_rfl) (by kernel_rfl) (by kernel_rfl) (fun _ _ _ h => h) (Or.inl ⟨by rfl, ?hk135⟩) (BxA.old U131 HBx.out) ?rk135
              case hk135 => (intro wz hSw; (try dsimp only at hSw); go_simp; try with_reducible rfl)
              (try simp only [Act.put]); (try simp only [List.setIfInBounds_toArray]); (try simp only [List.set_cons_succ]); (try simp only [List.set_cons_zero])
              refine wpAnyH_take (i := 11) (oi := { dst := some 33, op := Op.binOp BinOp.eql 27 (Operand.tmp 32) (Operand.const (Value.int IntKind.i64 0)) 27, type := 4, pos := "law.go:19", after := #[{ on := 10, ground := Ground.data }, { on := 9, ground := Ground.guard }], guard := some (9, true) }) (v := ?vk136) rfl (by kernel_rfl) (by kernel_rfl) (by kernel_rfl) (fun _ _ _ h => h) (Or.inl ⟨by rfl, ?hk136⟩) (BxA.old U131 HBx.out) ?rk136
              case hk136 => (intro wz hSw; (try dsimp only at hSw); go_simp; try with_reducible rfl)
              (try simp only [Act.put]); (try simp only [List.setIfInBounds_toArray]); (try simp only [List.set_cons_succ]); (try simp only [List.set_cons_zero])
              refine wpAnyH_take (i := 12) (oi := { dst := some 34, op := Op.pick (Operand.tmp 31) (Operand.tmp 33) (Operand.const (Value.bool false)), type := 4, pos := "law.go:19", after := #[{ on := 9, ground := Ground.data }, { on := 11, ground := Ground.data }], guard := none }) (v := ?vk137) rfl (by kernel_rfl) (by kernel_rfl) (by kernel_rfl) (fun _ _ _ h => h) (Or.inl ⟨by rfl, ?hk137⟩) (BxA.old U131 HBx.out) ?rk137
              case hk137 => (intro wz hSw; (try dsimp only at hSw); go_simp; try with_reducible rfl)
              (try simp only [Act.put]); (try simp only [List.setIfInBounds_toArray]); (try simp only [List.set_cons_succ]); (try simp only [List.set_cons_zero])
              refine wpAnyH_take (i := 13) (oi := { dst := some 35, op := Op.move (Operand.tmp 34), type := 4, pos := "law.go:19", after := #[{ on := 12, ground := Ground.data }, { on := 9, ground := Ground.chain }], guard := none }) (v := ?vk138) rfl (by kernel_rfl) (by kernel_rfl) (by kernel_rfl) (fun _ _ _ h => h) (Or.inl ⟨by rfl, ?hk138⟩) (BxA.old U131 HBx.out) ?rk138
              case hk138 => (intro wz hSw; (try dsimp only at hSw); go_simp; try with_reducible rfl)
              (try simp only [Act.put]); (try simp only [List.setIfInBounds_toArray]); (try simp only [List.set_cons_succ]); (try simp only [List.set_cons_zero])
              refine wpAnyH_take (i := 14) (oi := { dst := some 36, op := Op.fieldAddr 24 (Operand.tmp 1) 0, type := 0, pos := "law.go:19", after := #[{ on := 13, ground := Ground.guard }], guard := some (13, true) }) (v := ?vk139) rfl (by kernel_rfl) (by kernel_rfl) (by kernel_rfl) (fun _ _ _ h => h) (Or.inl ⟨by rfl, ?hk139⟩) (BxA.old U131 HBx.out) ?rk139
              case hk139 => (intro wz hSw; (try dsimp only at hSw); go_simp; try with_reducible rfl)
              (try simp only [Act.put]); (try simp only [List.setIfInBounds_toArray]); (try simp only [List.set_cons_succ]); (try simp only [List.set_cons_zero])
              refine wpAnyH_take (i := 15) (oi := { dst := some 37, op := Op.load 22 (Operand.tmp 36), type := 22, pos := "law.go:19", after := #[{ on := 14, ground := Ground.data }, { on := 13, ground := Ground.guard }], guard := some (13, true) }) (v := ?vk140) rfl (by kernel_rfl) (by kernel_rfl) (by kernel_rfl) (fun _ _ _ h => h) (Or.inl ⟨by rfl, ?hk140⟩) (BxA.old U131 HBx.out) ?rk140
              case hk140 => (intro wz hSw; (try dsimp only at hSw); go_simp; try with_reducible rfl)
              (try simp only [Act.put]); (try simp only [List.setIfInBounds_toArray]); (try simp only [List.set_cons_succ]); (try simp only [List.set_cons_zero])
              refine wpAnyH_ready (rs := [16]) (by kernel_rfl) (by simp) ?_
              refine AllReadyH.cons (o := { dst := some 38, op := Op.buildSlice 22 4 #[(0, Operand.const (Value.int IntKind.i64 1)), (1, Operand.const (Value.int IntKind.i64 2)), (2, Operand.const (Value.int IntKind.i64 3)), (3, Operand.const (Value.int IntKind.i64 4))], type := 22, pos := "law.go:19", after := #[{ on := 13, ground := Ground.guard }], guard := some (13, true) }) rfl (fun K hK => ?_) AllReadyH.nil
              · skip
                refine bldC ?_ ?_ ?_
                · rfl
                · rfl
                intro m141 x141 b141 s141
                have U141 := U131.trans b141
                refine hK.out _ _ (BxA.old U141 HBx.out) (fun _ => ?_)
                clear hK K
                (try simp only [Act.put]); (try simp only [List.setIfInBounds_toArray]); (try simp only [List.set_cons_succ]); (try simp only [List.set_cons_zero])
                refine wpAnyH_ready (rs := [17]) (by kernel_rfl) (by simp) ?_
                refine AllReadyH.cons (o := { dst := some 39, op := Op.call { callee := Callee.value (Operand.func 17), args := #[Operand.tmp 37, Operand.tmp 38], argTypes := #[22, 22] }, type := 4, pos := "law.go:19", after := #[{ on := 15, ground := Ground.data }, { on := 16, ground := Ground.data }, { on := 13, ground := Ground.chain }, { on := 13, ground := Ground.guard }], guard := some (13, true) }) rfl (fun K hK => ?_) AllReadyH.nil
                · skip
                  refine wantCall2 ?_ 17 (.tmp 37) (.tmp 38) #[22, 22] ?_ (.slice p1 4 c1) (.slice (some ⟨m141, 0, none⟩) 4 4) ?_ ?_ ?_ ((enters_of Try.func17 (by kernel_rfl) rfl) _ _) ?_
                  · rfl
                  · rfl
                  · rfl
                  · rfl
                  · rfl
                  refine (sameInts_eq _ _ 4 iota1 _ (R10.out.old U141) (s141.congr (fun i hi => by match i, hi with | 0, _ => decide | 1, _ => decide | 2, _ => decide | 3, _ => decide))).mono ?_
                  rintro o x142 ⟨rfl, b142⟩
                  refine ⟨_, rfl, ?_⟩
                  have U142 := U141.trans b142
                  refine hK.out _ _ (BxA.old U142 HBx.out) (fun _ => ?_)
                  clear hK K
                  (try simp only [Act.put]); (try simp only [List.setIfInBounds_toArray]); (try simp only [List.set_cons_succ]); (try simp only [List.set_cons_zero])
                  refine wpAnyH_take (i := 18) (oi := { dst := some 40, op := Op.pick (Operand.tmp 35) (Operand.tmp 39) (Operand.const (Value.bool false)), type := 4, pos := "law.go:19", after := #[{ on := 13, ground := Ground.data }, { on := 17, ground := Ground.data }], guard := none }) (v := ?vk143) rfl (by kernel_rfl) (by kernel_rfl) (by kernel_rfl) (fun _ _ _ h => h) (Or.inl ⟨by rfl, ?hk143⟩) (BxA.old U142 HBx.out) ?rk143
                  case hk143 => (intro wz hSw; (try dsimp only at hSw); go_simp; try with_reducible rfl)
                  (try simp only [Act.put]); (try simp only [List.setIfInBounds_toArray]); (try simp only [List.set_cons_succ]); (try simp only [List.set_cons_zero])
                  refine wpAnyH_take (i := 19) (oi := { dst := some 41, op := Op.move (Operand.tmp 40), type := 4, pos := "law.go:19", after := #[{ on := 18, ground := Ground.data }, { on := 17, ground := Ground.chain }], guard := none }) (v := ?vk144) rfl (by kernel_rfl) (by kernel_rfl) (by kernel_rfl) (fun _ _ _ h => h) (Or.inl ⟨by rfl, ?hk144⟩) (BxA.old U142 HBx.out) ?rk144
                  case hk144 => (intro wz hSw; (try dsimp only at hSw); go_simp; try with_reducible rfl)
                  (try simp only [Act.put]); (try simp only [List.setIfInBounds_toArray]); (try simp only [List.set_cons_succ]); (try simp only [List.set_cons_zero])
                  refine wpAnyH_take (i := 20) (oi := { dst := some 42, op := Op.move (Operand.tmp 4), type := 27, pos := "law.go:19", after := #[{ on := 19, ground := Ground.guard }], guard := some (19, true) }) (v := ?vk145) rfl (by kernel_rfl) (by kernel_rfl) (by kernel_rfl) (fun _ _ _ h => h) (Or.inl ⟨by rfl, ?hk145⟩) (BxA.old U142 HBx.out) ?rk145
                  case hk145 => (intro wz hSw; (try dsimp only at hSw); go_simp; try with_reducible rfl)
                  (try simp only [Act.put]); (try simp only [List.setIfInBounds_toArray]); (try simp only [List.set_cons_succ]); (try simp only [List.set_cons_zero])
                  refine wpAnyH_take (i := 21) (oi := { dst := some 43, op := Op.binOp BinOp.eql 27 (Operand.tmp 42) (Operand.const (Value.int IntKind.i64 0)) 27, type := 4, pos := "law.go:19", after := #[{ on := 20, ground := Ground.data }, { on := 19, ground := Ground.guard }], guard := some (19, true) }) (v := ?vk146) rfl (by kernel_rfl) (by kernel_rfl) (by kernel_rfl) (fun _ _ _ h => h) (Or.inl ⟨by rfl, ?hk146⟩) (BxA.old U142 HBx.out) ?rk146
                  case hk146 => (intro wz hSw; (try dsimp only at hSw); go_simp; try with_reducible rfl)
                  (try simp only [Act.put]); (try simp only [List.setIfInBounds_toArray]); (try simp only [List.set_cons_succ]); (try simp only [List.set_cons_zero])
                  refine wpAnyH_take (i := 22) (oi := { dst := some 44, op := Op.pick (Operand.tmp 41) (Operand.tmp 43) (Operand.const (Value.bool false)), type := 4, pos := "law.go:19", after := #[{ on := 19, ground := Ground.data }, { on := 21, ground := Ground.data }], guard := none }) (v := ?vk147) rfl (by kernel_rfl) (by kernel_rfl) (by kernel_rfl) (fun _ _ _ h => h) (Or.inl ⟨by rfl, ?hk147⟩) (BxA.old U142 HBx.out) ?rk147
                  case hk147 => (intro wz hSw; (try dsimp only at hSw); go_simp; try with_reducible rfl)
                  (try simp only [Act.put]); (try simp only [List.setIfInBounds_toArray]); (try simp only [List.set_cons_succ]); (try simp only [List.set_cons_zero])
                  refine wpAnyH_take (i := 23) (oi := { dst := some 45, op := Op.move (Operand.tmp 44), type := 4, pos := "law.go:19", after := #[{ on := 22, ground := Ground.data }, { on := 19, ground := Ground.chain }], guard := none }) (v := ?vk148) rfl (by kernel_rfl) (by kernel_rfl) (by kernel_rfl) (fun _ _ _ h => h) (Or.inl ⟨by rfl, ?hk148⟩) (BxA.old U142 HBx.out) ?rk148
                  case hk148 => (intro wz hSw; (try dsimp only at hSw); go_simp; try with_reducible rfl)
                  (try simp only [Act.put]); (try simp only [List.setIfInBounds_toArray]); (try simp only [List.set_cons_succ]); (try simp only [List.set_cons_zero])
                  refine wpAnyH_take (i := 24) (oi := { dst := some 46, op := Op.move (Operand.tmp 6), type := 27, pos := "law.go:19", after := #[{ on := 23, ground := Ground.guard }], guard := some (23, true) }) (v := ?vk149) rfl (by kernel_rfl) (by kernel_rfl) (by kernel_rfl) (fun _ _ _ h => h) (Or.inl ⟨by rfl, ?hk149⟩) (BxA.old U142 HBx.out) ?rk149
                  case hk149 => (intro wz hSw; (try dsimp only at hSw); go_simp; try with_reducible rfl)
                  (try simp only [Act.put]); (try simp only [List.setIfInBounds_toArray]); (try simp only [List.set_cons_succ]); (try simp only [List.set_cons_zero])
                  refine wpAnyH_take (i := 25) (oi := { dst := some 47, op := Op.binOp BinOp.eql 27 (Operand.tmp 46) (Operand.const (Value.int IntKind.i64 0)) 27, type := 4, pos := "law.go:19", after := #[{ on := 24, ground := Ground.data }, { on := 23, ground := Ground.guard }], guard := some (23, true) }) (v := ?vk150) rfl (by kernel_rfl) (by kernel_rfl) (by kernel_rfl) (fun _ _ _ h => h) (Or.inl ⟨by rfl, ?hk150⟩) (BxA.old U142 HBx.out) ?rk150
                  case hk150 => (intro wz hSw; (try dsimp only at hSw); go_simp; try with_reducible rfl)
                  (try simp only [Act.put]); (try simp only [List.setIfInBounds_toArray]); (try simp only [List.set_cons_succ]); (try simp only [List.set_cons_zero])
                  refine wpAnyH_take (i := 26) (oi := { dst := some 48, op := Op.pick (Operand.tmp 45) (Operand.tmp 47) (Operand.const (Value.bool false)), type := 4, pos := "law.go:19", after := #[{ on := 23, ground := Ground.data }, { on := 25, ground := Ground.data }], guard := none }) (v := ?vk151) rfl (by kernel_rfl) (by kernel_rfl) (by kernel_rfl) (fun _ _ _ h => h) (Or.inl ⟨by rfl, ?hk151⟩) (BxA.old U142 HBx.out) ?rk151
                  case hk151 => (intro wz hSw; (try dsimp only at hSw); go_simp; try with_reducible rfl)
                  (try simp only [Act.put]); (try simp only [List.setIfInBounds_toArray]); (try simp only [List.set_cons_succ]); (try simp only [List.set_cons_zero])
                  refine wpAnyH_take (i := 27) (oi := { dst := some 49, op := Op.move (Operand.tmp 48), type := 4, pos := "law.go:19", after := #[{ on := 26, ground := Ground.data }, { on := 23, ground := Ground.chain }], guard := none }) (v := ?vk152) rfl (by kernel_rfl) (by kernel_rfl) (by kernel_rfl) (fun _ _ _ h => h) (Or.inl ⟨by rfl, ?hk152⟩) (BxA.old U142 HBx.out) ?rk152
                  case hk152 => (intro wz hSw; (try dsimp only at hSw); go_simp; try with_reducible rfl)
                  (try simp only [Act.put]); (try simp only [List.setIfInBounds_toArray]); (try simp only [List.set_cons_succ]); (try simp only [List.set_cons_zero])
                  refine wpAnyH_take (i := 28) (oi := { dst := some 50, op := Op.load 24 (Operand.tmp 5), type := 24, pos := "law.go:19", after := #[{ on := 27, ground := Ground.guard }], guard := some (27, true) }) (v := ?vk153) rfl (by kernel_rfl) (by kernel_rfl) (by kernel_rfl) (fun _ _ _ h => h) (Or.inl ⟨by rfl, ?hk153⟩) (BxA.old U142 HBx.out) ?rk153
                  case hk153 => (intro wz hSw; (try dsimp only at hSw); go_simp; try with_reducible rfl)
                  (try simp only [Act.put]); (try simp only [List.setIfInBounds_toArray]); (try simp only [List.set_cons_succ]); (try simp only [List.set_cons_zero])
                  refine wpAnyH_ready (rs := [29]) (by kernel_rfl) (by simp) ?_
                  refine AllReadyH.cons (o := { dst := some 51, op := Op.call { callee := Callee.value (Operand.func 28), args := #[], argTypes := #[] }, type := 24, pos := "law.go:19", after := #[{ on := 27, ground := Ground.chain }, { on := 27, ground := Ground.guard }], guard := some (27, true) }) rfl (fun K hK => ?_) AllReadyH.nil
                  · skip
                    refine wantCall0 ?_ 28 #[] ?_ ?_ ((enters_of Try.func28 (by kernel_rfl) rfl) _ _) ?_
                    · rfl
                    · rfl
                    · rfl
                    refine (threeB_any _).mono ?_
                    rintro o x154 ⟨y154, z154, rfl, s154, t154, b154⟩
                    refine ⟨_, rfl, ?_⟩
                    have U154 := U142.trans b154
                    refine hK.out _ _ (BxA.old U154 HBx.out) (fun _ => ?_)
                    clear hK K
                    (try simp only [Act.put]); (try simp only [List.setIfInBounds_toArray]); (try simp only [List.set_cons_succ]); (try simp only [List.set_cons_zero])
                    refine wpAnyH_ready (rs := [30]) (by kernel_rfl) (by simp) ?_
                    refine AllReadyH.cons (o := { dst := some 52, op := Op.call { callee := Callee.value (Operand.func 16), args := #[Operand.tmp 50, Operand.tmp 51], argTypes := #[24, 24] }, type := 4, pos := "law.go:19", after := #[{ on := 28, ground := Ground.data }, { on := 29, ground := Ground.data }, { on := 29, ground := Ground.chain }, { on := 27, ground := Ground.guard }], guard := some (27, true) }) rfl (fun K hK => ?_) AllReadyH.nil
                    · skip
                      refine wantCall2 ?_ 16 (.tmp 50) (.tmp 51) #[24, 24] ?_ (.agg #[.slice q1 3 e1, .slice q2 1 e2]) (.agg #[.slice (some ⟨y154, 0, none⟩) 3 3, .slice (some ⟨z154, 0, none⟩) 1 1]) ?_ ?_ ?_ ((enters_of Try.func16 (by kernel_rfl) rfl) _ _) ?_
                      · rfl
                      · rfl
                      · rfl
                      · rfl
                      · rfl
                      refine (same_eq _ _ _ _ 3 1 iota1 iota4 _ (R8.out.old U154) (R9.out.old U154) s154 t154).mono ?_
                      rintro o x155 ⟨rfl, b155⟩
                      refine ⟨_, rfl, ?_⟩
                      have U155 := U154.trans b155
                      refine hK.out _ _ (BxA.old U155 HBx.out) (fun _ => ?_)
                      clear hK K
                      (try simp only [Act.put]); (try simp only [List.setIfInBounds_toArray]); (try simp only [List.set_cons_succ]); (try simp only [List.set_cons_zero])
                      refine wpAnyH_take (i := 31) (oi := { dst := some 53, op := Op.pick (Operand.tmp 49) (Operand.tmp 52) (Operand.const (Value.bool false)), type := 4, pos := "law.go:19", after := #[{ on := 27, ground := Ground.data }, { on := 30, ground := Ground.data }], guard := none }) (v := ?vk156) rfl (by kernel_rfl) (by kernel_rfl) (by kernel_rfl) (fun _ _ _ h => h) (Or.inl ⟨by rfl, ?hk156⟩) (BxA.old U155 HBx.out) ?rk156
                      case hk156 => (intro wz hSw; (try dsimp only at hSw); go_simp; try with_reducible rfl)
                      (try simp only [Act.put]); (try simp only [List.setIfInBounds_toArray]); (try simp only [List.set_cons_succ]); (try simp only [List.set_cons_zero])
                      refine wpAnyH_take (i := 32) (oi := { dst := some 54, op := Op.move (Operand.tmp 53), type := 4, pos := "law.go:19", after := #[{ on := 31, ground := Ground.data }, { on := 30, ground := Ground.chain }], guard := none }) (v := ?vk157) rfl (by kernel_rfl) (by kernel_rfl) (by kernel_rfl) (fun _ _ _ h => h) (Or.inl ⟨by rfl, ?hk157⟩) (BxA.old U155 HBx.out) ?rk157
                      case hk157 => (intro wz hSw; (try dsimp only at hSw); go_simp; try with_reducible rfl)
                      (try simp only [Act.put]); (try simp only [List.setIfInBounds_toArray]); (try simp only [List.set_cons_succ]); (try simp only [List.set_cons_zero])
                      refine wpAnyH_take (i := 33) (oi := { dst := some 55, op := Op.load 24 (Operand.tmp 5), type := 24, pos := "law.go:19", after := #[{ on := 32, ground := Ground.guard }], guard := some (32, true) }) (v := ?vk158) rfl (by kernel_rfl) (by kernel_rfl) (by kernel_rfl) (fun _ _ _ h => h) (Or.inl ⟨by rfl, ?hk158⟩) (BxA.old U155 HBx.out) ?rk158
                      case hk158 => (intro wz hSw; (try dsimp only at hSw); go_simp; try with_reducible rfl)
                      (try simp only [Act.put]); (try simp only [List.setIfInBounds_toArray]); (try simp only [List.set_cons_succ]); (try simp only [List.set_cons_zero])
                      refine wpAnyH_ready (rs := [34]) (by kernel_rfl) (by simp) ?_
                      refine AllReadyH.cons (o := { dst := some 56, op := Op.call { callee := Callee.value (Operand.func 9), args := #[Operand.tmp 55], argTypes := #[24] }, type := 4, pos := "law.go:19", after := #[{ on := 33, ground := Ground.data }, { on := 32, ground := Ground.chain }, { on := 32, ground := Ground.guard }], guard := some (32, true) }) rfl (fun K hK => ?_) AllReadyH.nil
                      · skip
                        refine wantCall1 ?_ 9 (.tmp 55) #[24] ?_ (.agg #[.slice q1 3 e1, .slice q2 1 e2]) ?_ ?_ ((enters_of Try.func9 (by kernel_rfl) rfl) _ _) ?_
                        · rfl
                        · rfl
                        · rfl
                        · rfl
                        refine (rightA _ _ _ (R8.out.old U155) (R9.out.old U155)).mono ?_
                        rintro o x159 ⟨rfl, b159⟩
                        refine ⟨_, rfl, ?_⟩
                        have U159 := U155.trans b159
                        refine hK.out _ _ (BxA.old U159 HBx.out) (fun _ => ?_)
                        clear hK K
                        (try simp only [Act.put]); (try simp only [List.setIfInBounds_toArray]); (try simp only [List.set_cons_succ]); (try simp only [List.set_cons_zero])
                        refine wpAnyH_take (i := 35) (oi := { dst := some 57, op := Op.pick (Operand.tmp 54) (Operand.tmp 56) (Operand.const (Value.bool false)), type := 4, pos := "law.go:19", after := #[{ on := 32, ground := Ground.data }, { on := 34, ground := Ground.data }], guard := none }) (v := ?vk160) rfl (by kernel_rfl) (by kernel_rfl) (by kernel_rfl) (fun _ _ _ h => h) (Or.inl ⟨by rfl, ?hk160⟩) (BxA.old U159 HBx.out) ?rk160
                        case hk160 => (intro wz hSw; (try dsimp only at hSw); go_simp; try with_reducible rfl)
                        (try simp only [Act.put]); (try simp only [List.setIfInBounds_toArray]); (try simp only [List.set_cons_succ]); (try simp only [List.set_cons_zero])
                        refine wpAnyH_take (i := 36) (oi := { dst := some 58, op := Op.move (Operand.tmp 57), type := 4, pos := "law.go:19", after := #[{ on := 35, ground := Ground.data }, { on := 34, ground := Ground.chain }], guard := none }) (v := ?vk161) rfl (by kernel_rfl) (by kernel_rfl) (by kernel_rfl) (fun _ _ _ h => h) (Or.inl ⟨by rfl, ?hk161⟩) (BxA.old U159 HBx.out) ?rk161
                        case hk161 => (intro wz hSw; (try dsimp only at hSw); go_simp; try with_reducible rfl)
                        (try simp only [Act.put]); (try simp only [List.setIfInBounds_toArray]); (try simp only [List.set_cons_succ]); (try simp only [List.set_cons_zero])
                        refine wpAnyH_take (i := 37) (oi := { dst := some 59, op := Op.load 24 (Operand.tmp 5), type := 24, pos := "law.go:19", after := #[{ on := 36, ground := Ground.guard }], guard := some (36, true) }) (v := ?vk162) rfl (by kernel_rfl) (by kernel_rfl) (by kernel_rfl) (fun _ _ _ h => h) (Or.inl ⟨by rfl, ?hk162⟩) (BxA.old U159 HBx.out) ?rk162
                        case hk162 => (intro wz hSw; (try dsimp only at hSw); go_simp; try with_reducible rfl)
                        (try simp only [Act.put]); (try simp only [List.setIfInBounds_toArray]); (try simp only [List.set_cons_succ]); (try simp only [List.set_cons_zero])
                        refine wpAnyH_ready (rs := [38]) (by kernel_rfl) (by simp) ?_
                        refine AllReadyH.cons (o := { dst := some 60, op := Op.call { callee := Callee.value (Operand.func 12), args := #[Operand.tmp 59, Operand.const (Value.int IntKind.i64 1)], argTypes := #[24, 3] }, type := 4, pos := "law.go:19", after := #[{ on := 37, ground := Ground.data }, { on := 36, ground := Ground.chain }, { on := 36, ground := Ground.guard }], guard := some (36, true) }) rfl (fun K hK => ?_) AllReadyH.nil
                        · skip
                          refine wantCall2 ?_ 12 (.tmp 59) (.const (.int .i64 1)) #[24, 3] ?_ (.agg #[.slice q1 3 e1, .slice q2 1 e2]) (.int .i64 1) ?_ ?_ ?_ ((enters_of Try.func12 (by kernel_rfl) rfl) _ _) ?_
                          · rfl
                          · rfl
                          · rfl
                          · rfl
                          · rfl
                          refine (voterA _ _ _ (R8.out.old U159) (R9.out.old U159)).mono ?_
                          rintro o x163 ⟨rfl, b163⟩
                          refine ⟨_, rfl, ?_⟩
                          have U163 := U159.trans b163
                          refine hK.out _ _ (BxA.old U163 HBx.out) (fun _ => ?_)
                          clear hK K
                          (try simp only [Act.put]); (try simp only [List.setIfInBounds_toArray]); (try simp only [List.set_cons_succ]); (try simp only [List.set_cons_zero])
                          refine wpAnyH_take (i := 39) (oi := { dst := some 61, op := Op.pick (Operand.tmp 58) (Operand.tmp 60) (Operand.const (Value.bool false)), type := 4, pos := "law.go:19", after := #[{ on := 36, ground := Ground.data }, { on := 38, ground := Ground.data }], guard := none }) (v := ?vk164) rfl (by kernel_rfl) (by kernel_rfl) (by kernel_rfl) (fun _ _ _ h => h) (Or.inl ⟨by rfl, ?hk164⟩) (BxA.old U163 HBx.out) ?rk164
                          case hk164 => (intro wz hSw; (try dsimp only at hSw); go_simp; try with_reducible rfl)
                          (try simp only [Act.put]); (try simp only [List.setIfInBounds_toArray]); (try simp only [List.set_cons_succ]); (try simp only [List.set_cons_zero])
                          refine wpAnyH_take (i := 40) (oi := { dst := some 62, op := Op.move (Operand.tmp 61), type := 4, pos := "law.go:19", after := #[{ on := 39, ground := Ground.data }, { on := 38, ground := Ground.chain }], guard := none }) (v := ?vk165) rfl (by kernel_rfl) (by kernel_rfl) (by kernel_rfl) (fun _ _ _ h => h) (Or.inl ⟨by rfl, ?hk165⟩) (BxA.old U163 HBx.out) ?rk165
                          case hk165 => (intro wz hSw; (try dsimp only at hSw); go_simp; try with_reducible rfl)
                          (try simp only [Act.put]); (try simp only [List.setIfInBounds_toArray]); (try simp only [List.set_cons_succ]); (try simp only [List.set_cons_zero])
                          refine wpAnyH_take (i := 41) (oi := { dst := some 63, op := Op.load 24 (Operand.tmp 5), type := 24, pos := "law.go:19", after := #[{ on := 40, ground := Ground.guard }], guard := some (40, true) }) (v := ?vk166) rfl (by kernel_rfl) (by kernel_rfl) (by kernel_rfl) (fun _ _ _ h => h) (Or.inl ⟨by rfl, ?hk166⟩) (BxA.old U163 HBx.out) ?rk166
                          case hk166 => (intro wz hSw; (try dsimp only at hSw); go_simp; try with_reducible rfl)
                          (try simp only [Act.put]); (try simp only [List.setIfInBounds_toArray]); (try simp only [List.set_cons_succ]); (try simp only [List.set_cons_zero])
                          refine wpAnyH_ready (rs := [42]) (by kernel_rfl) (by simp) ?_
                          refine AllReadyH.cons (o := { dst := some 64, op := Op.call { callee := Callee.value (Operand.func 11), args := #[Operand.tmp 63, Operand.const (Value.int IntKind.i64 4)], argTypes := #[24, 3] }, type := 4, pos := "law.go:19", after := #[{ on := 41, ground := Ground.data }, { on := 40, ground := Ground.chain }, { on := 40, ground := Ground.guard }], guard := some (40, true) }) rfl (fun K hK => ?_) AllReadyH.nil
                          · skip
                            refine wantCall2 ?_ 11 (.tmp 63) (.const (.int .i64 4)) #[24, 3] ?_ (.agg #[.slice q1 3 e1, .slice q2 1 e2]) (.int .i64 4) ?_ ?_ ?_ ((enters_of Try.func11 (by kernel_rfl) rfl) _ _) ?_
                            · rfl
                            · rfl
                            · rfl
                            · rfl
                            · rfl
                            refine (memberA _ _ _ (R8.out.old U163) (R9.out.old U163)).mono ?_
                            rintro o x167 ⟨rfl, b167⟩
                            refine ⟨_, rfl, ?_⟩
                            have U167 := U163.trans b167
                            refine hK.out _ _ (BxA.old U167 HBx.out) (fun _ => ?_)
                            clear hK K
                            (try simp only [Act.put]); (try simp only [List.setIfInBounds_toArray]); (try simp only [List.set_cons_succ]); (try simp only [List.set_cons_zero])
                            refine wpAnyH_take (i := 43) (oi := { dst := some 65, op := Op.pick (Operand.tmp 62) (Operand.tmp 64) (Operand.const (Value.bool false)), type := 4, pos := "law.go:19", after := #[{ on := 40, ground := Ground.data }, { on := 42, ground := Ground.data }], guard := none }) (v := ?vk168) rfl (by kernel_rfl) (by kernel_rfl) (by kernel_rfl) (fun _ _ _ h => h) (Or.inl ⟨by rfl, ?hk168⟩) (BxA.old U167 HBx.out) ?rk168
                            case hk168 => (intro wz hSw; (try dsimp only at hSw); go_simp; try with_reducible rfl)
                            (try simp only [Act.put]); (try simp only [List.setIfInBounds_toArray]); (try simp only [List.set_cons_succ]); (try simp only [List.set_cons_zero])
                            refine wpAnyH_take (i := 44) (oi := { dst := some 66, op := Op.move (Operand.tmp 65), type := 4, pos := "law.go:19", after := #[{ on := 43, ground := Ground.data }, { on := 42, ground := Ground.chain }], guard := none }) (v := ?vk169) rfl (by kernel_rfl) (by kernel_rfl) (by kernel_rfl) (fun _ _ _ h => h) (Or.inl ⟨by rfl, ?hk169⟩) (BxA.old U167 HBx.out) ?rk169
                            case hk169 => (intro wz hSw; (try dsimp only at hSw); go_simp; try with_reducible rfl)
                            (try simp only [Act.put]); (try simp only [List.setIfInBounds_toArray]); (try simp only [List.set_cons_succ]); (try simp only [List.set_cons_zero])
                            refine wpAnyH_take (i := 45) (oi := { dst := some 67, op := Op.load 24 (Operand.tmp 5), type := 24, pos := "law.go:19", after := #[{ on := 44, ground := Ground.guard }], guard := some (44, true) }) (v := ?vk170) rfl (by kernel_rfl) (by kernel_rfl) (by kernel_rfl) (fun _ _ _ h => h) (Or.inl ⟨by rfl, ?hk170⟩) (BxA.old U167 HBx.out) ?rk170
                            case hk170 => (intro wz hSw; (try dsimp only at hSw); go_simp; try with_reducible rfl)
                            (try simp only [Act.put]); (try simp only [List.setIfInBounds_toArray]); (try simp only [List.set_cons_succ]); (try simp only [List.set_cons_zero])
                            refine wpAnyH_ready (rs := [46, 47]) (by kernel_rfl) (by simp) ?_
                            refine AllReadyH.cons (o := { dst := some 68, op := Op.call { callee := Callee.value (Operand.func 25), args := #[Operand.tmp 67, Operand.const (Value.int IntKind.i64 2)], argTypes := #[24, 3] }, type := 22, pos := "law.go:19", after := #[{ on := 45, ground := Ground.data }, { on := 44, ground := Ground.chain }, { on := 44, ground := Ground.guard }], guard := some (44, true) }) rfl (fun K hK => ?_) (AllReadyH.cons (o := { dst := some 69, op := Op.buildSlice 22 3 #[(0, Operand.const (Value.int IntKind.i64 1)), (1, Operand.const (Value.int IntKind.i64 3)), (2, Operand.const (Value.int IntKind.i64 4))], type := 22, pos := "law.go:19", after := #[{ on := 44, ground := Ground.guard }], guard := some (44, true) }) rfl (fun K hK => ?_) AllReadyH.nil)
                            · skip
                              refine wantCall2 ?_ 25 (.tmp 67) (.const (.int .i64 2)) #[24, 3] ?_ (.agg #[.slice q1 3 e1, .slice q2 1 e2]) (.int .i64 2) ?_ ?_ ?_ ((enters_of Try.func25 (by kernel_rfl) rfl) _ _) ?_
                              · rfl
                              · rfl
                              · rfl
                              · rfl
                              · rfl
                              refine (othersA _ _ _ (R8.out.old U167) S6.out (R9.out.old U167) S7.out).mono ?_
                              rintro o x171 ⟨p171, c171, rfl, s171, b171⟩
                              refine ⟨_, rfl, ?_⟩
                              have U171 := U167.trans b171
                              refine hK.out _ _ (BxA.old U171 HBx.out) (fun _ => ?_)
                              clear hK K
                              (try simp only [Act.put]); (try simp only [List.setIfInBounds_toArray]); (try simp only [List.set_cons_succ]); (try simp only [List.set_cons_zero])
                              refine wpAnyH_ready (rs := [47]) (by kernel_rfl) (by simp) ?_
                              refine AllReadyH.cons (o := { dst := some 69, op := Op.buildSlice 22 3 #[(0, Operand.const (Value.int IntKind.i64 1)), (1, Operand.const (Value.int IntKind.i64 3)), (2, Operand.const (Value.int IntKind.i64 4))], type := 22, pos := "law.go:19", after := #[{ on := 44, ground := Ground.guard }], guard := some (44, true) }) rfl (fun K hK => ?_) AllReadyH.nil
                              · skip
                                refine bldD ?_ ?_ ?_
                                · rfl
                                · rfl
                                intro m172 x172 b172 s172
                                have r173 := s171.old b172
                                have U172 := U171.trans b172
                                refine hK.out _ _ (BxA.old U172 HBx.out) (fun _ => ?_)
                                clear hK K
                                (try simp only [Act.put]); (try simp only [List.setIfInBounds_toArray]); (try simp only [List.set_cons_succ]); (try simp only [List.set_cons_zero])
                                refine wpAnyH_ready (rs := [48]) (by kernel_rfl) (by simp) ?_
                                refine AllReadyH.cons (o := { dst := some 70, op := Op.call { callee := Callee.value (Operand.func 17), args := #[Operand.tmp 68, Operand.tmp 69], argTypes := #[22, 22] }, type := 4, pos := "law.go:19", after := #[{ on := 46, ground := Ground.data }, { on := 47, ground := Ground.data }, { on := 46, ground := Ground.chain }, { on := 44, ground := Ground.guard }], guard := some (44, true) }) rfl (fun K hK => ?_) AllReadyH.nil
                                · skip
                                  refine wantCall2 ?_ 17 (.tmp 68) (.tmp 69) #[22, 22] ?_ (.slice p171 3 c171) (.slice (some ⟨m172, 0, none⟩) 3 3) ?_ ?_ ?_ ((enters_of Try.func17 (by kernel_rfl) rfl) _ _) ?_
                                  · rfl
                                  · rfl
                                  · rfl
                                  · rfl
                                  · rfl
                                  refine (sameInts_eq _ _ 3 (gI [1, 3, 4]) _ r173 s172).mono ?_
                                  rintro o x174 ⟨rfl, b174⟩
                                  refine ⟨_, rfl, ?_⟩
                                  have r175 := r173.old b174
                                  have r176 := s172.old b174
                                  have U174 := U172.trans b174
                                  refine hK.out _ _ (BxA.old U174 HBx.out) (fun _ => ?_)
                                  clear hK K
                                  (try simp only [Act.put]); (try simp only [List.setIfInBounds_toArray]); (try simp only [List.set_cons_succ]); (try simp only [List.set_cons_zero])
                                  refine wpAnyH_take (i := 49) (oi := { dst := some 71, op := Op.pick (Operand.tmp 66) (Operand.tmp 70) (Operand.const (Value.bool false)), type := 4, pos := "law.go:19", after := #[{ on := 44, ground := Ground.data }, { on := 48, ground := Ground.data }], guard := none }) (v := ?vk177) rfl (by kernel_rfl) (by kernel_rfl) (by kernel_rfl) (fun _ _ _ h => h) (Or.inl ⟨by rfl, ?hk177⟩) (BxA.old U174 HBx.out) ?rk177
                                  case hk177 => (intro wz hSw; (try dsimp only at hSw); go_simp; try with_reducible rfl)
                                  (try simp only [Act.put]); (try simp only [List.setIfInBounds_toArray]); (try simp only [List.set_cons_succ]); (try simp only [List.set_cons_zero])
                                  refine wpAnyH_ready (rs := [50]) (by kernel_rfl) (by simp) ?_
                                  refine AllReadyH.cons (o := { dst := some 0, op := Op.assign (Operand.tmp 71), type := 4, pos := "law.go:19", after := #[{ on := 49, ground := Ground.data }, { on := 48, ground := Ground.chain }, { on := 0, ground := Ground.phase }, { on := 1, ground := Ground.phase }, { on := 2, ground := Ground.phase }, { on := 3, ground := Ground.phase }, { on := 4, ground := Ground.phase }, { on := 5, ground := Ground.phase }, { on := 6, ground := Ground.phase }, { on := 7, ground := Ground.phase }, { on := 8, ground := Ground.phase }, { on := 9, ground := Ground.phase }, { on := 10, ground := Ground.phase }, { on := 11, ground := Ground.phase }, { on := 12, ground := Ground.phase }, { on := 13, ground := Ground.phase }, { on := 14, ground := Ground.phase }, { on := 15, ground := Ground.phase }, { on := 16, ground := Ground.phase }, { on := 17, ground := Ground.phase }, { on := 18, ground := Ground.phase }, { on := 19, ground := Ground.phase }, { on := 20, ground := Ground.phase }, { on := 21, ground := Ground.phase }, { on := 22, ground := Ground.phase }, { on := 23, ground := Ground.phase }, { on := 24, ground := Ground.phase }, { on := 25, ground := Ground.phase }, { on := 26, ground := Ground.phase }, { on := 27, ground := Ground.phase }, { on := 28, ground := Ground.phase }, { on := 29, ground := Ground.phase }, { on := 30, ground := Ground.phase }, { on := 31, ground := Ground.phase }, { on := 32, ground := Ground.phase }, { on := 33, ground := Ground.phase }, { on := 34, ground := Ground.phase }, { on := 35, ground := Ground.phase }, { on := 36, ground := Ground.phase }, { on := 37, ground := Ground.phase }, { on := 38, ground := Ground.phase }, { on := 39, ground := Ground.phase }, { on := 40, ground := Ground.phase }, { on := 41, ground := Ground.phase }, { on := 42, ground := Ground.phase }, { on := 43, ground := Ground.phase }, { on := 44, ground := Ground.phase }, { on := 45, ground := Ground.phase }, { on := 46, ground := Ground.phase }, { on := 47, ground := Ground.phase }, { on := 48, ground := Ground.phase }, { on := 49, ground := Ground.phase }], guard := none }) rfl (fun K hK => ?_) AllReadyH.nil
                                  · skip
                                    go_simp
                                    refine hK.out _ _ (BxA.old U174 HBx.out) (fun _ => ?_)
                                    clear hK K
                                    (try simp only [Act.put]); (try simp only [List.setIfInBounds_toArray]); (try simp only [List.set_cons_succ]); (try simp only [List.set_cons_zero])
                                    refine wpAnyH_done (by kernel_rfl) ?_ _
                                    refine NoPanic.normal ?_
                                    have UZ := hid U174
                                    go_wp2
                                    go_ret
                                    exact ⟨rfl, OW.out.trans UZ.out⟩
                            · skip
                              refine bldD ?_ ?_ ?_
                              · rfl
                              · rfl
                              intro m178 x178 b178 s178
                              have U178 := U167.trans b178
                              refine hK.out _ _ (BxA.old U178 HBx.out) (fun _ => ?_)
                              clear hK K
                              (try simp only [Act.put]); (try simp only [List.setIfInBounds_toArray]); (try simp only [List.set_cons_succ]); (try simp only [List.set_cons_zero])
                              refine wpAnyH_ready (rs := [46]) (by kernel_rfl) (by simp) ?_
                              refine AllReadyH.cons (o := { dst := some 68, op := Op.call { callee := Callee.value (Operand.func 25), args := #[Operand.tmp 67, Operand.const (Value.int IntKind.i64 2)], argTypes := #[24, 3] }, type := 22, pos := "law.go:19", after := #[{ on := 45, ground := Ground.data }, { on := 44, ground := Ground.chain }, { on := 44, ground := Ground.guard }], guard := some (44, true) }) rfl (fun K hK => ?_) AllReadyH.nil
                              · skip
                                refine wantCall2 ?_ 25 (.tmp 67) (.const (.int .i64 2)) #[24, 3] ?_ (.agg #[.slice q1 3 e1, .slice q2 1 e2]) (.int .i64 2) ?_ ?_ ?_ ((enters_of Try.func25 (by kernel_rfl) rfl) _ _) ?_
                                · rfl
                                · rfl
                                · rfl
                                · rfl
                                · rfl
                                refine (othersA _ _ _ (R8.out.old U178) S6.out (R9.out.old U178) S7.out).mono ?_
                                rintro o x179 ⟨p179, c179, rfl, s179, b179⟩
                                refine ⟨_, rfl, ?_⟩
                                have r180 := s178.old b179
                                have U179 := U178.trans b179
                                refine hK.out _ _ (BxA.old U179 HBx.out) (fun _ => ?_)
                                clear hK K
                                (try simp only [Act.put]); (try simp only [List.setIfInBounds_toArray]); (try simp only [List.set_cons_succ]); (try simp only [List.set_cons_zero])
                                refine wpAnyH_ready (rs := [48]) (by kernel_rfl) (by simp) ?_
                                refine AllReadyH.cons (o := { dst := some 70, op := Op.call { callee := Callee.value (Operand.func 17), args := #[Operand.tmp 68, Operand.tmp 69], argTypes := #[22, 22] }, type := 4, pos := "law.go:19", after := #[{ on := 46, ground := Ground.data }, { on := 47, ground := Ground.data }, { on := 46, ground := Ground.chain }, { on := 44, ground := Ground.guard }], guard := some (44, true) }) rfl (fun K hK => ?_) AllReadyH.nil
                                · skip
                                  refine wantCall2 ?_ 17 (.tmp 68) (.tmp 69) #[22, 22] ?_ (.slice p179 3 c179) (.slice (some ⟨m178, 0, none⟩) 3 3) ?_ ?_ ?_ ((enters_of Try.func17 (by kernel_rfl) rfl) _ _) ?_
                                  · rfl
                                  · rfl
                                  · rfl
                                  · rfl
                                  · rfl
                                  refine (sameInts_eq _ _ 3 (gI [1, 3, 4]) _ s179 r180).mono ?_
                                  rintro o x181 ⟨rfl, b181⟩
                                  refine ⟨_, rfl, ?_⟩
                                  have r182 := r180.old b181
                                  have r183 := s179.old b181
                                  have U181 := U179.trans b181
                                  refine hK.out _ _ (BxA.old U181 HBx.out) (fun _ => ?_)
                                  clear hK K
                                  (try simp only [Act.put]); (try simp only [List.setIfInBounds_toArray]); (try simp only [List.set_cons_succ]); (try simp only [List.set_cons_zero])
                                  refine wpAnyH_take (i := 49) (oi := { dst := some 71, op := Op.pick (Operand.tmp 66) (Operand.tmp 70) (Operand.const (Value.bool false)), type := 4, pos := "law.go:19", after := #[{ on := 44, ground := Ground.data }, { on := 48, ground := Ground.data }], guard := none }) (v := ?vk184) rfl (by kernel_rfl) (by kernel_rfl) (by kernel_rfl) (fun _ _ _ h => h) (Or.inl ⟨by rfl, ?hk184⟩) (BxA.old U181 HBx.out) ?rk184
                                  case hk184 => (intro wz hSw; (try dsimp only at hSw); go_simp; try with_reducible rfl)
                                  (try simp only [Act.put]); (try simp only [List.setIfInBounds_toArray]); (try simp only [List.set_cons_succ]); (try simp only [List.set_cons_zero])
                                  refine wpAnyH_ready (rs := [50]) (by kernel_rfl) (by simp) ?_
                                  refine AllReadyH.cons (o := { dst := some 0, op := Op.assign (Operand.tmp 71), type := 4, pos := "law.go:19", after := #[{ on := 49, ground := Ground.data }, { on := 48, ground := Ground.chain }, { on := 0, ground := Ground.phase }, { on := 1, ground := Ground.phase }, { on := 2, ground := Ground.phase }, { on := 3, ground := Ground.phase }, { on := 4, ground := Ground.phase }, { on := 5, ground := Ground.phase }, { on := 6, ground := Ground.phase }, { on := 7, ground := Ground.phase }, { on := 8, ground := Ground.phase }, { on := 9, ground := Ground.phase }, { on := 10, ground := Ground.phase }, { on := 11, ground := Ground.phase }, { on := 12, ground := Ground.phase }, { on := 13, ground := Ground.phase }, { on := 14, ground := Ground.phase }, { on := 15, ground := Ground.phase }, { on := 16, ground := Ground.phase }, { on := 17, ground := Ground.phase }, { on := 18, ground := Ground.phase }, { on := 19, ground := Ground.phase }, { on := 20, ground := Ground.phase }, { on := 21, ground := Ground.phase }, { on := 22, ground := Ground.phase }, { on := 23, ground := Ground.phase }, { on := 24, ground := Ground.phase }, { on := 25, ground := Ground.phase }, { on := 26, ground := Ground.phase }, { on := 27, ground := Ground.phase }, { on := 28, ground := Ground.phase }, { on := 29, ground := Ground.phase }, { on := 30, ground := Ground.phase }, { on := 31, ground := Ground.phase }, { on := 32, ground := Ground.phase }, { on := 33, ground := Ground.phase }, { on := 34, ground := Ground.phase }, { on := 35, ground := Ground.phase }, { on := 36, ground := Ground.phase }, { on := 37, ground := Ground.phase }, { on := 38, ground := Ground.phase }, { on := 39, ground := Ground.phase }, { on := 40, ground := Ground.phase }, { on := 41, ground := Ground.phase }, { on := 42, ground := Ground.phase }, { on := 43, ground := Ground.phase }, { on := 44, ground := Ground.phase }, { on := 45, ground := Ground.phase }, { on := 46, ground := Ground.phase }, { on := 47, ground := Ground.phase }, { on := 48, ground := Ground.phase }, { on := 49, ground := Ground.phase }], guard := none }) rfl (fun K hK => ?_) AllReadyH.nil
                                  · skip
                                    go_simp
                                    refine hK.out _ _ (BxA.old U181 HBx.out) (fun _ => ?_)
                                    clear hK K
                                    (try simp only [Act.put]); (try simp only [List.setIfInBounds_toArray]); (try simp only [List.set_cons_succ]); (try simp only [List.set_cons_zero])
                                    refine wpAnyH_done (by kernel_rfl) ?_ _
                                    refine NoPanic.normal ?_
                                    have UZ := hid U181
                                    go_wp2
                                    go_ret
                                    exact ⟨rfl, OW.out.trans UZ.out⟩
        · skip
          refine bldB ?_ ?_ ?_
          · rfl
          · rfl
          intro m185 x185 b185 s185
          have U185 := U125.trans b185
          refine hK.out _ _ (BxA.old U185 HBx.out) (fun _ => ?_)
          clear hK K
          (try simp only [Act.put]); (try simp only [List.setIfInBounds_toArray]); (try simp only [List.set_cons_succ]); (try simp only [List.set_cons_zero])
          refine wpAnyH_ready (rs := [4]) (by kernel_rfl) (by simp) ?_
          refine AllReadyH.cons (o := { dst := some 26, op := Op.call { callee := Callee.value (Operand.func 28), args := #[], argTypes := #[] }, type := 24, pos := "law.go:19", after := #[{ on := 3, ground := Ground.chain }, { on := 3, ground := Ground.guard }], guard := some (3, true) }) rfl (fun K hK => ?_) AllReadyH.nil
          · skip
            refine wantCall0 ?_ 28 #[] ?_ ?_ ((enters_of Try.func28 (by kernel_rfl) rfl) _ _) ?_
            · rfl
            · rfl
            · rfl
            refine (threeB_any _).mono ?_
            rintro o x186 ⟨y186, z186, rfl, s186, t186, b186⟩
            refine ⟨_, rfl, ?_⟩
            have r187 := s185.old b186
            have U186 := U185.trans b186
            refine hK.out _ _ (BxA.old U186 HBx.out) (fun _ => ?_)
            clear hK K
            (try simp only [Act.put]); (try simp only [List.setIfInBounds_toArray]); (try simp only [List.set_cons_succ]); (try simp only [List.set_cons_zero])
            refine wpAnyH_ready (rs := [6]) (by kernel_rfl) (by simp) ?_
            refine AllReadyH.cons (o := { dst := some 28, op := Op.call { callee := Callee.value (Operand.func 13), args := #[Operand.tmp 26, Operand.tmp 27], argTypes := #[24, 22] }, type := 4, pos := "law.go:19", after := #[{ on := 4, ground := Ground.data }, { on := 5, ground := Ground.data }, { on := 4, ground := Ground.chain }, { on := 3, ground := Ground.guard }], guard := some (3, true) }) rfl (fun K hK => ?_) AllReadyH.nil
            · skip
              refine wantCall2 ?_ 13 (.tmp 26) (.tmp 27) #[24, 22] ?_ (.agg #[.slice (some ⟨y186, 0, none⟩) 3 3, .slice (some ⟨z186, 0, none⟩) 1 1]) (.slice (some ⟨m185, 0, none⟩) 1 1) ?_ ?_ ?_ ((enters_of Try.func13 (by kernel_rfl) rfl) _ _) ?_
              · rfl
              · rfl
              · rfl
              · rfl
              · rfl
              refine (quorumB _ _ _ _ s186 t186 r187).mono ?_
              rintro o x188 ⟨rfl, b188⟩
              refine ⟨_, rfl, ?_⟩
              have U188 := U186.trans b188
              refine hK.out _ _ (BxA.old U188 HBx.out) (fun _ => ?_)
              clear hK K
              (try simp only [Act.put]); (try simp only [List.setIfInBounds_toArray]); (try simp only [List.set_cons_succ]); (try simp only [List.set_cons_zero])
              refine wpAnyH_take (i := 7) (oi := { dst := some 29, op := Op.unOp UnOp.not 4 (Operand.tmp 28), type := 4, pos := "law.go:19", after := #[{ on := 6, ground := Ground.data }, { on := 3, ground := Ground.guard }], guard := some (3, true) }) (v := ?vk189) rfl (by kernel_rfl) (by kernel_rfl) (by kernel_rfl) (fun _ _ _ h => h) (Or.inl ⟨by rfl, ?hk189⟩) (BxA.old U188 HBx.out) ?rk189
              case hk189 => (intro wz hSw; (try dsimp only at hSw); go_simp; try with_reducible rfl)
              (try simp only [Act.put]); (try simp only [List.setIfInBounds_toArray]); (try simp only [List.set_cons_succ]); (try simp only [List.set_cons_zero])
              refine wpAnyH_take (i := 8) (oi := { dst := some 30, op := Op.pick (Operand.tmp 25) (Operand.tmp 29) (Operand.const (Value.bool false)), type := 4, pos := "law.go:19", after := #[{ on := 3, ground := Ground.data }, { on := 7, ground := Ground.data }], guard := none }) (v := ?vk190) rfl (by kernel_rfl) (by kernel_rfl) (by kernel_rfl) (fun _ _ _ h => h) (Or.inl ⟨by rfl, ?hk190⟩) (BxA.old U188 HBx.out) ?rk190
              case hk190 => (intro wz hSw; (try dsimp only at hSw); go_simp; try with_reducible rfl)
              (try simp only [Act.put]); (try simp only [List.setIfInBounds_toArray]); (try simp only [List.set_cons_succ]); (try simp only [List.set_cons_zero])
              refine wpAnyH_take (i := 9) (oi := { dst := some 31, op := Op.move (Operand.tmp 30), type := 4, pos := "law.go:19", after := #[{ on := 8, ground := Ground.data }, { on := 6, ground := Ground.chain }], guard := none }) (v := ?vk191) rfl (by kernel_rfl) (by kernel_rfl) (by kernel_rfl) (fun _ _ _ h => h) (Or.inl ⟨by rfl, ?hk191⟩) (BxA.old U188 HBx.out) ?rk191
              case hk191 => (intro wz hSw; (try dsimp only at hSw); go_simp; try with_reducible rfl)
              (try simp only [Act.put]); (try simp only [List.setIfInBounds_toArray]); (try simp only [List.set_cons_succ]); (try simp only [List.set_cons_zero])
              refine wpAnyH_take (i := 10) (oi := { dst := some 32, op := Op.move (Operand.tmp 2), type := 27, pos := "law.go:19", after := #[{ on := 9, ground := Ground.guard }], guard := some (9, true) }) (v := ?vk192) rfl (by kernel_rfl) (by kernel_rfl) (by kernel_rfl) (fun _ _ _ h => h) (Or.inl ⟨by rfl, ?hk192⟩) (BxA.old U188 HBx.out) ?rk192
              case hk192 => (intro wz hSw; (try dsimp only at hSw); go_simp; try with_reducible rfl)
              (try simp only [Act.put]); (try simp only [List.setIfInBounds_toArray]); (try simp only [List.set_cons_succ]); (try simp only [List.set_cons_zero])
              refine wpAnyH_take (i := 11) (oi := { dst := some 33, op := Op.binOp BinOp.eql 27 (Operand.tmp 32) (Operand.const (Value.int IntKind.i64 0)) 27, type := 4, pos := "law.go:19", after := #[{ on := 10, ground := Ground.data }, { on := 9, ground := Ground.guard }], guard := some (9, true) }) (v := ?vk193) rfl (by kernel_rfl) (by kernel_rfl) (by kernel_rfl) (fun _ _ _ h => h) (Or.inl ⟨by rfl, ?hk193⟩) (BxA.old U188 HBx.out) ?rk193
              case hk193 => (intro wz hSw; (try dsimp only at hSw); go_simp; try with_reducible rfl)
              (try simp only [Act.put]); (try simp only [List.setIfInBounds_toArray]); (try simp only [List.set_cons_succ]); (try simp only [List.set_cons_zero])
              refine wpAnyH_take (i := 12) (oi := { dst := some 34, op := Op.pick (Operand.tmp 31) (Operand.tmp 33) (Operand.const (Value.bool false)), type := 4, pos := "law.go:19", after := #[{ on := 9, ground := Ground.data }, { on := 11, ground := Ground.data }], guard := none }) (v := ?vk194) rfl (by kernel_rfl) (by kernel_rfl) (by kernel_rfl) (fun _ _ _ h => h) (Or.inl ⟨by rfl, ?hk194⟩) (BxA.old U188 HBx.out) ?rk194
              case hk194 => (intro wz hSw; (try dsimp only at hSw); go_simp; try with_reducible rfl)
              (try simp only [Act.put]); (try simp only [List.setIfInBounds_toArray]); (try simp only [List.set_cons_succ]); (try simp only [List.set_cons_zero])
              refine wpAnyH_take (i := 13) (oi := { dst := some 35, op := Op.move (Operand.tmp 34), type := 4, pos := "law.go:19", after := #[{ on := 12, ground := Ground.data }, { on := 9, ground := Ground.chain }], guard := none }) (v := ?vk195) rfl (by kernel_rfl) (by kernel_rfl) (by kernel_rfl) (fun _ _ _ h => h) (Or.inl ⟨by rfl, ?hk195⟩) (BxA.old U188 HBx.out) ?rk195
              case hk195 => (intro wz hSw; (try dsimp only at hSw); go_simp; try with_reducible rfl)
              (try simp only [Act.put]); (try simp only [List.setIfInBounds_toArray]); (try simp only [List.set_cons_succ]); (try simp only [List.set_cons_zero])
              refine wpAnyH_take (i := 14) (oi := { dst := some 36, op := Op.fieldAddr 24 (Operand.tmp 1) 0, type := 0, pos := "law.go:19", after := #[{ on := 13, ground := Ground.guard }], guard := some (13, true) }) (v := ?vk196) rfl (by kernel_rfl) (by kernel_rfl) (by kernel_rfl) (fun _ _ _ h => h) (Or.inl ⟨by rfl, ?hk196⟩) (BxA.old U188 HBx.out) ?rk196
              case hk196 => (intro wz hSw; (try dsimp only at hSw); go_simp; try with_reducible rfl)
              (try simp only [Act.put]); (try simp only [List.setIfInBounds_toArray]); (try simp only [List.set_cons_succ]); (try simp only [List.set_cons_zero])
              refine wpAnyH_take (i := 15) (oi := { dst := some 37, op := Op.load 22 (Operand.tmp 36), type := 22, pos := "law.go:19", after := #[{ on := 14, ground := Ground.data }, { on := 13, ground := Ground.guard }], guard := some (13, true) }) (v := ?vk197) rfl (by kernel_rfl) (by kernel_rfl) (by kernel_rfl) (fun _ _ _ h => h) (Or.inl ⟨by rfl, ?hk197⟩) (BxA.old U188 HBx.out) ?rk197
              case hk197 => (intro wz hSw; (try dsimp only at hSw); go_simp; try with_reducible rfl)
              (try simp only [Act.put]); (try simp only [List.setIfInBounds_toArray]); (try simp only [List.set_cons_succ]); (try simp only [List.set_cons_zero])
              refine wpAnyH_ready (rs := [16]) (by kernel_rfl) (by simp) ?_
              refine AllReadyH.cons (o := { dst := some 38, op := Op.buildSlice 22 4 #[(0, Operand.const (Value.int IntKind.i64 1)), (1, Operand.const (Value.int IntKind.i64 2)), (2, Operand.const (Value.int IntKind.i64 3)), (3, Operand.const (Value.int IntKind.i64 4))], type := 22, pos := "law.go:19", after := #[{ on := 13, ground := Ground.guard }], guard := some (13, true) }) rfl (fun K hK => ?_) AllReadyH.nil
              · skip
                refine bldC ?_ ?_ ?_
                · rfl
                · rfl
                intro m198 x198 b198 s198
                have U198 := U188.trans b198
                refine hK.out _ _ (BxA.old U198 HBx.out) (fun _ => ?_)
                clear hK K
                (try simp only [Act.put]); (try simp only [List.setIfInBounds_toArray]); (try simp only [List.set_cons_succ]); (try simp only [List.set_cons_zero])
                refine wpAnyH_ready (rs := [17]) (by kernel_rfl) (by simp) ?_
                refine AllReadyH.cons (o := { dst := some 39, op := Op.call { callee := Callee.value (Operand.func 17), args := #[Operand.tmp 37, Operand.tmp 38], argTypes := #[22, 22] }, type := 4, pos := "law.go:19", after := #[{ on := 15, ground := Ground.data }, { on := 16, ground := Ground.data }, { on := 13, ground := Ground.chain }, { on := 13, ground := Ground.guard }], guard := some (13, true) }) rfl (fun K hK => ?_) AllReadyH.nil
                · skip
                  refine wantCall2 ?_ 17 (.tmp 37) (.tmp 38) #[22, 22] ?_ (.slice p1 4 c1) (.slice (some ⟨m198, 0, none⟩) 4 4) ?_ ?_ ?_ ((enters_of Try.func17 (by kernel_rfl) rfl) _ _) ?_
                  · rfl
                  · rfl
                  · rfl
                  · rfl
                  · rfl
                  refine (sameInts_eq _ _ 4 iota1 _ (R10.out.old U198) (s198.congr (fun i hi => by match i, hi with | 0, _ => decide | 1, _ => decide | 2, _ => decide | 3, _ => decide))).mono ?_
                  rintro o x199 ⟨rfl, b199⟩
                  refine ⟨_, rfl, ?_⟩
                  have U199 := U198.trans b199
                  refine hK.out _ _ (BxA.old U199 HBx.out) (fun _ => ?_)
                  clear hK K
                  (try simp only [Act.put]); (try simp only [List.setIfInBounds_toArray]); (try simp only [List.set_cons_succ]); (try simp only [List.set_cons_zero])
                  refine wpAnyH_take (i := 18) (oi := { dst := some 40, op := Op.pick (Operand.tmp 35) (Operand.tmp 39) (Operand.const (Value.bool false)), type := 4, pos := "law.go:19", after := #[{ on := 13, ground := Ground.data }, { on := 17, ground := Ground.data }], guard := none }) (v := ?vk200) rfl (by kernel_rfl) (by kernel_rfl) (by kernel_rfl) (fun _ _ _ h => h) (Or.inl ⟨by rfl, ?hk200⟩) (BxA.old U199 HBx.out) ?rk200
                  case hk200 => (intro wz hSw; (try dsimp only at hSw); go_simp; try with_reducible rfl)
                  (try simp only [Act.put]); (try simp only [List.setIfInBounds_toArray]); (try simp only [List.set_cons_succ]); (try simp only [List.set_cons_zero])
                  refine wpAnyH_take (i := 19) (oi := { dst := some 41, op := Op.move (Operand.tmp 40), type := 4, pos := "law.go:19", after := #[{ on := 18, ground := Ground.data }, { on := 17, ground := Ground.chain }], guard := none }) (v := ?vk201) rfl (by kernel_rfl) (by kernel_rfl) (by kernel_rfl) (fun _ _ _ h => h) (Or.inl ⟨by rfl, ?hk201⟩) (BxA.old U199 HBx.out) ?rk201
                  case hk201 => (intro wz hSw; (try dsimp only at hSw); go_simp; try with_reducible rfl)
                  (try simp only [Act.put]); (try simp only [List.setIfInBounds_toArray]); (try simp only [List.set_cons_succ]); (try simp only [List.set_cons_zero])
                  refine wpAnyH_take (i := 20) (oi := { dst := some 42, op := Op.move (Operand.tmp 4), type := 27, pos := "law.go:19", after := #[{ on := 19, ground := Ground.guard }], guard := some (19, true) }) (v := ?vk202) rfl (by kernel_rfl) (by kernel_rfl) (by kernel_rfl) (fun _ _ _ h => h) (Or.inl ⟨by rfl, ?hk202⟩) (BxA.old U199 HBx.out) ?rk202
                  case hk202 => (intro wz hSw; (try dsimp only at hSw); go_simp; try with_reducible rfl)
                  (try simp only [Act.put]); (try simp only [List.setIfInBounds_toArray]); (try simp only [List.set_cons_succ]); (try simp only [List.set_cons_zero])
                  refine wpAnyH_take (i := 21) (oi := { dst := some 43, op := Op.binOp BinOp.eql 27 (Operand.tmp 42) (Operand.const (Value.int IntKind.i64 0)) 27, type := 4, pos := "law.go:19", after := #[{ on := 20, ground := Ground.data }, { on := 19, ground := Ground.guard }], guard := some (19, true) }) (v := ?vk203) rfl (by kernel_rfl) (by kernel_rfl) (by kernel_rfl) (fun _ _ _ h => h) (Or.inl ⟨by rfl, ?hk203⟩) (BxA.old U199 HBx.out) ?rk203
                  case hk203 => (intro wz hSw; (try dsimp only at hSw); go_simp; try with_reducible rfl)
                  (try simp only [Act.put]); (try simp only [List.setIfInBounds_toArray]); (try simp only [List.set_cons_succ]); (try simp only [List.set_cons_zero])
                  refine wpAnyH_take (i := 22) (oi := { dst := some 44, op := Op.pick (Operand.tmp 41) (Operand.tmp 43) (Operand.const (Value.bool false)), type := 4, pos := "law.go:19", after := #[{ on := 19, ground := Ground.data }, { on := 21, ground := Ground.data }], guard := none }) (v := ?vk204) rfl (by kernel_rfl) (by kernel_rfl) (by kernel_rfl) (fun _ _ _ h => h) (Or.inl ⟨by rfl, ?hk204⟩) (BxA.old U199 HBx.out) ?rk204
                  case hk204 => (intro wz hSw; (try dsimp only at hSw); go_simp; try with_reducible rfl)
                  (try simp only [Act.put]); (try simp only [List.setIfInBounds_toArray]); (try simp only [List.set_cons_succ]); (try simp only [List.set_cons_zero])
                  refine wpAnyH_take (i := 23) (oi := { dst := some 45, op := Op.move (Operand.tmp 44), type := 4, pos := "law.go:19", after := #[{ on := 22, ground := Ground.data }, { on := 19, ground := Ground.chain }], guard := none }) (v := ?vk205) rfl (by kernel_rfl) (by kernel_rfl) (by kernel_rfl) (fun _ _ _ h => h) (Or.inl ⟨by rfl, ?hk205⟩) (BxA.old U199 HBx.out) ?rk205
                  case hk205 => (intro wz hSw; (try dsimp only at hSw); go_simp; try with_reducible rfl)
                  (try simp only [Act.put]); (try simp only [List.setIfInBounds_toArray]); (try simp only [List.set_cons_succ]); (try simp only [List.set_cons_zero])
                  refine wpAnyH_take (i := 24) (oi := { dst := some 46, op := Op.move (Operand.tmp 6), type := 27, pos := "law.go:19", after := #[{ on := 23, ground := Ground.guard }], guard := some (23, true) }) (v := ?vk206) rfl (by kernel_rfl) (by kernel_rfl) (by kernel_rfl) (fun _ _ _ h => h) (Or.inl ⟨by rfl, ?hk206⟩) (BxA.old U199 HBx.out) ?rk206
                  case hk206 => (intro wz hSw; (try dsimp only at hSw); go_simp; try with_reducible rfl)
                  (try simp only [Act.put]); (try simp only [List.setIfInBounds_toArray]); (try simp only [List.set_cons_succ]); (try simp only [List.set_cons_zero])
                  refine wpAnyH_take (i := 25) (oi := { dst := some 47, op := Op.binOp BinOp.eql 27 (Operand.tmp 46) (Operand.const (Value.int IntKind.i64 0)) 27, type := 4, pos := "law.go:19", after := #[{ on := 24, ground := Ground.data }, { on := 23, ground := Ground.guard }], guard := some (23, true) }) (v := ?vk207) rfl (by kernel_rfl) (by kernel_rfl) (by kernel_rfl) (fun _ _ _ h => h) (Or.inl ⟨by rfl, ?hk207⟩) (BxA.old U199 HBx.out) ?rk207
                  case hk207 => (intro wz hSw; (try dsimp only at hSw); go_simp; try with_reducible rfl)
                  (try simp only [Act.put]); (try simp only [List.setIfInBounds_toArray]); (try simp only [List.set_cons_succ]); (try simp only [List.set_cons_zero])
                  refine wpAnyH_take (i := 26) (oi := { dst := some 48, op := Op.pick (Operand.tmp 45) (Operand.tmp 47) (Operand.const (Value.bool false)), type := 4, pos := "law.go:19", after := #[{ on := 23, ground := Ground.data }, { on := 25, ground := Ground.data }], guard := none }) (v := ?vk208) rfl (by kernel_rfl) (by kernel_rfl) (by kernel_rfl) (fun _ _ _ h => h) (Or.inl ⟨by rfl, ?hk208⟩) (BxA.old U199 HBx.out) ?rk208
                  case hk208 => (intro wz hSw; (try dsimp only at hSw); go_simp; try with_reducible rfl)
                  (try simp only [Act.put]); (try simp only [List.setIfInBounds_toArray]); (try simp only [List.set_cons_succ]); (try simp only [List.set_cons_zero])
                  refine wpAnyH_take (i := 27) (oi := { dst := some 49, op := Op.move (Operand.tmp 48), type := 4, pos := "law.go:19", after := #[{ on := 26, ground := Ground.data }, { on := 23, ground := Ground.chain }], guard := none }) (v := ?vk209) rfl (by kernel_rfl) (by kernel_rfl) (by kernel_rfl) (fun _ _ _ h => h) (Or.inl ⟨by rfl, ?hk209⟩) (BxA.old U199 HBx.out) ?rk209
                  case hk209 => (intro wz hSw; (try dsimp only at hSw); go_simp; try with_reducible rfl)
                  (try simp only [Act.put]); (try simp only [List.setIfInBounds_toArray]); (try simp only [List.set_cons_succ]); (try simp only [List.set_cons_zero])
                  refine wpAnyH_take (i := 28) (oi := { dst := some 50, op := Op.load 24 (Operand.tmp 5), type := 24, pos := "law.go:19", after := #[{ on := 27, ground := Ground.guard }], guard := some (27, true) }) (v := ?vk210) rfl (by kernel_rfl) (by kernel_rfl) (by kernel_rfl) (fun _ _ _ h => h) (Or.inl ⟨by rfl, ?hk210⟩) (BxA.old U199 HBx.out) ?rk210
                  case hk210 => (intro wz hSw; (try dsimp only at hSw); go_simp; try with_reducible rfl)
                  (try simp only [Act.put]); (try simp only [List.setIfInBounds_toArray]); (try simp only [List.set_cons_succ]); (try simp only [List.set_cons_zero])
                  refine wpAnyH_ready (rs := [29]) (by kernel_rfl) (by simp) ?_
                  refine AllReadyH.cons (o := { dst := some 51, op := Op.call { callee := Callee.value (Operand.func 28), args := #[], argTypes := #[] }, type := 24, pos := "law.go:19", after := #[{ on := 27, ground := Ground.chain }, { on := 27, ground := Ground.guard }], guard := some (27, true) }) rfl (fun K hK => ?_) AllReadyH.nil
                  · skip
                    refine wantCall0 ?_ 28 #[] ?_ ?_ ((enters_of Try.func28 (by kernel_rfl) rfl) _ _) ?_
                    · rfl
                    · rfl
                    · rfl
                    refine (threeB_any _).mono ?_
                    rintro o x211 ⟨y211, z211, rfl, s211, t211, b211⟩
                    refine ⟨_, rfl, ?_⟩
                    have U211 := U199.trans b211
                    refine hK.out _ _ (BxA.old U211 HBx.out) (fun _ => ?_)
                    clear hK K
                    (try simp only [Act.put]); (try simp only [List.setIfInBounds_toArray]); (try simp only [List.set_cons_succ]); (try simp only [List.set_cons_zero])
                    refine wpAnyH_ready (rs := [30]) (by kernel_rfl) (by simp) ?_
                    refine AllReadyH.cons (o := { dst := some 52, op := Op.call { callee := Callee.value (Operand.func 16), args := #[Operand.tmp 50, Operand.tmp 51], argTypes := #[24, 24] }, type := 4, pos := "law.go:19", after := #[{ on := 28, ground := Ground.data }, { on := 29, ground := Ground.data }, { on := 29, ground := Ground.chain }, { on := 27, ground := Ground.guard }], guard := some (27, true) }) rfl (fun K hK => ?_) AllReadyH.nil
                    · skip
                      refine wantCall2 ?_ 16 (.tmp 50) (.tmp 51) #[24, 24] ?_ (.agg #[.slice q1 3 e1, .slice q2 1 e2]) (.agg #[.slice (some ⟨y211, 0, none⟩) 3 3, .slice (some ⟨z211, 0, none⟩) 1 1]) ?_ ?_ ?_ ((enters_of Try.func16 (by kernel_rfl) rfl) _ _) ?_
                      · rfl
                      · rfl
                      · rfl
                      · rfl
                      · rfl
                      refine (same_eq _ _ _ _ 3 1 iota1 iota4 _ (R8.out.old U211) (R9.out.old U211) s211 t211).mono ?_
                      rintro o x212 ⟨rfl, b212⟩
                      refine ⟨_, rfl, ?_⟩
                      have U212 := U211.trans b212
                      refine hK.out _ _ (BxA.old U212 HBx.out) (fun _ => ?_)
                      clear hK K
                      (try simp only [Act.put]); (try simp only [List.setIfInBounds_toArray]); (try simp only [List.set_cons_succ]); (try simp only [List.set_cons_zero])
                      refine wpAnyH_take (i := 31) (oi := { dst := some 53, op := Op.pick (Operand.tmp 49) (Operand.tmp 52) (Operand.const (Value.bool false)), type := 4, pos := "law.go:19", after := #[{ on := 27, ground := Ground.data }, { on := 30, ground := Ground.data }], guard := none }) (v := ?vk213) rfl (by kernel_rfl) (by kernel_rfl) (by kernel_rfl) (fun _ _ _ h => h) (Or.inl ⟨by rfl, ?hk213⟩) (BxA.old U212 HBx.out) ?rk213
                      case hk213 => (intro wz hSw; (try dsimp only at hSw); go_simp; try with_reducible rfl)
                      (try simp only [Act.put]); (try simp only [List.setIfInBounds_toArray]); (try simp only [List.set_cons_succ]); (try simp only [List.set_cons_zero])
                      refine wpAnyH_take (i := 32) (oi := { dst := some 54, op := Op.move (Operand.tmp 53), type := 4, pos := "law.go:19", after := #[{ on := 31, ground := Ground.data }, { on := 30, ground := Ground.chain }], guard := none }) (v := ?vk214) rfl (by kernel_rfl) (by kernel_rfl) (by kernel_rfl) (fun _ _ _ h => h) (Or.inl ⟨by rfl, ?hk214⟩) (BxA.old U212 HBx.out) ?rk214
                      case hk214 => (intro wz hSw; (try dsimp only at hSw); go_simp; try with_reducible rfl)
                      (try simp only [Act.put]); (try simp only [List.setIfInBounds_toArray]); (try simp only [List.set_cons_succ]); (try simp only [List.set_cons_zero])
                      refine wpAnyH_take (i := 33) (oi := { dst := some 55, op := Op.load 24 (Operand.tmp 5), type := 24, pos := "law.go:19", after := #[{ on := 32, ground := Ground.guard }], guard := some (32, true) }) (v := ?vk215) rfl (by kernel_rfl) (by kernel_rfl) (by kernel_rfl) (fun _ _ _ h => h) (Or.inl ⟨by rfl, ?hk215⟩) (BxA.old U212 HBx.out) ?rk215
                      case hk215 => (intro wz hSw; (try dsimp only at hSw); go_simp; try with_reducible rfl)
                      (try simp only [Act.put]); (try simp only [List.setIfInBounds_toArray]); (try simp only [List.set_cons_succ]); (try simp only [List.set_cons_zero])
                      refine wpAnyH_ready (rs := [34]) (by kernel_rfl) (by simp) ?_
                      refine AllReadyH.cons (o := { dst := some 56, op := Op.call { callee := Callee.value (Operand.func 9), args := #[Operand.tmp 55], argTypes := #[24] }, type := 4, pos := "law.go:19", after := #[{ on := 33, ground := Ground.data }, { on := 32, ground := Ground.chain }, { on := 32, ground := Ground.guard }], guard := some (32, true) }) rfl (fun K hK => ?_) AllReadyH.nil
                      · skip
                        refine wantCall1 ?_ 9 (.tmp 55) #[24] ?_ (.agg #[.slice q1 3 e1, .slice q2 1 e2]) ?_ ?_ ((enters_of Try.func9 (by kernel_rfl) rfl) _ _) ?_
                        · rfl
                        · rfl
                        · rfl
                        · rfl
                        refine (rightA _ _ _ (R8.out.old U212) (R9.out.old U212)).mono ?_
                        rintro o x216 ⟨rfl, b216⟩
                        refine ⟨_, rfl, ?_⟩
                        have U216 := U212.trans b216
                        refine hK.out _ _ (BxA.old U216 HBx.out) (fun _ => ?_)
                        clear hK K
                        (try simp only [Act.put]); (try simp only [List.setIfInBounds_toArray]); (try simp only [List.set_cons_succ]); (try simp only [List.set_cons_zero])
                        refine wpAnyH_take (i := 35) (oi := { dst := some 57, op := Op.pick (Operand.tmp 54) (Operand.tmp 56) (Operand.const (Value.bool false)), type := 4, pos := "law.go:19", after := #[{ on := 32, ground := Ground.data }, { on := 34, ground := Ground.data }], guard := none }) (v := ?vk217) rfl (by kernel_rfl) (by kernel_rfl) (by kernel_rfl) (fun _ _ _ h => h) (Or.inl ⟨by rfl, ?hk217⟩) (BxA.old U216 HBx.out) ?rk217
                        case hk217 => (intro wz hSw; (try dsimp only at hSw); go_simp; try with_reducible rfl)
                        (try simp only [Act.put]); (try simp only [List.setIfInBounds_toArray]); (try simp only [List.set_cons_succ]); (try simp only [List.set_cons_zero])
                        refine wpAnyH_take (i := 36) (oi := { dst := some 58, op := Op.move (Operand.tmp 57), type := 4, pos := "law.go:19", after := #[{ on := 35, ground := Ground.data }, { on := 34, ground := Ground.chain }], guard := none }) (v := ?vk218) rfl (by kernel_rfl) (by kernel_rfl) (by kernel_rfl) (fun _ _ _ h => h) (Or.inl ⟨by rfl, ?hk218⟩) (BxA.old U216 HBx.out) ?rk218
                        case hk218 => (intro wz hSw; (try dsimp only at hSw); go_simp; try with_reducible rfl)
                        (try simp only [Act.put]); (try simp only [List.setIfInBounds_toArray]); (try simp only [List.set_cons_succ]); (try simp only [List.set_cons_zero])
                        refine wpAnyH_take (i := 37) (oi := { dst := some 59, op := Op.load 24 (Operand.tmp 5), type := 24, pos := "law.go:19", after := #[{ on := 36, ground := Ground.guard }], guard := some (36, true) }) (v := ?vk219) rfl (by kernel_rfl) (by kernel_rfl) (by kernel_rfl) (fun _ _ _ h => h) (Or.inl ⟨by rfl, ?hk219⟩) (BxA.old U216 HBx.out) ?rk219
                        case hk219 => (intro wz hSw; (try dsimp only at hSw); go_simp; try with_reducible rfl)
                        (try simp only [Act.put]); (try simp only [List.setIfInBounds_toArray]); (try simp only [List.set_cons_succ]); (try simp only [List.set_cons_zero])
                        refine wpAnyH_ready (rs := [38]) (by kernel_rfl) (by simp) ?_
                        refine AllReadyH.cons (o := { dst := some 60, op := Op.call { callee := Callee.value (Operand.func 12), args := #[Operand.tmp 59, Operand.const (Value.int IntKind.i64 1)], argTypes := #[24, 3] }, type := 4, pos := "law.go:19", after := #[{ on := 37, ground := Ground.data }, { on := 36, ground := Ground.chain }, { on := 36, ground := Ground.guard }], guard := some (36, true) }) rfl (fun K hK => ?_) AllReadyH.nil
                        · skip
                          refine wantCall2 ?_ 12 (.tmp 59) (.const (.int .i64 1)) #[24, 3] ?_ (.agg #[.slice q1 3 e1, .slice q2 1 e2]) (.int .i64 1) ?_ ?_ ?_ ((enters_of Try.func12 (by kernel_rfl) rfl) _ _) ?_
                          · rfl
                          · rfl
                          · rfl
                          · rfl
                          · rfl
                          refine (voterA _ _ _ (R8.out.old U216) (R9.out.old U216)).mono ?_
                          rintro o x220 ⟨rfl, b220⟩
                          refine ⟨_, rfl, ?_⟩
                          have U220 := U216.trans b220
                          refine hK.out _ _ (BxA.old U220 HBx.out) (fun _ => ?_)
                          clear hK K
                          (try simp only [Act.put]); (try simp only [List.setIfInBounds_toArray]); (try simp only [List.set_cons_succ]); (try simp only [List.set_cons_zero])
                          refine wpAnyH_take (i := 39) (oi := { dst := some 61, op := Op.pick (Operand.tmp 58) (Operand.tmp 60) (Operand.const (Value.bool false)), type := 4, pos := "law.go:19", after := #[{ on := 36, ground := Ground.data }, { on := 38, ground := Ground.data }], guard := none }) (v := ?vk221) rfl (by kernel_rfl) (by kernel_rfl) (by kernel_rfl) (fun _ _ _ h => h) (Or.inl ⟨by rfl, ?hk221⟩) (BxA.old U220 HBx.out) ?rk221
                          case hk221 => (intro wz hSw; (try dsimp only at hSw); go_simp; try with_reducible rfl)
                          (try simp only [Act.put]); (try simp only [List.setIfInBounds_toArray]); (try simp only [List.set_cons_succ]); (try simp only [List.set_cons_zero])
                          refine wpAnyH_take (i := 40) (oi := { dst := some 62, op := Op.move (Operand.tmp 61), type := 4, pos := "law.go:19", after := #[{ on := 39, ground := Ground.data }, { on := 38, ground := Ground.chain }], guard := none }) (v := ?vk222) rfl (by kernel_rfl) (by kernel_rfl) (by kernel_rfl) (fun _ _ _ h => h) (Or.inl ⟨by rfl, ?hk222⟩) (BxA.old U220 HBx.out) ?rk222
                          case hk222 => (intro wz hSw; (try dsimp only at hSw); go_simp; try with_reducible rfl)
                          (try simp only [Act.put]); (try simp only [List.setIfInBounds_toArray]); (try simp only [List.set_cons_succ]); (try simp only [List.set_cons_zero])
                          refine wpAnyH_take (i := 41) (oi := { dst := some 63, op := Op.load 24 (Operand.tmp 5), type := 24, pos := "law.go:19", after := #[{ on := 40, ground := Ground.guard }], guard := some (40, true) }) (v := ?vk223) rfl (by kernel_rfl) (by kernel_rfl) (by kernel_rfl) (fun _ _ _ h => h) (Or.inl ⟨by rfl, ?hk223⟩) (BxA.old U220 HBx.out) ?rk223
                          case hk223 => (intro wz hSw; (try dsimp only at hSw); go_simp; try with_reducible rfl)
                          (try simp only [Act.put]); (try simp only [List.setIfInBounds_toArray]); (try simp only [List.set_cons_succ]); (try simp only [List.set_cons_zero])
                          refine wpAnyH_ready (rs := [42]) (by kernel_rfl) (by simp) ?_
                          refine AllReadyH.cons (o := { dst := some 64, op := Op.call { callee := Callee.value (Operand.func 11), args := #[Operand.tmp 63, Operand.const (Value.int IntKind.i64 4)], argTypes := #[24, 3] }, type := 4, pos := "law.go:19", after := #[{ on := 41, ground := Ground.data }, { on := 40, ground := Ground.chain }, { on := 40, ground := Ground.guard }], guard := some (40, true) }) rfl (fun K hK => ?_) AllReadyH.nil
                          · skip
                            refine wantCall2 ?_ 11 (.tmp 63) (.const (.int .i64 4)) #[24, 3] ?_ (.agg #[.slice q1 3 e1, .slice q2 1 e2]) (.int .i64 4) ?_ ?_ ?_ ((enters_of Try.func11 (by kernel_rfl) rfl) _ _) ?_
                            · rfl
                            · rfl
                            · rfl
                            · rfl
                            · rfl
                            refine (memberA _ _ _ (R8.out.old U220) (R9.out.old U220)).mono ?_
                            rintro o x224 ⟨rfl, b224⟩
                            refine ⟨_, rfl, ?_⟩
                            have U224 := U220.trans b224
                            refine hK.out _ _ (BxA.old U224 HBx.out) (fun _ => ?_)
                            clear hK K
                            (try simp only [Act.put]); (try simp only [List.setIfInBounds_toArray]); (try simp only [List.set_cons_succ]); (try simp only [List.set_cons_zero])
                            refine wpAnyH_take (i := 43) (oi := { dst := some 65, op := Op.pick (Operand.tmp 62) (Operand.tmp 64) (Operand.const (Value.bool false)), type := 4, pos := "law.go:19", after := #[{ on := 40, ground := Ground.data }, { on := 42, ground := Ground.data }], guard := none }) (v := ?vk225) rfl (by kernel_rfl) (by kernel_rfl) (by kernel_rfl) (fun _ _ _ h => h) (Or.inl ⟨by rfl, ?hk225⟩) (BxA.old U224 HBx.out) ?rk225
                            case hk225 => (intro wz hSw; (try dsimp only at hSw); go_simp; try with_reducible rfl)
                            (try simp only [Act.put]); (try simp only [List.setIfInBounds_toArray]); (try simp only [List.set_cons_succ]); (try simp only [List.set_cons_zero])
                            refine wpAnyH_take (i := 44) (oi := { dst := some 66, op := Op.move (Operand.tmp 65), type := 4, pos := "law.go:19", after := #[{ on := 43, ground := Ground.data }, { on := 42, ground := Ground.chain }], guard := none }) (v := ?vk226) rfl (by kernel_rfl) (by kernel_rfl) (by kernel_rfl) (fun _ _ _ h => h) (Or.inl ⟨by rfl, ?hk226⟩) (BxA.old U224 HBx.out) ?rk226
                            case hk226 => (intro wz hSw; (try dsimp only at hSw); go_simp; try with_reducible rfl)
                            (try simp only [Act.put]); (try simp only [List.setIfInBounds_toArray]); (try simp only [List.set_cons_succ]); (try simp only [List.set_cons_zero])
                            refine wpAnyH_take (i := 45) (oi := { dst := some 67, op := Op.load 24 (Operand.tmp 5), type := 24, pos := "law.go:19", after := #[{ on := 44, ground := Ground.guard }], guard := some (44, true) }) (v := ?vk227) rfl (by kernel_rfl) (by kernel_rfl) (by kernel_rfl) (fun _ _ _ h => h) (Or.inl ⟨by rfl, ?hk227⟩) (BxA.old U224 HBx.out) ?rk227
                            case hk227 => (intro wz hSw; (try dsimp only at hSw); go_simp; try with_reducible rfl)
                            (try simp only [Act.put]); (try simp only [List.setIfInBounds_toArray]); (try simp only [List.set_cons_succ]); (try simp only [List.set_cons_zero])
                            refine wpAnyH_ready (rs := [46, 47]) (by kernel_rfl) (by simp) ?_
                            refine AllReadyH.cons (o := { dst := some 68, op := Op.call { callee := Callee.value (Operand.func 25), args := #[Operand.tmp 67, Operand.const (Value.int IntKind.i64 2)], argTypes := #[24, 3] }, type := 22, pos := "law.go:19", after := #[{ on := 45, ground := Ground.data }, { on := 44, ground := Ground.chain }, { on := 44, ground := Ground.guard }], guard := some (44, true) }) rfl (fun K hK => ?_) (AllReadyH.cons (o := { dst := some 69, op := Op.buildSlice 22 3 #[(0, Operand.const (Value.int IntKind.i64 1)), (1, Operand.const (Value.int IntKind.i64 3)), (2, Operand.const (Value.int IntKind.i64 4))], type := 22, pos := "law.go:19", after := #[{ on := 44, ground := Ground.guard }], guard := some (44, true) }) rfl (fun K hK => ?_) AllReadyH.nil)
                            · skip
                              refine wantCall2 ?_ 25 (.tmp 67) (.const (.int .i64 2)) #[24, 3] ?_ (.agg #[.slice q1 3 e1, .slice q2 1 e2]) (.int .i64 2) ?_ ?_ ?_ ((enters_of Try.func25 (by kernel_rfl) rfl) _ _) ?_
                              · rfl
                              · rfl
                              · rfl
                              · rfl
                              · rfl
                              refine (othersA _ _ _ (R8.out.old U224) S6.out (R9.out.old U224) S7.out).mono ?_
                              rintro o x228 ⟨p228, c228, rfl, s228, b228⟩
                              refine ⟨_, rfl, ?_⟩
                              have U228 := U224.trans b228
                              refine hK.out _ _ (BxA.old U228 HBx.out) (fun _ => ?_)
                              clear hK K
                              (try simp only [Act.put]); (try simp only [List.setIfInBounds_toArray]); (try simp only [List.set_cons_succ]); (try simp only [List.set_cons_zero])
                              refine wpAnyH_ready (rs := [47]) (by kernel_rfl) (by simp) ?_
                              refine AllReadyH.cons (o := { dst := some 69, op := Op.buildSlice 22 3 #[(0, Operand.const (Value.int IntKind.i64 1)), (1, Operand.const (Value.int IntKind.i64 3)), (2, Operand.const (Value.int IntKind.i64 4))], type := 22, pos := "law.go:19", after := #[{ on := 44, ground := Ground.guard }], guard := some (44, true) }) rfl (fun K hK => ?_) AllReadyH.nil
                              · skip
                                refine bldD ?_ ?_ ?_
                                · rfl
                                · rfl
                                intro m229 x229 b229 s229
                                have r230 := s228.old b229
                                have U229 := U228.trans b229
                                refine hK.out _ _ (BxA.old U229 HBx.out) (fun _ => ?_)
                                clear hK K
                                (try simp only [Act.put]); (try simp only [List.setIfInBounds_toArray]); (try simp only [List.set_cons_succ]); (try simp only [List.set_cons_zero])
                                refine wpAnyH_ready (rs := [48]) (by kernel_rfl) (by simp) ?_
                                refine AllReadyH.cons (o := { dst := some 70, op := Op.call { callee := Callee.value (Operand.func 17), args := #[Operand.tmp 68, Operand.tmp 69], argTypes := #[22, 22] }, type := 4, pos := "law.go:19", after := #[{ on := 46, ground := Ground.data }, { on := 47, ground := Ground.data }, { on := 46, ground := Ground.chain }, { on := 44, ground := Ground.guard }], guard := some (44, true) }) rfl (fun K hK => ?_) AllReadyH.nil
                                · skip
                                  refine wantCall2 ?_ 17 (.tmp 68) (.tmp 69) #[22, 22] ?_ (.slice p228 3 c228) (.slice (some ⟨m229, 0, none⟩) 3 3) ?_ ?_ ?_ ((enters_of Try.func17 (by kernel_rfl) rfl) _ _) ?_
                                  · rfl
                                  · rfl
                                  · rfl
                                  · rfl
                                  · rfl
                                  refine (sameInts_eq _ _ 3 (gI [1, 3, 4]) _ r230 s229).mono ?_
                                  rintro o x231 ⟨rfl, b231⟩
                                  refine ⟨_, rfl, ?_⟩
                                  have r232 := r230.old b231
                                  have r233 := s229.old b231
                                  have U231 := U229.trans b231
                                  refine hK.out _ _ (BxA.old U231 HBx.out) (fun _ => ?_)
                                  clear hK K
                                  (try simp only [Act.put]); (try simp only [List.setIfInBounds_toArray]); (try simp only [List.set_cons_succ]); (try simp only [List.set_cons_zero])
                                  refine wpAnyH_take (i := 49) (oi := { dst := some 71, op := Op.pick (Operand.tmp 66) (Operand.tmp 70) (Operand.const (Value.bool false)), type := 4, pos := "law.go:19", after := #[{ on := 44, ground := Ground.data }, { on := 48, ground := Ground.data }], guard := none }) (v := ?vk234) rfl (by kernel_rfl) (by kernel_rfl) (by kernel_rfl) (fun _ _ _ h => h) (Or.inl ⟨by rfl, ?hk234⟩) (BxA.old U231 HBx.out) ?rk234
                                  case hk234 => (intro wz hSw; (try dsimp only at hSw); go_simp; try with_reducible rfl)
                                  (try simp only [Act.put]); (try simp only [List.setIfInBounds_toArray]); (try simp only [List.set_cons_succ]); (try simp only [List.set_cons_zero])
                                  refine wpAnyH_ready (rs := [50]) (by kernel_rfl) (by simp) ?_
                                  refine AllReadyH.cons (o := { dst := some 0, op := Op.assign (Operand.tmp 71), type := 4, pos := "law.go:19", after := #[{ on := 49, ground := Ground.data }, { on := 48, ground := Ground.chain }, { on := 0, ground := Ground.phase }, { on := 1, ground := Ground.phase }, { on := 2, ground := Ground.phase }, { on := 3, ground := Ground.phase }, { on := 4, ground := Ground.phase }, { on := 5, ground := Ground.phase }, { on := 6, ground := Ground.phase }, { on := 7, ground := Ground.phase }, { on := 8, ground := Ground.phase }, { on := 9, ground := Ground.phase }, { on := 10, ground := Ground.phase }, { on := 11, ground := Ground.phase }, { on := 12, ground := Ground.phase }, { on := 13, ground := Ground.phase }, { on := 14, ground := Ground.phase }, { on := 15, ground := Ground.phase }, { on := 16, ground := Ground.phase }, { on := 17, ground := Ground.phase }, { on := 18, ground := Ground.phase }, { on := 19, ground := Ground.phase }, { on := 20, ground := Ground.phase }, { on := 21, ground := Ground.phase }, { on := 22, ground := Ground.phase }, { on := 23, ground := Ground.phase }, { on := 24, ground := Ground.phase }, { on := 25, ground := Ground.phase }, { on := 26, ground := Ground.phase }, { on := 27, ground := Ground.phase }, { on := 28, ground := Ground.phase }, { on := 29, ground := Ground.phase }, { on := 30, ground := Ground.phase }, { on := 31, ground := Ground.phase }, { on := 32, ground := Ground.phase }, { on := 33, ground := Ground.phase }, { on := 34, ground := Ground.phase }, { on := 35, ground := Ground.phase }, { on := 36, ground := Ground.phase }, { on := 37, ground := Ground.phase }, { on := 38, ground := Ground.phase }, { on := 39, ground := Ground.phase }, { on := 40, ground := Ground.phase }, { on := 41, ground := Ground.phase }, { on := 42, ground := Ground.phase }, { on := 43, ground := Ground.phase }, { on := 44, ground := Ground.phase }, { on := 45, ground := Ground.phase }, { on := 46, ground := Ground.phase }, { on := 47, ground := Ground.phase }, { on := 48, ground := Ground.phase }, { on := 49, ground := Ground.phase }], guard := none }) rfl (fun K hK => ?_) AllReadyH.nil
                                  · skip
                                    go_simp
                                    refine hK.out _ _ (BxA.old U231 HBx.out) (fun _ => ?_)
                                    clear hK K
                                    (try simp only [Act.put]); (try simp only [List.setIfInBounds_toArray]); (try simp only [List.set_cons_succ]); (try simp only [List.set_cons_zero])
                                    refine wpAnyH_done (by kernel_rfl) ?_ _
                                    refine NoPanic.normal ?_
                                    have UZ := hid U231
                                    go_wp2
                                    go_ret
                                    exact ⟨rfl, OW.out.trans UZ.out⟩
                            · skip
                              refine bldD ?_ ?_ ?_
                              · rfl
                              · rfl
                              intro m235 x235 b235 s235
                              have U235 := U224.trans b235
                              refine hK.out _ _ (BxA.old U235 HBx.out) (fun _ => ?_)
                              clear hK K
                              (try simp only [Act.put]); (try simp only [List.setIfInBounds_toArray]); (try simp only [List.set_cons_succ]); (try simp only [List.set_cons_zero])
                              refine wpAnyH_ready (rs := [46]) (by kernel_rfl) (by simp) ?_
                              refine AllReadyH.cons (o := { dst := some 68, op := Op.call { callee := Callee.value (Operand.func 25), args := #[Operand.tmp 67, Operand.const (Value.int IntKind.i64 2)], argTypes := #[24, 3] }, type := 22, pos := "law.go:19", after := #[{ on := 45, ground := Ground.data }, { on := 44, ground := Ground.chain }, { on := 44, ground := Ground.guard }], guard := some (44, true) }) rfl (fun K hK => ?_) AllReadyH.nil
                              · skip
                                refine wantCall2 ?_ 25 (.tmp 67) (.const (.int .i64 2)) #[24, 3] ?_ (.agg #[.slice q1 3 e1, .slice q2 1 e2]) (.int .i64 2) ?_ ?_ ?_ ((enters_of Try.func25 (by kernel_rfl) rfl) _ _) ?_
                                · rfl
                                · rfl
                                · rfl
                                · rfl
                                · rfl
                                refine (othersA _ _ _ (R8.out.old U235) S6.out (R9.out.old U235) S7.out).mono ?_
                                rintro o x236 ⟨p236, c236, rfl, s236, b236⟩
                                refine ⟨_, rfl, ?_⟩
                                have r237 := s235.old b236
                                have U236 := U235.trans b236
                                refine hK.out _ _ (BxA.old U236 HBx.out) (fun _ => ?_)
                                clear hK K
                                (try simp only [Act.put]); (try simp only [List.setIfInBounds_toArray]); (try simp only [List.set_cons_succ]); (try simp only [List.set_cons_zero])
                                refine wpAnyH_ready (rs := [48]) (by kernel_rfl) (by simp) ?_
                                refine AllReadyH.cons (o := { dst := some 70, op := Op.call { callee := Callee.value (Operand.func 17), args := #[Operand.tmp 68, Operand.tmp 69], argTypes := #[22, 22] }, type := 4, pos := "law.go:19", after := #[{ on := 46, ground := Ground.data }, { on := 47, ground := Ground.data }, { on := 46, ground := Ground.chain }, { on := 44, ground := Ground.guard }], guard := some (44, true) }) rfl (fun K hK => ?_) AllReadyH.nil
                                · skip
                                  refine wantCall2 ?_ 17 (.tmp 68) (.tmp 69) #[22, 22] ?_ (.slice p236 3 c236) (.slice (some ⟨m235, 0, none⟩) 3 3) ?_ ?_ ?_ ((enters_of Try.func17 (by kernel_rfl) rfl) _ _) ?_
                                  · rfl
                                  · rfl
                                  · rfl
                                  · rfl
                                  · rfl
                                  refine (sameInts_eq _ _ 3 (gI [1, 3, 4]) _ s236 r237).mono ?_
                                  rintro o x238 ⟨rfl, b238⟩
                                  refine ⟨_, rfl, ?_⟩
                                  have r239 := r237.old b238
                                  have r240 := s236.old b238
                                  have U238 := U236.trans b238
                                  refine hK.out _ _ (BxA.old U238 HBx.out) (fun _ => ?_)
                                  clear hK K
                                  (try simp only [Act.put]); (try simp only [List.setIfInBounds_toArray]); (try simp only [List.set_cons_succ]); (try simp only [List.set_cons_zero])
                                  refine wpAnyH_take (i := 49) (oi := { dst := some 71, op := Op.pick (Operand.tmp 66) (Operand.tmp 70) (Operand.const (Value.bool false)), type := 4, pos := "law.go:19", after := #[{ on := 44, ground := Ground.data }, { on := 48, ground := Ground.data }], guard := none }) (v := ?vk241) rfl (by kernel_rfl) (by kernel_rfl) (by kernel_rfl) (fun _ _ _ h => h) (Or.inl ⟨by rfl, ?hk241⟩) (BxA.old U238 HBx.out) ?rk241
                                  case hk241 => (intro wz hSw; (try dsimp only at hSw); go_simp; try with_reducible rfl)
                                  (try simp only [Act.put]); (try simp only [List.setIfInBounds_toArray]); (try simp only [List.set_cons_succ]); (try simp only [List.set_cons_zero])
                                  refine wpAnyH_ready (rs := [50]) (by kernel_rfl) (by simp) ?_
                                  refine AllReadyH.cons (o := { dst := some 0, op := Op.assign (Operand.tmp 71), type := 4, pos := "law.go:19", after := #[{ on := 49, ground := Ground.data }, { on := 48, ground := Ground.chain }, { on := 0, ground := Ground.phase }, { on := 1, ground := Ground.phase }, { on := 2, ground := Ground.phase }, { on := 3, ground := Ground.phase }, { on := 4, ground := Ground.phase }, { on := 5, ground := Ground.phase }, { on := 6, ground := Ground.phase }, { on := 7, ground := Ground.phase }, { on := 8, ground := Ground.phase }, { on := 9, ground := Ground.phase }, { on := 10, ground := Ground.phase }, { on := 11, ground := Ground.phase }, { on := 12, ground := Ground.phase }, { on := 13, ground := Ground.phase }, { on := 14, ground := Ground.phase }, { on := 15, ground := Ground.phase }, { on := 16, ground := Ground.phase }, { on := 17, ground := Ground.phase }, { on := 18, ground := Ground.phase }, { on := 19, ground := Ground.phase }, { on := 20, ground := Ground.phase }, { on := 21, ground := Ground.phase }, { on := 22, ground := Ground.phase }, { on := 23, ground := Ground.phase }, { on := 24, ground := Ground.phase }, { on := 25, ground := Ground.phase }, { on := 26, ground := Ground.phase }, { on := 27, ground := Ground.phase }, { on := 28, ground := Ground.phase }, { on := 29, ground := Ground.phase }, { on := 30, ground := Ground.phase }, { on := 31, ground := Ground.phase }, { on := 32, ground := Ground.phase }, { on := 33, ground := Ground.phase }, { on := 34, ground := Ground.phase }, { on := 35, ground := Ground.phase }, { on := 36, ground := Ground.phase }, { on := 37, ground := Ground.phase }, { on := 38, ground := Ground.phase }, { on := 39, ground := Ground.phase }, { on := 40, ground := Ground.phase }, { on := 41, ground := Ground.phase }, { on := 42, ground := Ground.phase }, { on := 43, ground := Ground.phase }, { on := 44, ground := Ground.phase }, { on := 45, ground := Ground.phase }, { on := 46, ground := Ground.phase }, { on := 47, ground := Ground.phase }, { on := 48, ground := Ground.phase }, { on := 49, ground := Ground.phase }], guard := none }) rfl (fun K hK => ?_) AllReadyH.nil
                                  · skip
                                    go_simp
                                    refine hK.out _ _ (BxA.old U238 HBx.out) (fun _ => ?_)
                                    clear hK K
                                    (try simp only [Act.put]); (try simp only [List.setIfInBounds_toArray]); (try simp only [List.set_cons_succ]); (try simp only [List.set_cons_zero])
                                    refine wpAnyH_done (by kernel_rfl) ?_ _
                                    refine NoPanic.normal ?_
                                    have UZ := hid U238
                                    go_wp2
                                    go_ret
                                    exact ⟨rfl, OW.out.trans UZ.out⟩
end Go.Proofs.Ytcicefpcledmgaa
