/- The law SessBack at every two rows of Puts; conditions: the rows lie in memory. -/
import Derived.Test.YtefffjlcfghniaaS6
namespace Go.Proofs.Ytefffjlcfghniaa
open Go.RowKit Go.Lib
set_option linter.unusedVariables false
set_option linter.unusedSimpArgs false
set_option maxRecDepth 20000
/-- A Put in a box. -/
abbrev OpB (m : Nat) (p : Opv) (w : World) : Prop := w.cell? ⟨m, 0, none⟩ = some (.int .i64 p.s) ∧ w.cell? ⟨m, 1, none⟩ = some (.int .i64 p.x.n) ∧ w.cell? ⟨m, 2, none⟩ = some (.int .i64 p.x.c) ∧ w.cell? ⟨m, 3, none⟩ = some (.int .i64 p.x.m)
theorem OpB.old {m : Nat} {p : Opv} {w w' : World} (u : Old w w') (h : OpB m p w) : OpB m p w' := ⟨u.keep h.1, u.keep h.2.1, u.keep h.2.2.1, u.keep h.2.2.2⟩
theorem op_new (w : World) (p : Opv) (w1 : World) (e : w.alloc (.cells #[.int .i64 p.s, .int .i64 p.x.n, .int .i64 p.x.c, .int .i64 p.x.m] 30) = w1) (m : Nat) (hm : w.heap.size = m) : OpB m p w1 ∧ Old w w1 ∧ m < w1.heap.size := by
  subst e hm
  exact ⟨⟨by simp, by simp, by simp, by simp⟩, (Old.refl w).alloc _, by simp⟩
abbrev S8 (va vc ob : Nat) (c m : Int) (p : Opv) : World → Prop := fun wz => (wz.cell? ⟨va, 0, none⟩ = some (.int .i64 c) ∧ wz.cell? ⟨va, 1, none⟩ = some (.int .i64 m)) ∧ (wz.cell? ⟨vc, 0, none⟩ = some (.int .i64 c) ∧ wz.cell? ⟨vc, 1, none⟩ = some (.int .i64 m)) ∧ wz.cell? ⟨ob, 0, none⟩ = some (.int .i64 p.s) ∧ wz.cell? ⟨ob, 1, none⟩ = some (.int .i64 p.x.n) ∧ wz.cell? ⟨ob, 2, none⟩ = some (.int .i64 p.x.c) ∧ wz.cell? ⟨ob, 3, none⟩ = some (.int .i64 p.x.m)
theorem S8.old {va vc ob : Nat} {c m : Int} {p : Opv} {w w' : World} (u : Old w w') (h : S8 va vc ob c m p w) : S8 va vc ob c m p w' := ⟨⟨u.keep h.1.1, u.keep h.1.2⟩, ⟨u.keep h.2.1.1, u.keep h.2.1.2⟩, u.keep h.2.2.1, u.keep h.2.2.2.1, u.keep h.2.2.2.2.1, u.keep h.2.2.2.2.2⟩
theorem S8.chg {va vc ob : Nat} {c m : Int} {p : Opv} {w w' : World} {S : List Nat} (h : S8 va vc ob c m p w) (u : Chg S w w') (hn : va ∉ S ∧ vc ∉ S ∧ ob ∉ S) : S8 va vc ob c m p w' := ⟨⟨u.cell h.1.1 hn.1, u.cell h.1.2 hn.1⟩, ⟨u.cell h.2.1.1 hn.2.1, u.cell h.2.1.2 hn.2.1⟩, u.cell h.2.2.1 hn.2.2, u.cell h.2.2.2.1 hn.2.2, u.cell h.2.2.2.2.1 hn.2.2, u.cell h.2.2.2.2.2 hn.2.2⟩
theorem wantCall4 {P : Program} {ops : Array Oper} {o : Oper} {a : Act} {w : World} {K : Act → World → Prop} {Q : Exit → Act → World → Prop} {E : Prop} (hw : Region.wanted o (yielded ops a.tmps) = true) (F : FuncId) (x1 x2 x3 x4 : Operand) (ts : Array TypeId)
    (hop : o.op = Op.call { callee := Callee.value (Operand.func F), args := #[x1, x2, x3, x4], argTypes := ts }) (v1 v2 v3 v4 : Value) (h1 : a.eval x1 = v1) (h2 : a.eval x2 = v2) (h3 : a.eval x3 = v3) (h4 : a.eval x4 = v4) (hF : a.eval (Operand.func F) = .func (.func F) #[] #[])
    (henter : (callFunc F #[v1, v2, v3, v4]).run P w = .ok (.enter F #[v1, v2, v3, v4]) w)
    (hc : Calls P F #[v1, v2, v3, v4] w fun e w' => ∃ r, e = .returned r ∧ K (a.put o.dst r) w') :
    if Region.wanted o (yielded ops a.tmps) = true then Oper.wp P o a w K Q else E := by
  rw [if_pos hw]
  unfold Oper.wp
  simp [execOp, hop, resolve, invoke, h1, h2, h3, h4, hF, Deferred.ofValue]
  rw [henter]
  refine hc.mono ?_
  rintro e w' ⟨r, rfl, hk⟩
  exact hk
theorem sameBytesL (v u : Value) (L : List Nat) (w : World) (h1 : Pk.ByRow w v L.length (Pk.gd L)) (h2 : Pk.ByRow w u L.length (Pk.gd L)) : Calls Try.prog 12 #[v, u] w fun e w' => e = .returned (.bool true) ∧ Old w w' :=
  (Pk.sameBytes_eq v u L.length (Pk.gd L) (Pk.gd L) w h1 h2 (fun _ _ => rfl)).mono fun e w' h => ⟨h.1, by obtain ⟨m, q⟩ := h.2; rw [q]; exact (Old.refl w).drewN m⟩
theorem OwnL.old' {base : Nat} {w w' : World} {v : Value} {L : List Nat} (h : Pk.OwnL base w v L) (u : Old w w') : Pk.OwnL base w' v L := by
  refine ⟨⟨h.own.1, ?_⟩, h.lt⟩
  rcases h.own.2 with e | ⟨g, cap, cur, e, hb', hg, r⟩
  · exact .inl e
  · exact .inr ⟨g, cap, cur, e, hb', u.block hg, r⟩
theorem TabIs.nil {w : World} {tb : Nat} {Bs : List Nat} {ks : List Int} {L : Int → List It} (h : TabIs w tb Bs ks L) : ∀ k, k ∉ ks → L k = [] := by
  obtain ⟨mb, M, _, _, _, _, _, _, _, _, h9⟩ := h
  exact h9
set_option maxHeartbeats 8000000 in
set_option maxRecDepth 20000 in
theorem backLaw (v v' : Value) (n n' : Nat) (f f' : Nat → Opv) (w : World) (hv : ORow w v n f) (hv' : ORow w v' n' f') : Calls Try.prog 3 #[v, v'] w fun e w' => e = .returned (.bool true) ∧ Old w w' := by
  obtain ⟨hm, a, c, rfl, hnc, hc⟩ := hv
  obtain ⟨hm', a', c', rfl, hnc', hc'⟩ := hv'
  have HC := hid hc
  have HC' := hid hc'
  have l0 : (n : Int) ≤ 9223372036854775807 := by omega
  have l0' : (n' : Int) ≤ 9223372036854775807 := by omega
  clear hc hm hnc hc' hm' hnc'
  go_enter Try.func3, Try.ntmps3
  go_upto_region 5 with (first | (go_at_call 6; refine (newT_any _).mono ?_; rintro e w2 ⟨tb, mb, rfl, t2⟩; have T2 := hid t2; clear t2) | (go_at_call 7; refine (alive_any _).mono ?_; rintro e w3 ⟨rfl, u3⟩; have T3 := hid (T2.out.up u3); clear u3))
  clear T2
  go_loopw [25] (fun i wr => ∃ (k : Nat) (Bs : List Nat) (ks : List Int) (L : Int → List It), k ≤ n ∧ i = .int .i64 (k : Nat) ∧ Tab w wr tb Bs ks L ∧ VOk L) (fun i _ => n - (intOf i).toNat)
  case atStart => exact ⟨0, _, _, _, Nat.zero_le _, rfl, T3.out, VOk.none⟩
  case round =>
    obtain ⟨k, Bs, ks, L, hk, rfl, hT, hV⟩ := hrel
    clear T3
    have T := hid hT
    have V := hid hV
    clear hT hV
    by_cases hlt : k < n
    · obtain ⟨b, off, ea, hN, hI⟩ := HC.out k hlt
      subst ea
      obtain ⟨z0, z1, z2, z3⟩ := hI.old T.out.old
      have HNo := hid hN
      have l1 : (0 : Int) ≤ (k : Int) := by omega
      have l2 : (k : Int) < (n : Int) := by omega
      clear hI hN HC
      generalize f k = op at *
      go_upto_region 7 with fail
      generalize hw5 : wr.alloc (.cells #[.int .i64 op.s, .int .i64 op.x.n, .int .i64 op.x.c, .int .i64 op.x.m] 30) = w5 at *
      obtain ⟨hb5, hu5, hl5⟩ := op_new wr op w5 hw5 _ rfl
      generalize wr.heap.size = ob at *
      have T5 := hid (T.out.up hu5)
      obtain ⟨y0, y1, y2, y3⟩ := hb5
      clear hw5 hu5 hl5 T z0 z1 z2 z3
      have HPo := hid (putU_any w tb Bs ks L op.s op.x w5 T5.out HNo.out.1 HNo.out.2)
      go_wp2_with (go_at_call 8; refine HPo.out.mono ?_; rintro e w6 ⟨rfl, Bs6, t6, _, _⟩; have T6 := hid t6; clear t6)
      go_roundw
      case rel => exact ⟨k + 1, Bs6, _, _, hlt, by go_num, T6.out, V.out.pl⟩
      case measure => simp [intOf]; omega
    · obtain rfl : k = n := by omega
      have HBy := hid (bytes_any tb Bs ks L wr T.out.tab T.out.ok V.out)
      have HLd := hid (fun (S : List Int) (W : World) (vv : Value) (hB : Pk.ByRow W vv (numB (tabN L S S.length)).length (Pk.gd (numB (tabN L S S.length)))) (hp : S.Perm ks) (hs : S.Pairwise (· ≤ ·)) => load_ok L S W vv hB (by have := hp.length_eq; have := T.out.ok.many; omega) (strict_of hp T.out.tab.nod hs) (fun z hz => T.out.ok.rng z (hp.mem_iff.1 hz)) (fun z hz => kp_of T.out.ok V.out z (hp.mem_iff.1 hz)))
      have HFu := hid (fun (S : List Int) (hp : S.Perm ks) => LT_full (L := L) (S := S) (fun k hk => T.out.tab.nil k (fun q => hk (hp.mem_iff.2 q))))
      clear HC
      go_upto_region 10 with (first | (go_at_call 10; refine HBy.out.mono ?_; rintro e w4 ⟨v4, S, rfl, hp4, hs4, o4, u4⟩; have P4 := hid hp4; have S4 := hid hs4; have O4 := hid o4; have U4 := hid u4; clear hp4 hs4 o4 u4) | (go_at_call 9; refine (HLd.out S _ _ O4.out.row P4.out S4.out).mono ?_; rintro e w5 ⟨ub, Bu, rfl, t5, b5, u5⟩; have T5 := hid t5; have B5 := hid b5; have U5 := hid u5; clear t5 b5 u5))
      have TW := hid (show Two w w5 tb ub Bs Bu ks S L from ⟨T.out.up (U4.out.trans U5.out), ⟨(T.out.old.trans (U4.out.trans U5.out)), by rw [← HFu.out S P4.out]; exact T5.out, ⟨by have := P4.out.length_eq; have := T.out.ok.many; omega, fun z hz => T.out.ok.rng z (P4.out.mem_iff.1 hz), fun z hz => T.out.ok.some z (P4.out.mem_iff.1 hz), T.out.ok.rise, T.out.ok.seq, T.out.ok.win, T.out.ok.len⟩, fun b hb => by have := (B5.out b hb).1; have := (T.out.old.trans U4.out).size; omega, fun b hb => (B5.out b hb).2⟩, P4.out, V.out, fun b hb q => by have h1 := (B5.out b hb).1; have h2 := T.out.lt b q; have h3 := U4.out.size; omega⟩)
      clear HBy HLd HFu T V O4 T5 B5 U4 U5 S4 P4
      go_upto_region 13 with (fail)
      go_loopw [52] (fun i wr => ∃ (k : Nat) (Bs Bu : List Nat) (ks ks' : List Int) (L : Int → List It), k ≤ n' ∧ i = .int .i64 (k : Nat) ∧ Two w wr tb ub Bs Bu ks ks' L) (fun i _ => n' - (intOf i).toNat)
      case atStart => exact ⟨0, _, _, _, _, _, Nat.zero_le _, rfl, TW.out⟩
      case round =>
        obtain ⟨k2, Bs, Bu, ks, ks', L, hk2, rfl, hT⟩ := hrel
        have T := hid hT
        clear hT TW
        by_cases hlt2 : k2 < n'
        · obtain ⟨b, off, ea, hN, hI⟩ := HC'.out k2 hlt2
          subst ea
          obtain ⟨z0, z1, z2, z3⟩ := hI.old T.out.t.old
          have HNo := hid hN
          have l1 : (0 : Int) ≤ (k2 : Int) := by omega
          have l2 : (k2 : Int) < (n' : Int) := by omega
          clear hI hN HC'
          generalize f' k2 = op at *
          go_upto_region 15 with fail
          generalize hw5 : wr.alloc (.cells #[.int .i64 op.s, .int .i64 op.x.n, .int .i64 op.x.c, .int .i64 op.x.m] 30) = w5 at *
          obtain ⟨hb5, hu5, hl5⟩ := op_new wr op w5 hw5 _ rfl
          have HOb := hid (show wr.heap.size ∉ Bs ∧ wr.heap.size ∉ Bu from ⟨fun q => by have := T.out.t.lt _ q; omega, fun q => by have := T.out.u.lt _ q; omega⟩)
          generalize wr.heap.size = ob at *
          have T5 := hid (T.out.up hu5)
          have B5 := hid hb5
          obtain ⟨y0, y1, y2, y3⟩ := hb5
          clear hw5 hu5 hl5 T z0 z1 z2 z3
          have HL1 := hid (look_any tb Bs ks L op.s op.x.n w5 T5.out.t.tab T5.out.t.ok HNo.out.1 HNo.out.2)
          have HL2 := hid (fun (W : World) (u : Old w5 W) => look_any ub Bu ks' L op.s op.x.n W (T5.out.u.tab.old u) T5.out.u.ok HNo.out.1 HNo.out.2)
          rw [lookC_perm T5.out.perm] at HL2
          have HPm := hid (putC_perm T5.out.perm L op.s op.x)
          generalize hlv : lookV L op.s op.x.n = lv at *
          generalize hlc : lookC ks L op.s op.x.n = lc at *
          clear hlv hlc
          go_upto_region 16 with (go_at_call 11; refine HL1.out.mono ?_; rintro e w6 ⟨rfl, u6⟩; have U6 := hid u6; clear u6)
          generalize hw7 : w6.alloc (.cells #[.int .i64 lv.1, .int .i64 lv.2] 28) = w8 at *
          obtain ⟨hv8, _, hu8⟩ := verd_new w6 lv.1 lv.2 w8 hw7 _ rfl
          have HVa := hid (show w6.heap.size ∉ Bs ∧ w6.heap.size ∉ Bu from ⟨fun q => by have := T5.out.t.lt _ q; have := U6.out.size; omega, fun q => by have := T5.out.u.lt _ q; have := U6.out.size; omega⟩)
          generalize w6.heap.size = va at *
          have U8 := hid (U6.out.trans hu8)
          have V8 := hid hv8
          clear hw7 hv8 hu8 U6 HL1 y0 y1 y2 y3
          obtain ⟨y0, y1, y2, y3⟩ := OpB.old U8.out B5.out
          go_upto_region 17 with (go_at_call 11; refine (HL2.out _ U8.out).mono ?_; rintro e w9 ⟨rfl, u9⟩; have U9 := hid u9; clear u9)
          generalize hwa : w9.alloc (.cells #[.int .i64 lv.1, .int .i64 lv.2] 28) = w7 at *
          obtain ⟨hva, _, hua⟩ := verd_new w9 lv.1 lv.2 w7 hwa _ rfl
          have HVc := hid (show w9.heap.size ∉ Bs ∧ w9.heap.size ∉ Bu from ⟨fun q => by have := T5.out.t.lt _ q; have := (U8.out.trans U9.out).size; omega, fun q => by have := T5.out.u.lt _ q; have := (U8.out.trans U9.out).size; omega⟩)
          generalize w9.heap.size = vc at *
          have UA := hid (U9.out.trans hua)
          have HS8 := hid (show S8 va vc ob lv.1 lv.2 op w7 from ⟨⟨UA.out.keep V8.out.1, UA.out.keep V8.out.2⟩, hva, OpB.old (U8.out.trans UA.out) B5.out⟩)
          have T7 := hid (T5.out.up (U8.out.trans UA.out))
          have HF1 := hid (And.intro HVa.out.1 (And.intro HVc.out.1 HOb.out.1))
          have HF2 := hid (And.intro HVa.out.2 (And.intro HVc.out.2 HOb.out.2))
          clear hwa hva hua U9 HL2 y0 y1 y2 y3 U8 V8 UA T5 B5 HVa HVc HOb
          refine wp_region_noPanic ?_
          refine wp_region_held_drew (S := S8 va vc ob lv.1 lv.2 op) (by kernel_rfl) ?_ (fun hHeld => ?_)
          · exact S8.old ((Old.refl w7).drew) HS8.out
          (try simp only [Act.put]); (try simp only [List.setIfInBounds_toArray]); (try simp only [List.set_cons_succ]); (try simp only [List.set_cons_zero])
          clear hHeld
          refine wpAnyH_take (i := 0) (oi := { dst := some 74, op := Op.load 28 (Operand.tmp 12), type := 28, pos := "law.go:114", after := #[], guard := none }) (v := ?vk1) rfl (by kernel_rfl) (by kernel_rfl) (by kernel_rfl) (fun _ _ _ h => h) (Or.inl ⟨by rfl, ?hk1⟩) (S8.old ((Old.refl w7).drew) HS8.out) ?rk1
          case hk1 => (intro wz hSw; (try dsimp only at hSw); go_simp; try with_reducible rfl)
          (try simp only [Act.put]); (try simp only [List.setIfInBounds_toArray]); (try simp only [List.set_cons_succ]); (try simp only [List.set_cons_zero])
          refine wpAnyH_take (i := 1) (oi := { dst := some 75, op := Op.load 28 (Operand.tmp 14), type := 28, pos := "law.go:114", after := #[], guard := none }) (v := ?vk2) rfl (by kernel_rfl) (by kernel_rfl) (by kernel_rfl) (fun _ _ _ h => h) (Or.inl ⟨by rfl, ?hk2⟩) (S8.old ((Old.refl w7).drew) HS8.out) ?rk2
          case hk2 => (intro wz hSw; (try dsimp only at hSw); go_simp; try with_reducible rfl)
          (try simp only [Act.put]); (try simp only [List.setIfInBounds_toArray]); (try simp only [List.set_cons_succ]); (try simp only [List.set_cons_zero])
          refine wpAnyH_take (i := 2) (oi := { dst := some 76, op := Op.binOp BinOp.neq 28 (Operand.tmp 74) (Operand.tmp 75) 28, type := 4, pos := "law.go:114", after := #[{ on := 0, ground := Ground.data }, { on := 1, ground := Ground.data }], guard := none }) (v := ?vk3) rfl (by kernel_rfl) (by kernel_rfl) (by kernel_rfl) (fun _ _ _ h => h) (Or.inl ⟨by rfl, ?hk3⟩) (S8.old ((Old.refl w7).drew) HS8.out) ?rk3
          case hk3 => (intro wz hSw; (try dsimp only at hSw); go_simp; try with_reducible rfl)
          (try simp only [Act.put]); (try simp only [List.setIfInBounds_toArray]); (try simp only [List.set_cons_succ]); (try simp only [List.set_cons_zero])
          refine wpAnyH_take (i := 3) (oi := { dst := some 77, op := Op.move (Operand.tmp 76), type := 4, pos := "law.go:114", after := #[{ on := 2, ground := Ground.data }], guard := none }) (v := ?vk4) rfl (by kernel_rfl) (by kernel_rfl) (by kernel_rfl) (fun _ _ _ h => h) (Or.inl ⟨by rfl, ?hk4⟩) (S8.old ((Old.refl w7).drew) HS8.out) ?rk4
          case hk4 => (intro wz hSw; (try dsimp only at hSw); go_simp; try with_reducible rfl)
          (try simp only [Act.put]); (try simp only [List.setIfInBounds_toArray]); (try simp only [List.set_cons_succ]); (try simp only [List.set_cons_zero])
          refine wpAnyH_take (i := 4) (oi := { dst := some 78, op := Op.move (Operand.tmp 13), type := 26, pos := "law.go:114", after := #[{ on := 3, ground := Ground.guard }], guard := some (3, false) }) (v := ?vk5) rfl (by kernel_rfl) (by kernel_rfl) (by kernel_rfl) (fun _ _ _ h => h) (Or.inl ⟨by rfl, ?hk5⟩) (S8.old ((Old.refl w7).drew) HS8.out) ?rk5
          case hk5 => (intro wz hSw; (try dsimp only at hSw); go_simp; try with_reducible rfl)
          (try simp only [Act.put]); (try simp only [List.setIfInBounds_toArray]); (try simp only [List.set_cons_succ]); (try simp only [List.set_cons_zero])
          refine wpAnyH_take (i := 5) (oi := { dst := some 79, op := Op.move (Operand.tmp 15), type := 26, pos := "law.go:114", after := #[{ on := 3, ground := Ground.guard }], guard := some (3, false) }) (v := ?vk6) rfl (by kernel_rfl) (by kernel_rfl) (by kernel_rfl) (fun _ _ _ h => h) (Or.inl ⟨by rfl, ?hk6⟩) (S8.old ((Old.refl w7).drew) HS8.out) ?rk6
          case hk6 => (intro wz hSw; (try dsimp only at hSw); go_simp; try with_reducible rfl)
          (try simp only [Act.put]); (try simp only [List.setIfInBounds_toArray]); (try simp only [List.set_cons_succ]); (try simp only [List.set_cons_zero])
          refine wpAnyH_take (i := 6) (oi := { dst := some 80, op := Op.binOp BinOp.neq 26 (Operand.tmp 78) (Operand.tmp 79) 26, type := 4, pos := "law.go:114", after := #[{ on := 4, ground := Ground.data }, { on := 5, ground := Ground.data }, { on := 3, ground := Ground.guard }], guard := some (3, false) }) (v := ?vk7) rfl (by kernel_rfl) (by kernel_rfl) (by kernel_rfl) (fun _ _ _ h => h) (Or.inl ⟨by rfl, ?hk7⟩) (S8.old ((Old.refl w7).drew) HS8.out) ?rk7
          case hk7 => (intro wz hSw; (try dsimp only at hSw); go_simp; try with_reducible rfl)
          (try simp only [Act.put]); (try simp only [List.setIfInBounds_toArray]); (try simp only [List.set_cons_succ]); (try simp only [List.set_cons_zero])
          refine wpAnyH_take (i := 7) (oi := { dst := some 81, op := Op.pick (Operand.tmp 77) (Operand.const (Value.bool true)) (Operand.tmp 80), type := 4, pos := "law.go:114", after := #[{ on := 3, ground := Ground.data }, { on := 6, ground := Ground.data }], guard := none }) (v := ?vk8) rfl (by kernel_rfl) (by kernel_rfl) (by kernel_rfl) (fun _ _ _ h => h) (Or.inl ⟨by rfl, ?hk8⟩) (S8.old ((Old.refl w7).drew) HS8.out) ?rk8
          case hk8 => (intro wz hSw; (try dsimp only at hSw); go_simp; try with_reducible rfl)
          (try simp only [Act.put]); (try simp only [List.setIfInBounds_toArray]); (try simp only [List.set_cons_succ]); (try simp only [List.set_cons_zero])
          refine wpAnyH_take (i := 8) (oi := { dst := some 82, op := Op.move (Operand.tmp 81), type := 4, pos := "law.go:114", after := #[{ on := 7, ground := Ground.data }, { on := 3, ground := Ground.chain }], guard := none }) (v := ?vk9) rfl (by kernel_rfl) (by kernel_rfl) (by kernel_rfl) (fun _ _ _ h => h) (Or.inl ⟨by rfl, ?hk9⟩) (S8.old ((Old.refl w7).drew) HS8.out) ?rk9
          case hk9 => (intro wz hSw; (try dsimp only at hSw); go_simp; try with_reducible rfl)
          (try simp only [Act.put]); (try simp only [List.setIfInBounds_toArray]); (try simp only [List.set_cons_succ]); (try simp only [List.set_cons_zero])
          refine wpAnyH_take (i := 9) (oi := { dst := some 83, op := Op.move (Operand.tmp 5), type := 23, pos := "law.go:114", after := #[{ on := 8, ground := Ground.guard }], guard := some (8, false) }) (v := ?vk10) rfl (by kernel_rfl) (by kernel_rfl) (by kernel_rfl) (fun _ _ _ h => h) (Or.inl ⟨by rfl, ?hk10⟩) (S8.old ((Old.refl w7).drew) HS8.out) ?rk10
          case hk10 => (intro wz hSw; (try dsimp only at hSw); go_simp; try with_reducible rfl)
          (try simp only [Act.put]); (try simp only [List.setIfInBounds_toArray]); (try simp only [List.set_cons_succ]); (try simp only [List.set_cons_zero])
          refine wpAnyH_take (i := 10) (oi := { dst := some 84, op := Op.fieldAddr 30 (Operand.tmp 11) 0, type := 0, pos := "law.go:114", after := #[{ on := 8, ground := Ground.guard }], guard := some (8, false) }) (v := ?vk11) rfl (by kernel_rfl) (by kernel_rfl) (by kernel_rfl) (fun _ _ _ h => h) (Or.inl ⟨by rfl, ?hk11⟩) (S8.old ((Old.refl w7).drew) HS8.out) ?rk11
          case hk11 => (intro wz hSw; (try dsimp only at hSw); go_simp; try with_reducible rfl)
          (try simp only [Act.put]); (try simp only [List.setIfInBounds_toArray]); (try simp only [List.set_cons_succ]); (try simp only [List.set_cons_zero])
          refine wpAnyH_take (i := 11) (oi := { dst := some 85, op := Op.load 2 (Operand.tmp 84), type := 2, pos := "law.go:114", after := #[{ on := 10, ground := Ground.data }, { on := 8, ground := Ground.guard }], guard := some (8, false) }) (v := ?vk12) rfl (by kernel_rfl) (by kernel_rfl) (by kernel_rfl) (fun _ _ _ h => h) (Or.inl ⟨by rfl, ?hk12⟩) (S8.old ((Old.refl w7).drew) HS8.out) ?rk12
          case hk12 => (intro wz hSw; (try dsimp only at hSw); go_simp; try with_reducible rfl)
          (try simp only [Act.put]); (try simp only [List.setIfInBounds_toArray]); (try simp only [List.set_cons_succ]); (try simp only [List.set_cons_zero])
          refine wpAnyH_take (i := 12) (oi := { dst := some 86, op := Op.fieldAddr 30 (Operand.tmp 11) 1, type := 0, pos := "law.go:114", after := #[{ on := 8, ground := Ground.guard }], guard := some (8, false) }) (v := ?vk13) rfl (by kernel_rfl) (by kernel_rfl) (by kernel_rfl) (fun _ _ _ h => h) (Or.inl ⟨by rfl, ?hk13⟩) (S8.old ((Old.refl w7).drew) HS8.out) ?rk13
          case hk13 => (intro wz hSw; (try dsimp only at hSw); go_simp; try with_reducible rfl)
          (try simp only [Act.put]); (try simp only [List.setIfInBounds_toArray]); (try simp only [List.set_cons_succ]); (try simp only [List.set_cons_zero])
          refine wpAnyH_take (i := 13) (oi := { dst := some 87, op := Op.load 2 (Operand.tmp 86), type := 2, pos := "law.go:114", after := #[{ on := 12, ground := Ground.data }, { on := 8, ground := Ground.guard }], guard := some (8, false) }) (v := ?vk14) rfl (by kernel_rfl) (by kernel_rfl) (by kernel_rfl) (fun _ _ _ h => h) (Or.inl ⟨by rfl, ?hk14⟩) (S8.old ((Old.refl w7).drew) HS8.out) ?rk14
          case hk14 => (intro wz hSw; (try dsimp only at hSw); go_simp; try with_reducible rfl)
          (try simp only [Act.put]); (try simp only [List.setIfInBounds_toArray]); (try simp only [List.set_cons_succ]); (try simp only [List.set_cons_zero])
          refine wpAnyH_take (i := 14) (oi := { dst := some 88, op := Op.fieldAddr 30 (Operand.tmp 11) 2, type := 0, pos := "law.go:114", after := #[{ on := 8, ground := Ground.guard }], guard := some (8, false) }) (v := ?vk15) rfl (by kernel_rfl) (by kernel_rfl) (by kernel_rfl) (fun _ _ _ h => h) (Or.inl ⟨by rfl, ?hk15⟩) (S8.old ((Old.refl w7).drew) HS8.out) ?rk15
          case hk15 => (intro wz hSw; (try dsimp only at hSw); go_simp; try with_reducible rfl)
          (try simp only [Act.put]); (try simp only [List.setIfInBounds_toArray]); (try simp only [List.set_cons_succ]); (try simp only [List.set_cons_zero])
          refine wpAnyH_take (i := 15) (oi := { dst := some 89, op := Op.load 28 (Operand.tmp 88), type := 28, pos := "law.go:114", after := #[{ on := 14, ground := Ground.data }, { on := 8, ground := Ground.guard }], guard := some (8, false) }) (v := ?vk16) rfl (by kernel_rfl) (by kernel_rfl) (by kernel_rfl) (fun _ _ _ h => h) (Or.inl ⟨by rfl, ?hk16⟩) (S8.old ((Old.refl w7).drew) HS8.out) ?rk16
          case hk16 => (intro wz hSw; (try dsimp only at hSw); go_simp; try with_reducible rfl)
          (try simp only [Act.put]); (try simp only [List.setIfInBounds_toArray]); (try simp only [List.set_cons_succ]); (try simp only [List.set_cons_zero])
          refine wpAnyH_take (i := 17) (oi := { dst := some 91, op := Op.move (Operand.tmp 8), type := 23, pos := "law.go:114", after := #[{ on := 8, ground := Ground.guard }], guard := some (8, false) }) (v := ?vk17) rfl (by kernel_rfl) (by kernel_rfl) (by kernel_rfl) (fun _ _ _ h => h) (Or.inl ⟨by rfl, ?hk17⟩) (S8.old ((Old.refl w7).drew) HS8.out) ?rk17
          case hk17 => (intro wz hSw; (try dsimp only at hSw); go_simp; try with_reducible rfl)
          (try simp only [Act.put]); (try simp only [List.setIfInBounds_toArray]); (try simp only [List.set_cons_succ]); (try simp only [List.set_cons_zero])
          refine wpAnyH_take (i := 18) (oi := { dst := some 92, op := Op.fieldAddr 30 (Operand.tmp 11) 0, type := 0, pos := "law.go:114", after := #[{ on := 8, ground := Ground.guard }], guard := some (8, false) }) (v := ?vk18) rfl (by kernel_rfl) (by kernel_rfl) (by kernel_rfl) (fun _ _ _ h => h) (Or.inl ⟨by rfl, ?hk18⟩) (S8.old ((Old.refl w7).drew) HS8.out) ?rk18
          case hk18 => (intro wz hSw; (try dsimp only at hSw); go_simp; try with_reducible rfl)
          (try simp only [Act.put]); (try simp only [List.setIfInBounds_toArray]); (try simp only [List.set_cons_succ]); (try simp only [List.set_cons_zero])
          refine wpAnyH_take (i := 19) (oi := { dst := some 93, op := Op.load 2 (Operand.tmp 92), type := 2, pos := "law.go:114", after := #[{ on := 18, ground := Ground.data }, { on := 8, ground := Ground.guard }], guard := some (8, false) }) (v := ?vk19) rfl (by kernel_rfl) (by kernel_rfl) (by kernel_rfl) (fun _ _ _ h => h) (Or.inl ⟨by rfl, ?hk19⟩) (S8.old ((Old.refl w7).drew) HS8.out) ?rk19
          case hk19 => (intro wz hSw; (try dsimp only at hSw); go_simp; try with_reducible rfl)
          (try simp only [Act.put]); (try simp only [List.setIfInBounds_toArray]); (try simp only [List.set_cons_succ]); (try simp only [List.set_cons_zero])
          refine wpAnyH_take (i := 20) (oi := { dst := some 94, op := Op.fieldAddr 30 (Operand.tmp 11) 1, type := 0, pos := "law.go:114", after := #[{ on := 8, ground := Ground.guard }], guard := some (8, false) }) (v := ?vk20) rfl (by kernel_rfl) (by kernel_rfl) (by kernel_rfl) (fun _ _ _ h => h) (Or.inl ⟨by rfl, ?hk20⟩) (S8.old ((Old.refl w7).drew) HS8.out) ?rk20
          case hk20 => (intro wz hSw; (try dsimp only at hSw); go_simp; try with_reducible rfl)
          (try simp only [Act.put]); (try simp only [List.setIfInBounds_toArray]); (try simp only [List.set_cons_succ]); (try simp only [List.set_cons_zero])
          refine wpAnyH_take (i := 21) (oi := { dst := some 95, op := Op.load 2 (Operand.tmp 94), type := 2, pos := "law.go:114", after := #[{ on := 20, ground := Ground.data }, { on := 8, ground := Ground.guard }], guard := some (8, false) }) (v := ?vk21) rfl (by kernel_rfl) (by kernel_rfl) (by kernel_rfl) (fun _ _ _ h => h) (Or.inl ⟨by rfl, ?hk21⟩) (S8.old ((Old.refl w7).drew) HS8.out) ?rk21
          case hk21 => (intro wz hSw; (try dsimp only at hSw); go_simp; try with_reducible rfl)
          (try simp only [Act.put]); (try simp only [List.setIfInBounds_toArray]); (try simp only [List.set_cons_succ]); (try simp only [List.set_cons_zero])
          refine wpAnyH_take (i := 22) (oi := { dst := some 96, op := Op.fieldAddr 30 (Operand.tmp 11) 2, type := 0, pos := "law.go:114", after := #[{ on := 8, ground := Ground.guard }], guard := some (8, false) }) (v := ?vk22) rfl (by kernel_rfl) (by kernel_rfl) (by kernel_rfl) (fun _ _ _ h => h) (Or.inl ⟨by rfl, ?hk22⟩) (S8.old ((Old.refl w7).drew) HS8.out) ?rk22
          case hk22 => (intro wz hSw; (try dsimp only at hSw); go_simp; try with_reducible rfl)
          (try simp only [Act.put]); (try simp only [List.setIfInBounds_toArray]); (try simp only [List.set_cons_succ]); (try simp only [List.set_cons_zero])
          refine wpAnyH_take (i := 23) (oi := { dst := some 97, op := Op.load 28 (Operand.tmp 96), type := 28, pos := "law.go:114", after := #[{ on := 22, ground := Ground.data }, { on := 8, ground := Ground.guard }], guard := some (8, false) }) (v := ?vk23) rfl (by kernel_rfl) (by kernel_rfl) (by kernel_rfl) (fun _ _ _ h => h) (Or.inl ⟨by rfl, ?hk23⟩) (S8.old ((Old.refl w7).drew) HS8.out) ?rk23
          case hk23 => (intro wz hSw; (try dsimp only at hSw); go_simp; try with_reducible rfl)
          (try simp only [Act.put]); (try simp only [List.setIfInBounds_toArray]); (try simp only [List.set_cons_succ]); (try simp only [List.set_cons_zero])
          refine wpAnyH_ready (rs := [16]) (by kernel_rfl) (by simp) ?_
          refine AllReadyH.cons (o := { dst := some 90, op := Op.call { callee := Callee.value (Operand.func 8), args := #[Operand.tmp 83, Operand.tmp 85, Operand.tmp 87, Operand.tmp 89], argTypes := #[23, 2, 2, 28] }, type := 26, pos := "law.go:114", after := #[{ on := 9, ground := Ground.data }, { on := 11, ground := Ground.data }, { on := 13, ground := Ground.data }, { on := 15, ground := Ground.data }, { on := 8, ground := Ground.chain }, { on := 8, ground := Ground.guard }], guard := some (8, false) }) rfl (fun K hK => ?_) AllReadyH.nil
          · skip
            refine wantCall4 ?_ 8 (.tmp 83) (.tmp 85) (.tmp 87) (.tmp 89) #[23, 2, 2, 28] ?_ (.pointer (some ⟨tb, 0, none⟩)) (.int .i64 op.s) (.int .i64 op.x.n) (.agg #[.int .i64 op.x.c, .int .i64 op.x.m]) ?_ ?_ ?_ ?_ ?_ (enters_of Try.func8 (by kernel_rfl) rfl _ _) ?_
            · rfl
            · rfl
            · rfl
            · rfl
            · rfl
            · rfl
            · rfl
            refine (putU_any w tb Bs ks L op.s op.x _ (T7.out.t.up ((Old.refl w7).drew)) HNo.out.1 HNo.out.2).mono ?_
            rintro o xa ⟨rfl, Bs1, t1, c1, a1⟩
            refine ⟨_, rfl, ?_⟩
            have TA := hid t1
            have ON := hid ((T7.out.up ((Old.refl w7).drew)).one t1 c1 a1)
            have SA : S8 va vc ob lv.1 lv.2 op xa := S8.chg (S8.old ((Old.refl w7).drew) HS8.out) c1 HF1.out
            have Z1 := hid c1.size
            clear t1 c1 a1
            refine hK.out _ _ SA (fun _ => ?_)
            clear hK K
            (try simp only [Act.put]); (try simp only [List.setIfInBounds_toArray]); (try simp only [List.set_cons_succ]); (try simp only [List.set_cons_zero])
            refine wpAnyH_ready (rs := [24]) (by kernel_rfl) (by simp) ?_
            refine AllReadyH.cons (o := { dst := some 98, op := Op.call { callee := Callee.value (Operand.func 8), args := #[Operand.tmp 91, Operand.tmp 93, Operand.tmp 95, Operand.tmp 97], argTypes := #[23, 2, 2, 28] }, type := 26, pos := "law.go:114", after := #[{ on := 17, ground := Ground.data }, { on := 19, ground := Ground.data }, { on := 21, ground := Ground.data }, { on := 23, ground := Ground.data }, { on := 16, ground := Ground.chain }, { on := 8, ground := Ground.guard }], guard := some (8, false) }) rfl (fun K hK => ?_) AllReadyH.nil
            · skip
              refine wantCall4 ?_ 8 (.tmp 91) (.tmp 93) (.tmp 95) (.tmp 97) #[23, 2, 2, 28] ?_ (.pointer (some ⟨ub, 0, none⟩)) (.int .i64 op.s) (.int .i64 op.x.n) (.agg #[.int .i64 op.x.c, .int .i64 op.x.m]) ?_ ?_ ?_ ?_ ?_ (enters_of Try.func8 (by kernel_rfl) rfl _ _) ?_
              · rfl
              · rfl
              · rfl
              · rfl
              · rfl
              · rfl
              · rfl
              have HU2 := putU_any w ub Bu ks' L op.s op.x _ ON.out.1 HNo.out.1 HNo.out.2
              rw [HPm.out] at HU2
              refine HU2.mono ?_
              clear HU2
              rintro o xb ⟨rfl, Bu1, t2, c2, a2⟩
              refine ⟨_, rfl, ?_⟩
              have TW := hid ((T7.out.up ((Old.refl w7).drew)).two TA.out ON.out.1 ON.out.2 t2 c2 a2)
              have SB : S8 va vc ob lv.1 lv.2 op xb := S8.chg SA c2 HF2.out
              clear t2 c2 a2
              refine hK.out _ _ SB (fun _ => ?_)
              clear hK K
              (try simp only [Act.put]); (try simp only [List.setIfInBounds_toArray]); (try simp only [List.set_cons_succ]); (try simp only [List.set_cons_zero])
              refine wpAnyH_take (i := 25) (oi := { dst := some 99, op := Op.binOp BinOp.neq 26 (Operand.tmp 90) (Operand.tmp 98) 26, type := 4, pos := "law.go:114", after := #[{ on := 16, ground := Ground.data }, { on := 24, ground := Ground.data }, { on := 8, ground := Ground.guard }], guard := some (8, false) }) (v := ?vk24) rfl (by kernel_rfl) (by kernel_rfl) (by kernel_rfl) (fun _ _ _ h => h) (Or.inl ⟨by rfl, ?hk24⟩) SB ?rk24
              case hk24 => (intro wz hSw; (try dsimp only at hSw); go_simp; try with_reducible rfl)
              (try simp only [Act.put]); (try simp only [List.setIfInBounds_toArray]); (try simp only [List.set_cons_succ]); (try simp only [List.set_cons_zero])
              refine wpAnyH_take (i := 26) (oi := { dst := some 100, op := Op.pick (Operand.tmp 82) (Operand.const (Value.bool true)) (Operand.tmp 99), type := 4, pos := "law.go:114", after := #[{ on := 8, ground := Ground.data }, { on := 25, ground := Ground.data }], guard := none }) (v := ?vk25) rfl (by kernel_rfl) (by kernel_rfl) (by kernel_rfl) (fun _ _ _ h => h) (Or.inl ⟨by rfl, ?hk25⟩) SB ?rk25
              case hk25 => (intro wz hSw; (try dsimp only at hSw); go_simp; try with_reducible rfl)
              (try simp only [Act.put]); (try simp only [List.setIfInBounds_toArray]); (try simp only [List.set_cons_succ]); (try simp only [List.set_cons_zero])
              refine wpAnyH_done (by kernel_rfl) ?_ _
              refine NoPanic.normal ?_
              go_wp2
              go_roundw
              case rel => exact ⟨k2 + 1, Bs1, Bu1, _, _, _, hlt2, by go_num, TW.out⟩
              case measure => simp [intOf]; omega
        · obtain rfl : k2 = n' := by omega
          have HB1 := hid (bytes_any tb Bs ks L wr T.out.t.tab T.out.t.ok T.out.vo)
          have HB2 := hid (fun (W : World) (u : Old wr W) => bytes_any ub Bu ks' L W (T.out.u.tab.old u) T.out.u.ok T.out.vo)
          have HPm := hid T.out.perm
          have TO := hid T.out.t.old
          clear HC' T
          go_wp2_with (first | (go_at_call 10; refine HB1.out.mono ?_; rintro e w4 ⟨v4, S1, rfl, hp4, hs4, o4, u4⟩; have P4 := hid hp4; have Q4 := hid hs4; have O4 := hid o4; have U4 := hid u4; clear hp4 hs4 o4 u4 HB1) | (go_at_call 10; refine (HB2.out _ U4.out).mono ?_; rintro e w5 ⟨v5, S2', rfl, hp5, hs5, o5, u5⟩; have ES := hid (sort_one P4.out hp5 HPm.out Q4.out hs5); have O5 := hid o5; have U5 := hid u5; clear hp5 hs5 o5 u5) | (go_at_call 12; refine (sameBytesL _ _ _ _ (OwnL.old' O4.out U5.out).row (by rw [ES.out]; exact O5.out.row)).mono ?_; rintro e w6 ⟨rfl, u6⟩; have U6 := hid u6; clear u6))
          go_ret
          exact ⟨rfl, ((TO.out.trans U4.out).trans U5.out).trans U6.out⟩
end Go.Proofs.Ytefffjlcfghniaa
