/- The law SessPlays, of layer 13: a table and the document's answer the same, in every order of calls. -/
import Derived.Test.YtgmoddfpinjofaaS14
namespace Go.Proofs.Ytgmoddfpinjofaa
open Go.RowKit Go.Lib
set_option linter.unusedVariables false
set_option linter.unusedSimpArgs false
set_option maxRecDepth 20000
/-- The document's table in its variable, apart from the program's. -/
structure Doc (w0 W : World) (mb : Nat) (Bs : List Nat) (p : Option Addr) (c : Nat) (T : List Opv) : Prop where
  cell : W.cell? ⟨mb, 0, none⟩ = some (.slice p T.length c)
  free : W.frozen? ⟨mb, 0, none⟩ = false
  new : w0.heap.size ≤ mb
  ap : mb ∉ Bs
  row : RRow W (.slice p T.length c) T
  far : 0 < T.length → ∀ b, (Value.slice p T.length c).ownBlock = some b → b ∉ Bs ∧ b ≠ mb
theorem Doc.up {w0 W W' : World} {mb : Nat} {Bs : List Nat} {p : Option Addr} {c : Nat} {T : List Opv} (h : Doc w0 W mb Bs p c T) (u : Old W W') : Doc w0 W' mb Bs p c T := ⟨u.keep h.cell, u.keepF h.cell h.free, h.new, h.ap, h.row.old u, h.far⟩
theorem Doc.lt {w0 W : World} {mb : Nat} {Bs : List Nat} {p : Option Addr} {c : Nat} {T : List Opv} (h : Doc w0 W mb Bs p c T) : mb < W.heap.size := World.block_lt_of_cell? W ⟨mb, 0, none⟩ h.cell
theorem Doc.chg {w0 W W' : World} {mb : Nat} {Bs Bs' : List Nat} {p : Option Addr} {c : Nat} {T : List Opv} (h : Doc w0 W mb Bs p c T) (u : Chg Bs W W') (a : ∀ m, Apart W m Bs → Apart W' m Bs') : Doc w0 W' mb Bs' p c T := by
  refine ⟨u.cell h.cell h.ap, ?_, h.new, (a mb ⟨h.lt, h.ap⟩).2, ?_, fun h0 b e => ?_⟩
  · have := u.block mb h.lt h.ap
    have q := h.free
    simp only [World.frozen?] at *
    rw [this]
    exact q
  · obtain ⟨h1, p', c', e, hc⟩ := h.row
    cases e
    refine ⟨h1, p, c, rfl, fun i hi => ?_⟩
    obtain ⟨b, rfl, q0, q1, q2, q3⟩ := hc i hi
    have hn := (h.far (by omega) b rfl).1
    exact ⟨b, rfl, u.cell q0 hn, u.cell q1 hn, u.cell q2 hn, u.cell q3 hn⟩
  · obtain ⟨h1, p', c', e', hc⟩ := h.row
    cases e'
    obtain ⟨b', rfl, q0, _⟩ := hc 0 h0
    cases e
    exact ⟨(a b' ⟨World.block_lt_of_cell? W _ q0, (h.far h0 b' rfl).1⟩).2, (h.far h0 b' rfl).2⟩
theorem Doc.put {w0 W W2 : World} {mb : Nat} {Bs : List Nat} {p p2 : Option Addr} {c c2 : Nat} {T T2 : List Opv} (h : Doc w0 W mb Bs p c T) (hl : ∀ b ∈ Bs, b < W.heap.size) (u : Old W W2) (r : RRow W2 (.slice p2 T2.length c2) T2) (hs : (Value.slice p2 T2.length c2) = .slice p T.length c ∨ ∀ b, (Value.slice p2 T2.length c2).ownBlock = some b → W.heap.size ≤ b) :
    Doc w0 (W2.setCell ⟨mb, 0, none⟩ (.slice p2 T2.length c2)) mb Bs p2 c2 T2 := by
  have hf : 0 < T2.length → ∀ b, (Value.slice p2 T2.length c2).ownBlock = some b → b ∉ Bs ∧ b ≠ mb := fun h0 b e => by
    rcases hs with q | q
    · have hlen : T2.length = T.length := by injection q
      rw [q] at e
      exact h.far (by omega) b e
    · have := q b e
      have hm := h.lt
      exact ⟨fun z => by have := hl b z; omega, by omega⟩
  refine ⟨World.cell?_setCell_same _ _ _ (u.keep h.cell), by rw [World.frozen?_setCell]; exact u.keepF h.cell h.free, h.new, h.ap, ?_, hf⟩
  obtain ⟨h1, p', c', e, hc⟩ := r
  cases e
  refine ⟨h1, p2, c2, rfl, fun i hi => ?_⟩
  obtain ⟨b, rfl, q0, q1, q2, q3⟩ := hc i hi
  have hn := (hf (by omega) b rfl).2
  have k : ∀ o z, W2.cell? ⟨b, o, none⟩ = some z → (W2.setCell ⟨mb, 0, none⟩ (.slice (some ⟨b, 0, none⟩) T2.length c2)).cell? ⟨b, o, none⟩ = some z := fun o z e => by
    rw [World.cell?_setCell_other _ _ _ _ (by intro q; cases q; exact hn rfl)]; exact e
  exact ⟨b, rfl, k _ _ q0, k _ _ q1, k _ _ q2, k _ _ q3⟩
theorem Doc.start (w0 W : World) (Bs : List Nat) (hn : w0.heap.size ≤ W.heap.size) (hl : ∀ b ∈ Bs, b < W.heap.size) (W1 : World) (e : W.alloc (.cells #[.slice none 0 0] 42) = W1) (m : Nat) (hm : W.heap.size = m) : Doc w0 W1 m Bs none 0 [] ∧ Old W W1 := by
  subst e hm
  exact ⟨⟨by simp, by simp, hn, fun q => by have := hl _ q; omega, ⟨by simp, none, 0, rfl, fun i hi => by simp at hi⟩, fun h => by simp at h⟩, (Old.refl W).alloc _⟩
abbrev P9 (mb ob : Nat) (v : Value) (op : Opv) : World → Prop := fun wz => wz.cell? ⟨mb, 0, none⟩ = some v ∧ OpB ob op wz
theorem P9.old {mb ob : Nat} {v : Value} {op : Opv} {w w' : World} (u : Old w w') (h : P9 mb ob v op w) : P9 mb ob v op w' := ⟨u.keep h.1, OpB.old u h.2⟩
abbrev P8 (mb : Nat) (v : Value) : World → Prop := fun wz => wz.cell? ⟨mb, 0, none⟩ = some v
theorem P8.old {mb : Nat} {v : Value} {w w' : World} (u : Old w w') (h : P8 mb v w) : P8 mb v w' := u.keep h
theorem infoTb : (Try.prog.info? 42).map (·.size) = some 1 := by kernel_rfl
theorem stepStoreT {ops : Array Oper} {o : Oper} {a : Act} {w : World} {K : Act → World → Prop} {Q : Exit → Act → World → Prop} {E : Prop} (hg : o.guard = none) (x y : Operand) (hop : o.op = Op.store 42 x y) (m : Nat) (u : Value)
    (hx : a.eval x = .pointer (some ⟨m, 0, none⟩)) (hy : a.eval y = .agg #[u]) (ht : w.there m 0 1) (h1 : u.oneCell' = true)
    (hK : K (a.put o.dst undef) (w.setCell ⟨m, 0, none⟩ u)) :
    if Region.wanted o (yielded ops a.tmps) = true then Oper.wp Try.prog o a w K Q else E := by
  have hw : Region.wanted o (yielded ops a.tmps) = true := by simp [Region.wanted, hg]
  rw [if_pos hw]
  exact wp_store_mid _ x y hop m 0 _ hx hy ht infoTb (by simp [h1]) hK
theorem stepAllocT {ops : Array Oper} {o : Oper} {a : Act} {w : World} {K : Act → World → Prop} {Q : Exit → Act → World → Prop} {E : Prop} (hg : o.guard = none) (hop : o.op = Op.alloc 42)
    (hK : ∀ m w', m = w.heap.size → w' = w.alloc (.cells #[.slice none 0 0] 42) → K (a.put o.dst (.pointer (some ⟨m, 0, none⟩))) w') :
    if Region.wanted o (yielded ops a.tmps) = true then Oper.wp Try.prog o a w K Q else E := by
  have hw : Region.wanted o (yielded ops a.tmps) = true := by simp [Region.wanted, hg]
  rw [if_pos hw]
  obtain ⟨d, p, t, ps, af, gd⟩ := o
  subst hop
  unfold Oper.wp execOp
  go_simp
  exact hK _ _ rfl rfl
/-- A new variable. -/
structure NewB (m : Nat) (w : World) : Prop where
  cell : ∃ z, w.cell? ⟨m, 0, none⟩ = some z
  free : w.frozen? ⟨m, 0, none⟩ = false
theorem NewB.new (w w' : World) (m : Nat) (hm : m = w.heap.size) (hw : w' = w.alloc (.cells #[.slice none 0 0] 42)) : NewB m w' ∧ Old w w' := by
  subst hm hw
  exact ⟨⟨⟨.slice none 0 0, by simp⟩, by simp⟩, (Old.refl w).alloc _⟩
theorem NewB.old {m : Nat} {w w' : World} (u : Old w w') (h : NewB m w) : NewB m w' := by
  obtain ⟨⟨z, c⟩, f⟩ := h
  exact ⟨⟨z, u.keep c⟩, u.keepF c f⟩
theorem NewB.there {m : Nat} {w : World} (h : NewB m w) : w.there m 0 1 := fun j hj => by
  obtain rfl : j = 0 := by omega
  obtain ⟨z, c⟩ := h.cell
  exact ⟨by rw [Nat.add_zero, c]; rfl, h.free⟩
theorem RRow.set {w : World} {p : Option Addr} {n c : Nat} {T : List Opv} (h : RRow w (.slice p n c) T) (m : Nat) (v : Value) (hn : ∀ b, 0 < T.length → p = some ⟨b, 0, none⟩ → b ≠ m) : RRow (w.setCell ⟨m, 0, none⟩ v) (.slice p n c) T := by
  obtain ⟨h1, p', c', e, hc⟩ := h
  cases e
  refine ⟨h1, p, c, rfl, fun i hi => ?_⟩
  obtain ⟨b, rfl, q0, q1, q2, q3⟩ := hc i hi
  have hb := hn b (by omega) rfl
  have k : ∀ o z, w.cell? ⟨b, o, none⟩ = some z → (w.setCell ⟨m, 0, none⟩ v).cell? ⟨b, o, none⟩ = some z := fun o z e => by
    rw [World.cell?_setCell_other _ _ _ _ (by intro q; cases q; exact hb rfl)]; exact e
  exact ⟨b, rfl, k _ _ q0, k _ _ q1, k _ _ q2, k _ _ q3⟩
theorem RRow.lt {w : World} {p : Option Addr} {n c : Nat} {T : List Opv} (h : RRow w (.slice p n c) T) : ∀ b, 0 < T.length → p = some ⟨b, 0, none⟩ → b < w.heap.size := by
  obtain ⟨h1, p', c', e, hc⟩ := h
  cases e
  intro b h0 e
  obtain ⟨b', e', q0, _⟩ := hc 0 h0
  rw [e] at e'
  cases e'
  exact World.block_lt_of_cell? w _ q0
set_option maxHeartbeats 1000000 in
set_option maxRecDepth 20000 in
theorem item_any (op : Opv) (w : World) : Calls Try.prog 15 #[.agg #[.int .i64 op.s, .int .i64 op.x.n, .int .i64 op.x.c, .int .i64 op.x.m]] w fun e w' => e = .returned (.agg #[.int .i64 op.s, .int .i64 op.x.n, .int .i64 op.x.c, .int .i64 op.x.m]) ∧ Old w w' := by
  go_enter Try.func15, Try.ntmps15
  go_upto_region 1 with fail
  generalize hw1 : (w.alloc (.cells #[.int .i64 op.s, .int .i64 op.x.n, .int .i64 op.x.c, .int .i64 op.x.m] 30)).alloc (.cells #[.int .i64 0, .int .i64 0, .int .i64 0, .int .i64 0] 44) = w1
  have O1 := hid (show Old w w1 from by rw [← hw1]; exact ((Old.refl _).alloc _).alloc _)
  have HB := hid (show OpB w.heap.size op w1 from by rw [← hw1]; exact OpB.old ((Old.refl _).alloc _) (op_new w op _ rfl _ rfl).1)
  have QQ := hid (show Q4 (w.heap.size + 1) w1 from by
    rw [← hw1]
    have h := Q4.new (w.alloc (.cells #[.int .i64 op.s, .int .i64 op.x.n, .int .i64 op.x.c, .int .i64 op.x.m] 30))
    simpa using h)
  have HZ := hid (show w.heap.size ≤ w.heap.size + 1 from by omega)
  clear hw1
  obtain ⟨rb, hrb⟩ : ∃ rb, w.heap.size + 1 = rb := ⟨_, rfl⟩
  obtain ⟨tb, htb⟩ : ∃ tb, w.heap.size = tb := ⟨_, rfl⟩
  rw [hrb] at QQ HZ ⊢
  rw [htb] at HB ⊢
  clear hrb htb
  obtain ⟨x0, x1, x2, x3⟩ := HB.out
  obtain ⟨k0, k1, k2, k3, f0, f1, f2, f3⟩ := QQ.out
  obtain ⟨z0, z1, z2, z3⟩ := four_set k0 k1 k2 k3 (.int .i64 op.s) (.int .i64 op.x.n) (.int .i64 op.x.c) (.int .i64 op.x.m)
  have Z := hid (And.intro z0 (And.intro z1 (And.intro z2 z3)))
  clear z0 z1 z2 z3
  go_wp2
  obtain ⟨z0, z1, z2, z3⟩ := Z.out
  exact bodyPost_ret (v := .agg #[.int .i64 op.s, .int .i64 op.x.n, .int .i64 op.x.c, .int .i64 op.x.m]) (by simp [results, Try.results15, go_sem, z0, z1, z2, z3]) rfl ⟨rfl, ((((O1.out.setCell HZ.out _).setCell HZ.out _).setCell HZ.out _).setCell HZ.out _)⟩
set_option maxHeartbeats 8000000 in
set_option maxRecDepth 20000 in
theorem playsLaw (v : Value) (n : Nat) (f : Nat → Opv) (id seq : Int) (w : World) (hi : N64 id) (hq : N64 seq) (hv : ORow w v n f) : Calls Try.prog 4 #[v, .int .i64 id, .int .i64 seq] w fun e w' => e = .returned (.bool true) ∧ Old w w' := by
  obtain ⟨hm, a, c, rfl, hnc, hc⟩ := hv
  have HC := hid hc
  have l0 : (n : Int) ≤ 9223372036854775807 := by omega
  have HI := hid hi
  have HQ := hid hq
  clear hc hm hnc hi hq
  go_enter Try.func4, Try.ntmps4
  go_upto_region 5 with (first | (go_at_call 6; refine (newT_any _).mono ?_; rintro e w2 ⟨tb, mb0, rfl, t2⟩; have T2 := hid t2; clear t2) | (go_at_call 7; refine (alive_any _).mono ?_; rintro e w3 ⟨rfl, u3⟩; have T3 := hid (T2.out.up u3); clear u3))
  clear T2
  generalize hw4 : w3.alloc (.cells #[.slice none 0 0] 42) = w4 at *
  obtain ⟨hd4, hu4⟩ := Doc.start w w3 _ T3.out.old.size T3.out.lt w4 hw4 _ rfl
  generalize w3.heap.size = mb at *
  have T4 := hid (T3.out.up hu4)
  have D4 := hid hd4
  clear hw4 hd4 hu4 T3
  go_wp2
  go_loopw [32] (fun i wr => ∃ (k : Nat) (Bs : List Nat) (ks : List Int) (L : Int → List It) (p : Option Addr) (pc : Nat) (T : List Opv), k ≤ n ∧ i = .int .i64 (k : Nat) ∧ Tab w wr tb Bs ks L ∧ VOk L ∧ Doc w wr mb Bs p pc T ∧ Rel T ks L) (fun i _ => n - (intOf i).toNat)
  case atStart => exact ⟨0, _, _, _, none, 0, [], Nat.zero_le _, rfl, T4.out, VOk.none, D4.out, Rel.nil⟩
  case round =>
    obtain ⟨k, Bs, ks, L, p, pc, T, hk, rfl, hT, hV, hD, hR⟩ := hrel
    have TT := hid hT
    have V := hid hV
    have DD := hid hD
    have RR := hid hR
    clear T4 D4 hT hV hD hR
    by_cases hlt : k < n
    · obtain ⟨b, off, ea, hN, hI⟩ := HC.out k hlt
      subst ea
      obtain ⟨z0, z1, z2, z3⟩ := hI.old TT.out.old
      have HNo := hid hN
      have l1 : (0 : Int) ≤ (k : Int) := by omega
      have l2 : (k : Int) < (n : Int) := by omega
      clear hI hN HC
      generalize f k = op at *
      go_upto_region 8 with fail
      generalize hw5 : wr.alloc (.cells #[.int .i64 op.s, .int .i64 op.x.n, .int .i64 op.x.c, .int .i64 op.x.m] 30) = w5 at *
      obtain ⟨hb5, hu5, hl5⟩ := op_new wr op w5 hw5 _ rfl
      have HOb := hid (show wr.heap.size ∉ Bs ∧ w.heap.size ≤ wr.heap.size from ⟨fun q => by have := TT.out.lt _ q; omega, TT.out.old.size⟩)
      generalize wr.heap.size = ob at *
      have T5 := hid (TT.out.up hu5)
      have D5 := hid (DD.out.up hu5)
      have B5 := hid hb5
      obtain ⟨y0, y1, y2, y3⟩ := hb5
      clear hw5 hu5 hl5 TT DD z0 z1 z2 z3
      have HL1 := hid (look_any tb Bs ks L op.s op.x.n w5 T5.out.tab T5.out.ok HNo.out.1 HNo.out.2)
      have HL2 := hid (fun (W : World) (u : Old w5 W) => rLook_any (.slice p T.length pc) T ks L op.s op.x.n W (D5.out.row.old u) RR.out T5.out.ok T5.out.tab.nod T5.out.tab.nil)
      generalize hlv : lookV L op.s op.x.n = lv at *
      generalize hlc : lookC ks L op.s op.x.n = lc at *
      clear hlv hlc
      go_upto_region 9 with (go_at_call 11; refine HL1.out.mono ?_; rintro e w6 ⟨rfl, u6⟩; have U6 := hid u6; clear u6)
      generalize hw7 : w6.alloc (.cells #[.int .i64 lv.1, .int .i64 lv.2] 28) = w8 at *
      obtain ⟨hv8, _, hu8⟩ := verd_new w6 lv.1 lv.2 w8 hw7 _ rfl
      generalize w6.heap.size = va at *
      have U8 := hid (U6.out.trans hu8)
      have V8 := hid hv8
      clear hw7 hv8 hu8 U6 HL1 y0 y1 y2 y3
      obtain ⟨y0, y1, y2, y3⟩ := OpB.old U8.out B5.out
      have m0 := U8.out.keep D5.out.cell
      go_upto_region 10 with (go_at_call 13; refine (HL2.out _ U8.out).mono ?_; rintro e w9 ⟨ia, ib, rfl, u9⟩; have U9 := hid u9; clear u9)
      generalize hwa : w9.alloc (.cells #[.int .i64 ia, .int .i64 ib, .int .i64 lv.1, .int .i64 lv.2] 44) = w7 at *
      have UA := hid (show Old w9 w7 from by rw [← hwa]; exact (Old.refl _).alloc _)
      have hva2 : w7.cell? ⟨w9.heap.size, 2, none⟩ = some (.int .i64 lv.1) := by rw [← hwa]; simp
      have hva3 : w7.cell? ⟨w9.heap.size, 3, none⟩ = some (.int .i64 lv.2) := by rw [← hwa]; simp
      generalize w9.heap.size = vc at *
      have v0 := (U9.out.trans UA.out).keep V8.out.1
      have v1 := (U9.out.trans UA.out).keep V8.out.2
      have UB := hid (U8.out.trans (U9.out.trans UA.out))
      clear hwa HL2 y0 y1 y2 y3 m0 U9 UA U8 V8
      go_upto_region 12 with fail
      clear v0 v1 hva2 hva3
      have T7 := hid (T5.out.up UB.out)
      have D7 := hid (D5.out.up UB.out)
      have B7 := hid (OpB.old UB.out B5.out)
      obtain ⟨y0, y1, y2, y3⟩ := B7.out
      have HPo := hid (putU_any w tb Bs ks L op.s op.x w7 T7.out HNo.out.1 HNo.out.2)
      go_upto_region 13 with (go_at_call 8; refine HPo.out.mono ?_; rintro e wp ⟨rfl, Bs6, t6, c6, a6⟩; have T6 := hid t6; have C6 := hid c6; have A6 := hid a6; clear t6 c6 a6)
      clear y0 y1 y2 y3 HPo
      have D6 := hid (D7.out.chg C6.out A6.out)
      have B6 := hid (show OpB ob op wp from ⟨C6.out.cell B7.out.1 HOb.out.1, C6.out.cell B7.out.2.1 HOb.out.1, C6.out.cell B7.out.2.2.1 HOb.out.1, C6.out.cell B7.out.2.2.2 HOb.out.1⟩)
      have HPu := hid (fun (W : World) (u : Old wp W) => rPut_any (.slice p T.length pc) T ks L op W (D6.out.row.old u) RR.out T7.out.ok T7.out.tab.nod T7.out.tab.nil)
      have HPt := hid (fun (W : World) => item_any op W)
      have HP9 := hid (show P9 mb ob (.slice p T.length pc) op wp from ⟨D6.out.cell, B6.out⟩)
      have V6 := hid (show VOk (pl ks L op.s op.x) from V.out.pl)
      clear T7 D7 B7 T5 D5 B5 UB C6 A6 V RR
      generalize hpc : putC ks L op.s op.x = pcd at *
      generalize hpk : pk ks L op.s op.x = ks' at *
      generalize hpl : pl ks L op.s op.x = L' at *
      clear hpc hpk hpl
      refine wp_region_noPanic ?_
      refine wp_region_held_drew (S := P9 mb ob (.slice p T.length pc) op) (by kernel_rfl) ?_ (fun hHeld => ?_)
      · exact P9.old ((Old.refl wp).drew) HP9.out
      (try simp only [Act.put]); (try simp only [List.setIfInBounds_toArray]); (try simp only [List.set_cons_succ]); (try simp only [List.set_cons_zero])
      clear hHeld
      refine wpAnyH_take (i := 0) (oi := { dst := some 81, op := Op.load 42 (Operand.tmp 8), type := 42, pos := "law.go:74", after := #[], guard := none }) (v := ?vk1) rfl (by kernel_rfl) (by kernel_rfl) (by kernel_rfl) (fun _ _ _ h => h) (Or.inl ⟨by rfl, ?hk1⟩) (P9.old ((Old.refl wp).drew) HP9.out) ?rk1
      case hk1 => (intro wz hSw; (try dsimp only at hSw); go_simp; try with_reducible rfl)
      (try simp only [Act.put]); (try simp only [List.setIfInBounds_toArray]); (try simp only [List.set_cons_succ]); (try simp only [List.set_cons_zero])
      refine wpAnyH_take (i := 1) (oi := { dst := some 82, op := Op.load 30 (Operand.tmp 10), type := 30, pos := "law.go:74", after := #[], guard := none }) (v := ?vk2) rfl (by kernel_rfl) (by kernel_rfl) (by kernel_rfl) (fun _ _ _ h => h) (Or.inl ⟨by rfl, ?hk2⟩) (P9.old ((Old.refl wp).drew) HP9.out) ?rk2
      case hk2 => (intro wz hSw; (try dsimp only at hSw); go_simp; try with_reducible rfl)
      (try simp only [Act.put]); (try simp only [List.setIfInBounds_toArray]); (try simp only [List.set_cons_succ]); (try simp only [List.set_cons_zero])
      refine wpAnyH_ready (rs := [2, 7]) (by kernel_rfl) (by simp) ?_
      refine AllReadyH.cons (o := { dst := some 83, op := Op.call { callee := Callee.value (Operand.func 15), args := #[Operand.tmp 82], argTypes := #[30] }, type := 44, pos := "law.go:74", after := #[{ on := 1, ground := Ground.data }], guard := none }) rfl (fun K hK => ?_) (AllReadyH.cons (o := { dst := some 16, op := Op.alloc 42, type := 0, pos := "law.go:74", after := #[], guard := none }) rfl (fun K hK => ?_) AllReadyH.nil)
      · skip
        refine wantCall1 ?_ 15 (.tmp 82) #[30] ?_ (.agg #[.int .i64 op.s, .int .i64 op.x.n, .int .i64 op.x.c, .int .i64 op.x.m]) ?_ ?_ ((enters_of Try.func15 (by kernel_rfl) rfl) _ _) ?_
        · rfl
        · rfl
        · rfl
        · rfl
        refine (HPt.out _).mono ?_
        rintro o x3 ⟨rfl, b3⟩
        refine ⟨_, rfl, ?_⟩
        have U3 := (((Old.refl wp).drew)).trans b3
        refine hK.out _ _ (P9.old U3 HP9.out) (fun _ => ?_)
        clear hK K
        (try simp only [Act.put]); (try simp only [List.setIfInBounds_toArray]); (try simp only [List.set_cons_succ]); (try simp only [List.set_cons_zero])
        refine wpAnyH_ready (rs := [3, 7]) (by kernel_rfl) (by simp) ?_
        refine AllReadyH.cons (o := { dst := some 84, op := Op.call { callee := Callee.value (Operand.func 14), args := #[Operand.tmp 81, Operand.tmp 83], argTypes := #[42, 44] }, type := 47, pos := "law.go:74", after := #[{ on := 0, ground := Ground.data }, { on := 2, ground := Ground.data }, { on := 2, ground := Ground.chain }], guard := none }) rfl (fun K hK => ?_) (AllReadyH.cons (o := { dst := some 16, op := Op.alloc 42, type := 0, pos := "law.go:74", after := #[], guard := none }) rfl (fun K hK => ?_) AllReadyH.nil)
        · skip
          refine wantCall2 ?_ 14 (.tmp 81) (.tmp 83) #[42, 44] ?_ (.agg #[.slice p T.length pc]) (.agg #[.int .i64 op.s, .int .i64 op.x.n, .int .i64 op.x.c, .int .i64 op.x.m]) ?_ ?_ ?_ ((enters_of Try.func14 (by kernel_rfl) rfl) _ _) ?_
          · rfl
          · rfl
          · rfl
          · rfl
          · rfl
          refine (HPu.out _ U3).mono ?_
          rintro o x4 ⟨p2, c2, T2, rfl, q4, rl4, b4, sm4⟩
          refine ⟨_, rfl, ?_⟩
          have R2 := hid rl4
          have SM := hid (show (Value.slice p2 T2.length c2) = .slice p T.length pc ∨ ∀ b, (Value.slice p2 T2.length c2).ownBlock = some b → wp.heap.size ≤ b from sm4.imp (fun e => e) (fun h b e => by have h1 := h b e; have h2 := (U3).size; omega))
          clear rl4 sm4
          have U4 := (U3).trans b4
          refine hK.out _ _ (P9.old U4 HP9.out) (fun _ => ?_)
          clear hK K
          (try simp only [Act.put]); (try simp only [List.setIfInBounds_toArray]); (try simp only [List.set_cons_succ]); (try simp only [List.set_cons_zero])
          refine wpAnyH_take (i := 4) (oi := { dst := some 80, op := Op.move (Operand.tmp 84), type := 47, pos := "law.go:74", after := #[{ on := 3, ground := Ground.data }], guard := none }) (v := ?vk5) rfl (by kernel_rfl) (by kernel_rfl) (by kernel_rfl) (fun _ _ _ h => h) (Or.inl ⟨by rfl, ?hk5⟩) (P9.old U4 HP9.out) ?rk5
          case hk5 => (intro wz hSw; (try dsimp only at hSw); go_simp; try with_reducible rfl)
          (try simp only [Act.put]); (try simp only [List.setIfInBounds_toArray]); (try simp only [List.set_cons_succ]); (try simp only [List.set_cons_zero])
          refine wpAnyH_take (i := 5) (oi := { dst := some 85, op := Op.extract (Operand.tmp 80) 0, type := 42, pos := "law.go:74", after := #[{ on := 4, ground := Ground.data }], guard := none }) (v := ?vk6) rfl (by kernel_rfl) (by kernel_rfl) (by kernel_rfl) (fun _ _ _ h => h) (Or.inl ⟨by rfl, ?hk6⟩) (P9.old U4 HP9.out) ?rk6
          case hk6 => (intro wz hSw; (try dsimp only at hSw); go_simp; try with_reducible rfl)
          (try simp only [Act.put]); (try simp only [List.setIfInBounds_toArray]); (try simp only [List.set_cons_succ]); (try simp only [List.set_cons_zero])
          refine wpAnyH_take (i := 6) (oi := { dst := some 86, op := Op.extract (Operand.tmp 80) 1, type := 3, pos := "law.go:74", after := #[{ on := 4, ground := Ground.data }, { on := 8, ground := Ground.gcOnly Departure.lateStores }], guard := none }) (v := ?vk7) rfl (by kernel_rfl) (by kernel_rfl) (by kernel_rfl) (fun _ _ _ h => h) (Or.inl ⟨by rfl, ?hk7⟩) (P9.old U4 HP9.out) ?rk7
          case hk7 => (intro wz hSw; (try dsimp only at hSw); go_simp; try with_reducible rfl)
          (try simp only [Act.put]); (try simp only [List.setIfInBounds_toArray]); (try simp only [List.set_cons_succ]); (try simp only [List.set_cons_zero])
          refine wpAnyH_ready (rs := [7]) (by kernel_rfl) (by simp) ?_
          refine AllReadyH.cons (o := { dst := some 16, op := Op.alloc 42, type := 0, pos := "law.go:74", after := #[], guard := none }) rfl (fun K hK => ?_) AllReadyH.nil
          · skip
            refine stepAllocT ?_ ?_ ?_
            · rfl
            · rfl
            intro m8 y8 hm8 hy8
            obtain ⟨nn8, b8⟩ := NewB.new _ y8 m8 hm8 hy8
            have Z8 : wp.heap.size ≤ m8 := by rw [hm8]; exact (U4).size
            have DN := hid (show ∀ b, 0 < T2.length → p2 = some ⟨b, 0, none⟩ → b ≠ m8 from fun b h0 e => by have := (q4).lt b h0 e; omega)
            have U8 := (U4).trans b8
            have r8 := RRow.old q4 b8
            clear hm8 hy8
            refine hK.out _ _ (P9.old U8 HP9.out) (fun _ => ?_)
            clear hK K
            (try simp only [Act.put]); (try simp only [List.setIfInBounds_toArray]); (try simp only [List.set_cons_succ]); (try simp only [List.set_cons_zero])
            refine wpAnyH_ready (rs := [8]) (by kernel_rfl) (by simp) ?_
            refine AllReadyH.cons (o := { dst := none, op := Op.store 42 (Operand.tmp 16) (Operand.tmp 85), type := 0, pos := "law.go:74", after := #[{ on := 7, ground := Ground.data }, { on := 5, ground := Ground.data }, { on := 3, ground := Ground.chain }, { on := 0, ground := Ground.phase }, { on := 1, ground := Ground.phase }, { on := 2, ground := Ground.phase }, { on := 3, ground := Ground.phase }, { on := 4, ground := Ground.phase }, { on := 5, ground := Ground.phase }, { on := 6, ground := Ground.textOnly Departure.lateStores }, { on := 7, ground := Ground.phase }], guard := none }) rfl (fun K hK => ?_) AllReadyH.nil
            · skip
              refine stepStoreT ?_ (.tmp 16) (.tmp 85) ?_ m8 (.slice p2 T2.length c2) ?_ ?_ (nn8).there rfl ?_
              · rfl
              · rfl
              · rfl
              · rfl
              obtain ⟨zz, cz⟩ := (nn8).cell
              have NC := hid (World.cell?_setCell_same _ _ (.slice p2 T2.length c2) cz)
              have U9 := (U8).setCell (p := ⟨m8, 0, none⟩) Z8 (.slice p2 T2.length c2)
              have R3 := hid (RRow.set r8 m8 (.slice p2 T2.length c2) DN.out)
              clear cz
              refine hK.out _ _ (P9.old U9 HP9.out) (fun _ => ?_)
              clear hK K
              (try simp only [Act.put]); (try simp only [List.setIfInBounds_toArray]); (try simp only [List.set_cons_succ]); (try simp only [List.set_cons_zero])
              refine wpAnyH_ready (rs := [9]) (by kernel_rfl) (by simp) ?_
              refine AllReadyH.cons (o := { dst := some 17, op := Op.assign (Operand.tmp 86), type := 3, pos := "law.go:74", after := #[{ on := 6, ground := Ground.data }, { on := 8, ground := Ground.chain }, { on := 0, ground := Ground.phase }, { on := 1, ground := Ground.phase }, { on := 2, ground := Ground.phase }, { on := 3, ground := Ground.phase }, { on := 4, ground := Ground.phase }, { on := 5, ground := Ground.phase }, { on := 6, ground := Ground.phase }, { on := 7, ground := Ground.phase }, { on := 8, ground := Ground.phase }], guard := none }) rfl (fun K hK => ?_) AllReadyH.nil
              · skip
                go_simp
                refine hK.out _ _ (P9.old U9 HP9.out) (fun _ => ?_)
                clear hK K
                (try simp only [Act.put]); (try simp only [List.setIfInBounds_toArray]); (try simp only [List.set_cons_succ]); (try simp only [List.set_cons_zero])
                refine wpAnyH_done (by kernel_rfl) ?_ _
                refine NoPanic.normal ?_
                generalize hwz : World.setCell _ _ _ = wz at *
                clear hwz
                have UZ := hid U9
                have y0 := NC.out
                have y1 := UZ.out.keep D6.out.cell
                have y2 := UZ.out.keepF D6.out.cell D6.out.free
                go_upto_region 15 with fail
                have D8 := hid (D6.out.put T6.out.lt UZ.out R3.out SM.out)
                have T8 := hid ((T6.out.up UZ.out).beside (((T6.out.up UZ.out).old).setCell (p := ⟨mb, 0, none⟩) D6.out.new (.slice p2 T2.length c2)) (Chg.set wz ⟨mb, 0, none⟩ (.slice p2 T2.length c2) (S := [mb]) (by simp)) (fun b hb q => by simp at q; subst q; exact D6.out.ap hb))
                clear y0 y1 y2 D6 T6 NC R3 SM DN HP9 B6 HPu HPt
                generalize wz.setCell ⟨mb, 0, none⟩ (.slice p2 T2.length c2) = w8 at *
                have y1 := D8.out.cell
                by_cases h100 : (k : Int) < 100
                · have HAl := hid (alike_any tb Bs6 ks' L' (.slice p2 T2.length c2) T2 w8 T8.out.tab T8.out.ok D8.out.row R2.out T8.out.tab.nod)
                  go_wp2_with (go_at_call 16; refine HAl.out.mono ?_; rintro e wq ⟨rfl, uq⟩; have UQ := hid uq; clear uq)
                  go_roundw
                  case rel => exact ⟨k + 1, Bs6, ks', L', p2, c2, T2, hlt, by go_num, T8.out.up UQ.out, V6.out, D8.out.up UQ.out, R2.out⟩
                  case measure => simp [intOf]; omega
                · go_wp2
                  go_roundw
                  case rel => exact ⟨k + 1, Bs6, ks', L', p2, c2, T2, hlt, by go_num, T8.out, V6.out, D8.out, R2.out⟩
                  case measure => simp [intOf]; omega
        · skip
          refine stepAllocT ?_ ?_ ?_
          · rfl
          · rfl
          intro m10 y10 hm10 hy10
          obtain ⟨nn10, b10⟩ := NewB.new _ y10 m10 hm10 hy10
          have Z10 : wp.heap.size ≤ m10 := by rw [hm10]; exact (U3).size
          have U10 := (U3).trans b10
          clear hm10 hy10
          refine hK.out _ _ (P9.old U10 HP9.out) (fun _ => ?_)
          clear hK K
          (try simp only [Act.put]); (try simp only [List.setIfInBounds_toArray]); (try simp only [List.set_cons_succ]); (try simp only [List.set_cons_zero])
          refine wpAnyH_ready (rs := [3]) (by kernel_rfl) (by simp) ?_
          refine AllReadyH.cons (o := { dst := some 84, op := Op.call { callee := Callee.value (Operand.func 14), args := #[Operand.tmp 81, Operand.tmp 83], argTypes := #[42, 44] }, type := 47, pos := "law.go:74", after := #[{ on := 0, ground := Ground.data }, { on := 2, ground := Ground.data }, { on := 2, ground := Ground.chain }], guard := none }) rfl (fun K hK => ?_) AllReadyH.nil
          · skip
            refine wantCall2 ?_ 14 (.tmp 81) (.tmp 83) #[42, 44] ?_ (.agg #[.slice p T.length pc]) (.agg #[.int .i64 op.s, .int .i64 op.x.n, .int .i64 op.x.c, .int .i64 op.x.m]) ?_ ?_ ?_ ((enters_of Try.func14 (by kernel_rfl) rfl) _ _) ?_
            · rfl
            · rfl
            · rfl
            · rfl
            · rfl
            refine (HPu.out _ U10).mono ?_
            rintro o x11 ⟨p2, c2, T2, rfl, q11, rl11, b11, sm11⟩
            refine ⟨_, rfl, ?_⟩
            have R2 := hid rl11
            have SM := hid (show (Value.slice p2 T2.length c2) = .slice p T.length pc ∨ ∀ b, (Value.slice p2 T2.length c2).ownBlock = some b → wp.heap.size ≤ b from sm11.imp (fun e => e) (fun h b e => by have h1 := h b e; have h2 := (U10).size; omega))
            have DN := hid (show ∀ b, 0 < T2.length → p2 = some ⟨b, 0, none⟩ → b ≠ m10 from fun b h0 e => by rcases sm11 with h | h; (have hp : p2 = p := by injection h); (have hl : T2.length = T.length := by injection h); (have q1 := D6.out.row.lt b (by omega) (by rw [← hp]; exact e)); (have q2 := Z10); omega; (have q1 := h b (by rw [e]; rfl)); (obtain ⟨zz, cz⟩ := (nn10).cell); (have q2 := World.block_lt_of_cell? _ _ cz); simp at q2; omega)
            clear rl11 sm11
            have U11 := (U10).trans b11
            have n11 := NewB.old b11 nn10
            refine hK.out _ _ (P9.old U11 HP9.out) (fun _ => ?_)
            clear hK K
            (try simp only [Act.put]); (try simp only [List.setIfInBounds_toArray]); (try simp only [List.set_cons_succ]); (try simp only [List.set_cons_zero])
            refine wpAnyH_take (i := 4) (oi := { dst := some 80, op := Op.move (Operand.tmp 84), type := 47, pos := "law.go:74", after := #[{ on := 3, ground := Ground.data }], guard := none }) (v := ?vk12) rfl (by kernel_rfl) (by kernel_rfl) (by kernel_rfl) (fun _ _ _ h => h) (Or.inl ⟨by rfl, ?hk12⟩) (P9.old U11 HP9.out) ?rk12
            case hk12 => (intro wz hSw; (try dsimp only at hSw); go_simp; try with_reducible rfl)
            (try simp only [Act.put]); (try simp only [List.setIfInBounds_toArray]); (try simp only [List.set_cons_succ]); (try simp only [List.set_cons_zero])
            refine wpAnyH_take (i := 5) (oi := { dst := some 85, op := Op.extract (Operand.tmp 80) 0, type := 42, pos := "law.go:74", after := #[{ on := 4, ground := Ground.data }], guard := none }) (v := ?vk13) rfl (by kernel_rfl) (by kernel_rfl) (by kernel_rfl) (fun _ _ _ h => h) (Or.inl ⟨by rfl, ?hk13⟩) (P9.old U11 HP9.out) ?rk13
            case hk13 => (intro wz hSw; (try dsimp only at hSw); go_simp; try with_reducible rfl)
            (try simp only [Act.put]); (try simp only [List.setIfInBounds_toArray]); (try simp only [List.set_cons_succ]); (try simp only [List.set_cons_zero])
            refine wpAnyH_take (i := 6) (oi := { dst := some 86, op := Op.extract (Operand.tmp 80) 1, type := 3, pos := "law.go:74", after := #[{ on := 4, ground := Ground.data }, { on := 8, ground := Ground.gcOnly Departure.lateStores }], guard := none }) (v := ?vk14) rfl (by kernel_rfl) (by kernel_rfl) (by kernel_rfl) (fun _ _ _ h => h) (Or.inl ⟨by rfl, ?hk14⟩) (P9.old U11 HP9.out) ?rk14
            case hk14 => (intro wz hSw; (try dsimp only at hSw); go_simp; try with_reducible rfl)
            (try simp only [Act.put]); (try simp only [List.setIfInBounds_toArray]); (try simp only [List.set_cons_succ]); (try simp only [List.set_cons_zero])
            refine wpAnyH_ready (rs := [8]) (by kernel_rfl) (by simp) ?_
            refine AllReadyH.cons (o := { dst := none, op := Op.store 42 (Operand.tmp 16) (Operand.tmp 85), type := 0, pos := "law.go:74", after := #[{ on := 7, ground := Ground.data }, { on := 5, ground := Ground.data }, { on := 3, ground := Ground.chain }, { on := 0, ground := Ground.phase }, { on := 1, ground := Ground.phase }, { on := 2, ground := Ground.phase }, { on := 3, ground := Ground.phase }, { on := 4, ground := Ground.phase }, { on := 5, ground := Ground.phase }, { on := 6, ground := Ground.textOnly Departure.lateStores }, { on := 7, ground := Ground.phase }], guard := none }) rfl (fun K hK => ?_) AllReadyH.nil
            · skip
              refine stepStoreT ?_ (.tmp 16) (.tmp 85) ?_ m10 (.slice p2 T2.length c2) ?_ ?_ (n11).there rfl ?_
              · rfl
              · rfl
              · rfl
              · rfl
              obtain ⟨zz, cz⟩ := (n11).cell
              have NC := hid (World.cell?_setCell_same _ _ (.slice p2 T2.length c2) cz)
              have U15 := (U11).setCell (p := ⟨m10, 0, none⟩) Z10 (.slice p2 T2.length c2)
              have R3 := hid (RRow.set q11 m10 (.slice p2 T2.length c2) DN.out)
              clear cz
              refine hK.out _ _ (P9.old U15 HP9.out) (fun _ => ?_)
              clear hK K
              (try simp only [Act.put]); (try simp only [List.setIfInBounds_toArray]); (try simp only [List.set_cons_succ]); (try simp only [List.set_cons_zero])
              refine wpAnyH_ready (rs := [9]) (by kernel_rfl) (by simp) ?_
              refine AllReadyH.cons (o := { dst := some 17, op := Op.assign (Operand.tmp 86), type := 3, pos := "law.go:74", after := #[{ on := 6, ground := Ground.data }, { on := 8, ground := Ground.chain }, { on := 0, ground := Ground.phase }, { on := 1, ground := Ground.phase }, { on := 2, ground := Ground.phase }, { on := 3, ground := Ground.phase }, { on := 4, ground := Ground.phase }, { on := 5, ground := Ground.phase }, { on := 6, ground := Ground.phase }, { on := 7, ground := Ground.phase }, { on := 8, ground := Ground.phase }], guard := none }) rfl (fun K hK => ?_) AllReadyH.nil
              · skip
                go_simp
                refine hK.out _ _ (P9.old U15 HP9.out) (fun _ => ?_)
                clear hK K
                (try simp only [Act.put]); (try simp only [List.setIfInBounds_toArray]); (try simp only [List.set_cons_succ]); (try simp only [List.set_cons_zero])
                refine wpAnyH_done (by kernel_rfl) ?_ _
                refine NoPanic.normal ?_
                generalize hwz : World.setCell _ _ _ = wz at *
                clear hwz
                have UZ := hid U15
                have y0 := NC.out
                have y1 := UZ.out.keep D6.out.cell
                have y2 := UZ.out.keepF D6.out.cell D6.out.free
                go_upto_region 15 with fail
                have D8 := hid (D6.out.put T6.out.lt UZ.out R3.out SM.out)
                have T8 := hid ((T6.out.up UZ.out).beside (((T6.out.up UZ.out).old).setCell (p := ⟨mb, 0, none⟩) D6.out.new (.slice p2 T2.length c2)) (Chg.set wz ⟨mb, 0, none⟩ (.slice p2 T2.length c2) (S := [mb]) (by simp)) (fun b hb q => by simp at q; subst q; exact D6.out.ap hb))
                clear y0 y1 y2 D6 T6 NC R3 SM DN HP9 B6 HPu HPt
                generalize wz.setCell ⟨mb, 0, none⟩ (.slice p2 T2.length c2) = w8 at *
                have y1 := D8.out.cell
                by_cases h100 : (k : Int) < 100
                · have HAl := hid (alike_any tb Bs6 ks' L' (.slice p2 T2.length c2) T2 w8 T8.out.tab T8.out.ok D8.out.row R2.out T8.out.tab.nod)
                  go_wp2_with (go_at_call 16; refine HAl.out.mono ?_; rintro e wq ⟨rfl, uq⟩; have UQ := hid uq; clear uq)
                  go_roundw
                  case rel => exact ⟨k + 1, Bs6, ks', L', p2, c2, T2, hlt, by go_num, T8.out.up UQ.out, V6.out, D8.out.up UQ.out, R2.out⟩
                  case measure => simp [intOf]; omega
                · go_wp2
                  go_roundw
                  case rel => exact ⟨k + 1, Bs6, ks', L', p2, c2, T2, hlt, by go_num, T8.out, V6.out, D8.out, R2.out⟩
                  case measure => simp [intOf]; omega
      · skip
        refine stepAllocT ?_ ?_ ?_
        · rfl
        · rfl
        intro m16 y16 hm16 hy16
        obtain ⟨nn16, b16⟩ := NewB.new _ y16 m16 hm16 hy16
        have Z16 : wp.heap.size ≤ m16 := by rw [hm16]; exact (((Old.refl wp).drew)).size
        have U16 := (((Old.refl wp).drew)).trans b16
        clear hm16 hy16
        refine hK.out _ _ (P9.old U16 HP9.out) (fun _ => ?_)
        clear hK K
        (try simp only [Act.put]); (try simp only [List.setIfInBounds_toArray]); (try simp only [List.set_cons_succ]); (try simp only [List.set_cons_zero])
        refine wpAnyH_ready (rs := [2]) (by kernel_rfl) (by simp) ?_
        refine AllReadyH.cons (o := { dst := some 83, op := Op.call { callee := Callee.value (Operand.func 15), args := #[Operand.tmp 82], argTypes := #[30] }, type := 44, pos := "law.go:74", after := #[{ on := 1, ground := Ground.data }], guard := none }) rfl (fun K hK => ?_) AllReadyH.nil
        · skip
          refine wantCall1 ?_ 15 (.tmp 82) #[30] ?_ (.agg #[.int .i64 op.s, .int .i64 op.x.n, .int .i64 op.x.c, .int .i64 op.x.m]) ?_ ?_ ((enters_of Try.func15 (by kernel_rfl) rfl) _ _) ?_
          · rfl
          · rfl
          · rfl
          · rfl
          refine (HPt.out _).mono ?_
          rintro o x17 ⟨rfl, b17⟩
          refine ⟨_, rfl, ?_⟩
          have U17 := (U16).trans b17
          have n17 := NewB.old b17 nn16
          refine hK.out _ _ (P9.old U17 HP9.out) (fun _ => ?_)
          clear hK K
          (try simp only [Act.put]); (try simp only [List.setIfInBounds_toArray]); (try simp only [List.set_cons_succ]); (try simp only [List.set_cons_zero])
          refine wpAnyH_ready (rs := [3]) (by kernel_rfl) (by simp) ?_
          refine AllReadyH.cons (o := { dst := some 84, op := Op.call { callee := Callee.value (Operand.func 14), args := #[Operand.tmp 81, Operand.tmp 83], argTypes := #[42, 44] }, type := 47, pos := "law.go:74", after := #[{ on := 0, ground := Ground.data }, { on := 2, ground := Ground.data }, { on := 2, ground := Ground.chain }], guard := none }) rfl (fun K hK => ?_) AllReadyH.nil
          · skip
            refine wantCall2 ?_ 14 (.tmp 81) (.tmp 83) #[42, 44] ?_ (.agg #[.slice p T.length pc]) (.agg #[.int .i64 op.s, .int .i64 op.x.n, .int .i64 op.x.c, .int .i64 op.x.m]) ?_ ?_ ?_ ((enters_of Try.func14 (by kernel_rfl) rfl) _ _) ?_
            · rfl
            · rfl
            · rfl
            · rfl
            · rfl
            refine (HPu.out _ U17).mono ?_
            rintro o x18 ⟨p2, c2, T2, rfl, q18, rl18, b18, sm18⟩
            refine ⟨_, rfl, ?_⟩
            have R2 := hid rl18
            have SM := hid (show (Value.slice p2 T2.length c2) = .slice p T.length pc ∨ ∀ b, (Value.slice p2 T2.length c2).ownBlock = some b → wp.heap.size ≤ b from sm18.imp (fun e => e) (fun h b e => by have h1 := h b e; have h2 := (U17).size; omega))
            have DN := hid (show ∀ b, 0 < T2.length → p2 = some ⟨b, 0, none⟩ → b ≠ m16 from fun b h0 e => by rcases sm18 with h | h; (have hp : p2 = p := by injection h); (have hl : T2.length = T.length := by injection h); (have q1 := D6.out.row.lt b (by omega) (by rw [← hp]; exact e)); (have q2 := Z16); omega; (have q1 := h b (by rw [e]; rfl)); (obtain ⟨zz, cz⟩ := (n17).cell); (have q2 := World.block_lt_of_cell? _ _ cz); simp at q2; omega)
            clear rl18 sm18
            have U18 := (U17).trans b18
            have n18 := NewB.old b18 n17
            refine hK.out _ _ (P9.old U18 HP9.out) (fun _ => ?_)
            clear hK K
            (try simp only [Act.put]); (try simp only [List.setIfInBounds_toArray]); (try simp only [List.set_cons_succ]); (try simp only [List.set_cons_zero])
            refine wpAnyH_take (i := 4) (oi := { dst := some 80, op := Op.move (Operand.tmp 84), type := 47, pos := "law.go:74", after := #[{ on := 3, ground := Ground.data }], guard := none }) (v := ?vk19) rfl (by kernel_rfl) (by kernel_rfl) (by kernel_rfl) (fun _ _ _ h => h) (Or.inl ⟨by rfl, ?hk19⟩) (P9.old U18 HP9.out) ?rk19
            case hk19 => (intro wz hSw; (try dsimp only at hSw); go_simp; try with_reducible rfl)
            (try simp only [Act.put]); (try simp only [List.setIfInBounds_toArray]); (try simp only [List.set_cons_succ]); (try simp only [List.set_cons_zero])
            refine wpAnyH_take (i := 5) (oi := { dst := some 85, op := Op.extract (Operand.tmp 80) 0, type := 42, pos := "law.go:74", after := #[{ on := 4, ground := Ground.data }], guard := none }) (v := ?vk20) rfl (by kernel_rfl) (by kernel_rfl) (by kernel_rfl) (fun _ _ _ h => h) (Or.inl ⟨by rfl, ?hk20⟩) (P9.old U18 HP9.out) ?rk20
            case hk20 => (intro wz hSw; (try dsimp only at hSw); go_simp; try with_reducible rfl)
            (try simp only [Act.put]); (try simp only [List.setIfInBounds_toArray]); (try simp only [List.set_cons_succ]); (try simp only [List.set_cons_zero])
            refine wpAnyH_take (i := 6) (oi := { dst := some 86, op := Op.extract (Operand.tmp 80) 1, type := 3, pos := "law.go:74", after := #[{ on := 4, ground := Ground.data }, { on := 8, ground := Ground.gcOnly Departure.lateStores }], guard := none }) (v := ?vk21) rfl (by kernel_rfl) (by kernel_rfl) (by kernel_rfl) (fun _ _ _ h => h) (Or.inl ⟨by rfl, ?hk21⟩) (P9.old U18 HP9.out) ?rk21
            case hk21 => (intro wz hSw; (try dsimp only at hSw); go_simp; try with_reducible rfl)
            (try simp only [Act.put]); (try simp only [List.setIfInBounds_toArray]); (try simp only [List.set_cons_succ]); (try simp only [List.set_cons_zero])
            refine wpAnyH_ready (rs := [8]) (by kernel_rfl) (by simp) ?_
            refine AllReadyH.cons (o := { dst := none, op := Op.store 42 (Operand.tmp 16) (Operand.tmp 85), type := 0, pos := "law.go:74", after := #[{ on := 7, ground := Ground.data }, { on := 5, ground := Ground.data }, { on := 3, ground := Ground.chain }, { on := 0, ground := Ground.phase }, { on := 1, ground := Ground.phase }, { on := 2, ground := Ground.phase }, { on := 3, ground := Ground.phase }, { on := 4, ground := Ground.phase }, { on := 5, ground := Ground.phase }, { on := 6, ground := Ground.textOnly Departure.lateStores }, { on := 7, ground := Ground.phase }], guard := none }) rfl (fun K hK => ?_) AllReadyH.nil
            · skip
              refine stepStoreT ?_ (.tmp 16) (.tmp 85) ?_ m16 (.slice p2 T2.length c2) ?_ ?_ (n18).there rfl ?_
              · rfl
              · rfl
              · rfl
              · rfl
              obtain ⟨zz, cz⟩ := (n18).cell
              have NC := hid (World.cell?_setCell_same _ _ (.slice p2 T2.length c2) cz)
              have U22 := (U18).setCell (p := ⟨m16, 0, none⟩) Z16 (.slice p2 T2.length c2)
              have R3 := hid (RRow.set q18 m16 (.slice p2 T2.length c2) DN.out)
              clear cz
              refine hK.out _ _ (P9.old U22 HP9.out) (fun _ => ?_)
              clear hK K
              (try simp only [Act.put]); (try simp only [List.setIfInBounds_toArray]); (try simp only [List.set_cons_succ]); (try simp only [List.set_cons_zero])
              refine wpAnyH_ready (rs := [9]) (by kernel_rfl) (by simp) ?_
              refine AllReadyH.cons (o := { dst := some 17, op := Op.assign (Operand.tmp 86), type := 3, pos := "law.go:74", after := #[{ on := 6, ground := Ground.data }, { on := 8, ground := Ground.chain }, { on := 0, ground := Ground.phase }, { on := 1, ground := Ground.phase }, { on := 2, ground := Ground.phase }, { on := 3, ground := Ground.phase }, { on := 4, ground := Ground.phase }, { on := 5, ground := Ground.phase }, { on := 6, ground := Ground.phase }, { on := 7, ground := Ground.phase }, { on := 8, ground := Ground.phase }], guard := none }) rfl (fun K hK => ?_) AllReadyH.nil
              · skip
                go_simp
                refine hK.out _ _ (P9.old U22 HP9.out) (fun _ => ?_)
                clear hK K
                (try simp only [Act.put]); (try simp only [List.setIfInBounds_toArray]); (try simp only [List.set_cons_succ]); (try simp only [List.set_cons_zero])
                refine wpAnyH_done (by kernel_rfl) ?_ _
                refine NoPanic.normal ?_
                generalize hwz : World.setCell _ _ _ = wz at *
                clear hwz
                have UZ := hid U22
                have y0 := NC.out
                have y1 := UZ.out.keep D6.out.cell
                have y2 := UZ.out.keepF D6.out.cell D6.out.free
                go_upto_region 15 with fail
                have D8 := hid (D6.out.put T6.out.lt UZ.out R3.out SM.out)
                have T8 := hid ((T6.out.up UZ.out).beside (((T6.out.up UZ.out).old).setCell (p := ⟨mb, 0, none⟩) D6.out.new (.slice p2 T2.length c2)) (Chg.set wz ⟨mb, 0, none⟩ (.slice p2 T2.length c2) (S := [mb]) (by simp)) (fun b hb q => by simp at q; subst q; exact D6.out.ap hb))
                clear y0 y1 y2 D6 T6 NC R3 SM DN HP9 B6 HPu HPt
                generalize wz.setCell ⟨mb, 0, none⟩ (.slice p2 T2.length c2) = w8 at *
                have y1 := D8.out.cell
                by_cases h100 : (k : Int) < 100
                · have HAl := hid (alike_any tb Bs6 ks' L' (.slice p2 T2.length c2) T2 w8 T8.out.tab T8.out.ok D8.out.row R2.out T8.out.tab.nod)
                  go_wp2_with (go_at_call 16; refine HAl.out.mono ?_; rintro e wq ⟨rfl, uq⟩; have UQ := hid uq; clear uq)
                  go_roundw
                  case rel => exact ⟨k + 1, Bs6, ks', L', p2, c2, T2, hlt, by go_num, T8.out.up UQ.out, V6.out, D8.out.up UQ.out, R2.out⟩
                  case measure => simp [intOf]; omega
                · go_wp2
                  go_roundw
                  case rel => exact ⟨k + 1, Bs6, ks', L', p2, c2, T2, hlt, by go_num, T8.out, V6.out, D8.out, R2.out⟩
                  case measure => simp [intOf]; omega
    · obtain rfl : k = n := by omega
      have HL1 := hid (look_any tb Bs ks L id seq wr TT.out.tab TT.out.ok HI.out HQ.out)
      have HL2 := hid (fun (W : World) (u : Old wr W) => rLook_any (.slice p T.length pc) T ks L id seq W (DD.out.row.old u) RR.out TT.out.ok TT.out.tab.nod TT.out.tab.nil)
      generalize hlv : lookV L id seq = lv at *
      generalize hlc : lookC ks L id seq = lc at *
      clear hlv hlc HC
      go_upto_region 19 with (go_at_call 11; refine HL1.out.mono ?_; rintro e w6 ⟨rfl, u6⟩; have U6 := hid u6; clear u6)
      generalize hw7 : w6.alloc (.cells #[.int .i64 lv.1, .int .i64 lv.2] 28) = w8 at *
      obtain ⟨_, _, hu8⟩ := verd_new w6 lv.1 lv.2 w8 hw7 _ rfl
      generalize w6.heap.size = va at *
      have U8 := hid (U6.out.trans hu8)
      clear hw7 hu8 U6 HL1
      have m0 := U8.out.keep DD.out.cell
      go_upto_region 20 with (go_at_call 13; refine (HL2.out _ U8.out).mono ?_; rintro e w9 ⟨ia, ib, rfl, u9⟩; have U9 := hid u9; clear u9)
      generalize hwa : w9.alloc (.cells #[.int .i64 ia, .int .i64 ib, .int .i64 lv.1, .int .i64 lv.2] 44) = w7 at *
      have UA := hid (show Old w9 w7 from by rw [← hwa]; exact (Old.refl _).alloc _)
      generalize w9.heap.size = vc at *
      have UB := hid (U8.out.trans (U9.out.trans UA.out))
      clear hwa HL2 m0 U9 UA U8
      have HP8 := hid (show P8 mb (.slice p T.length pc) w7 from UB.out.keep DD.out.cell)
      have HH1 := hid (fun (W : World) (u : Old w7 W) => high_any tb Bs ks L id W (TT.out.tab.old (UB.out.trans u)) TT.out.ok HI.out)
      have HH2 := hid (fun (W : World) (u : Old w7 W) => (rHighest_any (.slice p T.length pc) T id W (DD.out.row.old (UB.out.trans u))).mono (R' := fun e w' => e = .returned (.int .i64 (hiL (L id))) ∧ Old W w') (by
        rintro e w' ⟨rfl, u⟩
        exact ⟨by rw [RR.out.hi TT.out.ok id], u⟩))
      have HB1 := hid (fun (W : World) (u : Old w7 W) => bytes_any tb Bs ks L W (TT.out.tab.old (UB.out.trans u)) TT.out.ok V.out)
      have HB2 := hid (fun (W : World) (u : Old w7 W) => rBytes_any (.slice p T.length pc) T ks L W (DD.out.row.old (UB.out.trans u)) RR.out TT.out.ok V.out TT.out.tab.nod)
      have HOW := hid (TT.out.old.trans UB.out)
      generalize hhi : hiL (L id) = hi at *
      clear hhi TT V DD RR UB
      refine wp_region_noPanic ?_
      refine wp_region_held_drew (S := P8 mb (.slice p T.length pc)) (by kernel_rfl) ?_ (fun hHeld => ?_)
      · exact P8.old ((Old.refl w7).drew) HP8.out
      (try simp only [Act.put]); (try simp only [List.setIfInBounds_toArray]); (try simp only [List.set_cons_succ]); (try simp only [List.set_cons_zero])
      clear hHeld
      refine wpAnyH_take (i := 0) (oi := { dst := some 116, op := Op.move (Operand.tmp 19), type := 26, pos := "law.go:82", after := #[], guard := none }) (v := ?vk23) rfl (by kernel_rfl) (by kernel_rfl) (by kernel_rfl) (fun _ _ _ h => h) (Or.inl ⟨by rfl, ?hk23⟩) (P8.old ((Old.refl w7).drew) HP8.out) ?rk23
      case hk23 => (intro wz hSw; (try dsimp only at hSw); go_simp; try with_reducible rfl)
      (try simp only [Act.put]); (try simp only [List.setIfInBounds_toArray]); (try simp only [List.set_cons_succ]); (try simp only [List.set_cons_zero])
      refine wpAnyH_take (i := 1) (oi := { dst := some 117, op := Op.move (Operand.tmp 21), type := 3, pos := "law.go:82", after := #[], guard := none }) (v := ?vk24) rfl (by kernel_rfl) (by kernel_rfl) (by kernel_rfl) (fun _ _ _ h => h) (Or.inl ⟨by rfl, ?hk24⟩) (P8.old ((Old.refl w7).drew) HP8.out) ?rk24
      case hk24 => (intro wz hSw; (try dsimp only at hSw); go_simp; try with_reducible rfl)
      (try simp only [Act.put]); (try simp only [List.setIfInBounds_toArray]); (try simp only [List.set_cons_succ]); (try simp only [List.set_cons_zero])
      refine wpAnyH_take (i := 2) (oi := { dst := some 118, op := Op.binOp BinOp.eql 3 (Operand.tmp 116) (Operand.tmp 117) 3, type := 4, pos := "law.go:82", after := #[{ on := 0, ground := Ground.data }, { on := 1, ground := Ground.data }], guard := none }) (v := ?vk25) rfl (by kernel_rfl) (by kernel_rfl) (by kernel_rfl) (fun _ _ _ h => h) (Or.inl ⟨by rfl, ?hk25⟩) (P8.old ((Old.refl w7).drew) HP8.out) ?rk25
      case hk25 => (intro wz hSw; (try dsimp only at hSw); go_simp; try with_reducible rfl)
      (try simp only [Act.put]); (try simp only [List.setIfInBounds_toArray]); (try simp only [List.set_cons_succ]); (try simp only [List.set_cons_zero])
      refine wpAnyH_take (i := 3) (oi := { dst := some 119, op := Op.move (Operand.tmp 118), type := 4, pos := "law.go:82", after := #[{ on := 2, ground := Ground.data }], guard := none }) (v := ?vk26) rfl (by kernel_rfl) (by kernel_rfl) (by kernel_rfl) (fun _ _ _ h => h) (Or.inl ⟨by rfl, ?hk26⟩) (P8.old ((Old.refl w7).drew) HP8.out) ?rk26
      case hk26 => (intro wz hSw; (try dsimp only at hSw); go_simp; try with_reducible rfl)
      (try simp only [Act.put]); (try simp only [List.setIfInBounds_toArray]); (try simp only [List.set_cons_succ]); (try simp only [List.set_cons_zero])
      refine wpAnyH_take (i := 4) (oi := { dst := some 120, op := Op.move (Operand.tmp 7), type := 23, pos := "law.go:82", after := #[{ on := 3, ground := Ground.guard }], guard := some (3, true) }) (v := ?vk27) rfl (by kernel_rfl) (by kernel_rfl) (by kernel_rfl) (fun _ _ _ h => h) (Or.inl ⟨by rfl, ?hk27⟩) (P8.old ((Old.refl w7).drew) HP8.out) ?rk27
      case hk27 => (intro wz hSw; (try dsimp only at hSw); go_simp; try with_reducible rfl)
      (try simp only [Act.put]); (try simp only [List.setIfInBounds_toArray]); (try simp only [List.set_cons_succ]); (try simp only [List.set_cons_zero])
      refine wpAnyH_take (i := 5) (oi := { dst := some 121, op := Op.move (Operand.tmp 1), type := 2, pos := "law.go:82", after := #[{ on := 3, ground := Ground.guard }], guard := some (3, true) }) (v := ?vk28) rfl (by kernel_rfl) (by kernel_rfl) (by kernel_rfl) (fun _ _ _ h => h) (Or.inl ⟨by rfl, ?hk28⟩) (P8.old ((Old.refl w7).drew) HP8.out) ?rk28
      case hk28 => (intro wz hSw; (try dsimp only at hSw); go_simp; try with_reducible rfl)
      (try simp only [Act.put]); (try simp only [List.setIfInBounds_toArray]); (try simp only [List.set_cons_succ]); (try simp only [List.set_cons_zero])
      refine wpAnyH_take (i := 7) (oi := { dst := some 123, op := Op.load 42 (Operand.tmp 8), type := 42, pos := "law.go:82", after := #[{ on := 3, ground := Ground.guard }], guard := some (3, true) }) (v := ?vk29) rfl (by kernel_rfl) (by kernel_rfl) (by kernel_rfl) (fun _ _ _ h => h) (Or.inl ⟨by rfl, ?hk29⟩) (P8.old ((Old.refl w7).drew) HP8.out) ?rk29
      case hk29 => (intro wz hSw; (try dsimp only at hSw); go_simp; try with_reducible rfl)
      (try simp only [Act.put]); (try simp only [List.setIfInBounds_toArray]); (try simp only [List.set_cons_succ]); (try simp only [List.set_cons_zero])
      refine wpAnyH_take (i := 8) (oi := { dst := some 124, op := Op.move (Operand.tmp 1), type := 2, pos := "law.go:82", after := #[{ on := 3, ground := Ground.guard }], guard := some (3, true) }) (v := ?vk30) rfl (by kernel_rfl) (by kernel_rfl) (by kernel_rfl) (fun _ _ _ h => h) (Or.inl ⟨by rfl, ?hk30⟩) (P8.old ((Old.refl w7).drew) HP8.out) ?rk30
      case hk30 => (intro wz hSw; (try dsimp only at hSw); go_simp; try with_reducible rfl)
      (try simp only [Act.put]); (try simp only [List.setIfInBounds_toArray]); (try simp only [List.set_cons_succ]); (try simp only [List.set_cons_zero])
      refine wpAnyH_ready (rs := [6]) (by kernel_rfl) (by simp) ?_
      refine AllReadyH.cons (o := { dst := some 122, op := Op.call { callee := Callee.value (Operand.func 17), args := #[Operand.tmp 120, Operand.tmp 121], argTypes := #[23, 2] }, type := 2, pos := "law.go:82", after := #[{ on := 4, ground := Ground.data }, { on := 5, ground := Ground.data }, { on := 3, ground := Ground.chain }, { on := 3, ground := Ground.guard }], guard := some (3, true) }) rfl (fun K hK => ?_) AllReadyH.nil
      refine wantCall2 ?_ 17 (.tmp 120) (.tmp 121) #[23, 2] ?_ (.pointer (some ⟨tb, 0, none⟩)) (.int .i64 id) ?_ ?_ ?_ ((enters_of Try.func17 (by kernel_rfl) rfl) _ _) ?_
      · rfl
      · rfl
      · rfl
      · rfl
      · rfl
      refine (HH1.out _ ((Old.refl w7).drew)).mono ?_
      rintro o x31 ⟨rfl, u31'⟩
      have u31 := (((Old.refl w7).drew)).trans u31'
      clear u31'
      refine ⟨_, rfl, ?_⟩
      refine hK.out _ _ (P8.old u31 HP8.out) (fun _ => ?_)
      clear hK K
      (try simp only [Act.put]); (try simp only [List.setIfInBounds_toArray]); (try simp only [List.set_cons_succ]); (try simp only [List.set_cons_zero])
      refine wpAnyH_ready (rs := [9]) (by kernel_rfl) (by simp) ?_
      refine AllReadyH.cons (o := { dst := some 125, op := Op.call { callee := Callee.value (Operand.func 18), args := #[Operand.tmp 123, Operand.tmp 124], argTypes := #[42, 2] }, type := 2, pos := "law.go:82", after := #[{ on := 7, ground := Ground.data }, { on := 8, ground := Ground.data }, { on := 6, ground := Ground.chain }, { on := 3, ground := Ground.guard }], guard := some (3, true) }) rfl (fun K hK => ?_) AllReadyH.nil
      refine wantCall2 ?_ 18 (.tmp 123) (.tmp 124) #[42, 2] ?_ (.agg #[.slice p T.length pc]) (.int .i64 id) ?_ ?_ ?_ ((enters_of Try.func18 (by kernel_rfl) rfl) _ _) ?_
      · rfl
      · rfl
      · rfl
      · rfl
      · rfl
      refine (HH2.out _ u31).mono ?_
      rintro o x32 ⟨rfl, u32'⟩
      have u32 := (u31).trans u32'
      clear u32'
      refine ⟨_, rfl, ?_⟩
      refine hK.out _ _ (P8.old u32 HP8.out) (fun _ => ?_)
      clear hK K
      (try simp only [Act.put]); (try simp only [List.setIfInBounds_toArray]); (try simp only [List.set_cons_succ]); (try simp only [List.set_cons_zero])
      refine wpAnyH_take (i := 10) (oi := { dst := some 126, op := Op.binOp BinOp.eql 2 (Operand.tmp 122) (Operand.tmp 125) 2, type := 4, pos := "law.go:82", after := #[{ on := 6, ground := Ground.data }, { on := 9, ground := Ground.data }, { on := 3, ground := Ground.guard }], guard := some (3, true) }) (v := ?vk33) rfl (by kernel_rfl) (by kernel_rfl) (by kernel_rfl) (fun _ _ _ h => h) (Or.inl ⟨by rfl, ?hk33⟩) (P8.old u32 HP8.out) ?rk33
      case hk33 => (intro wz hSw; (try dsimp only at hSw); go_simp; try with_reducible rfl)
      (try simp only [Act.put]); (try simp only [List.setIfInBounds_toArray]); (try simp only [List.set_cons_succ]); (try simp only [List.set_cons_zero])
      refine wpAnyH_take (i := 11) (oi := { dst := some 127, op := Op.pick (Operand.tmp 119) (Operand.tmp 126) (Operand.const (Value.bool false)), type := 4, pos := "law.go:82", after := #[{ on := 3, ground := Ground.data }, { on := 10, ground := Ground.data }], guard := none }) (v := ?vk34) rfl (by kernel_rfl) (by kernel_rfl) (by kernel_rfl) (fun _ _ _ h => h) (Or.inl ⟨by rfl, ?hk34⟩) (P8.old u32 HP8.out) ?rk34
      case hk34 => (intro wz hSw; (try dsimp only at hSw); go_simp; try with_reducible rfl)
      (try simp only [Act.put]); (try simp only [List.setIfInBounds_toArray]); (try simp only [List.set_cons_succ]); (try simp only [List.set_cons_zero])
      refine wpAnyH_take (i := 12) (oi := { dst := some 128, op := Op.move (Operand.tmp 127), type := 4, pos := "law.go:82", after := #[{ on := 11, ground := Ground.data }, { on := 9, ground := Ground.chain }], guard := none }) (v := ?vk35) rfl (by kernel_rfl) (by kernel_rfl) (by kernel_rfl) (fun _ _ _ h => h) (Or.inl ⟨by rfl, ?hk35⟩) (P8.old u32 HP8.out) ?rk35
      case hk35 => (intro wz hSw; (try dsimp only at hSw); go_simp; try with_reducible rfl)
      (try simp only [Act.put]); (try simp only [List.setIfInBounds_toArray]); (try simp only [List.set_cons_succ]); (try simp only [List.set_cons_zero])
      refine wpAnyH_take (i := 13) (oi := { dst := some 129, op := Op.move (Operand.tmp 7), type := 23, pos := "law.go:82", after := #[{ on := 12, ground := Ground.guard }], guard := some (12, true) }) (v := ?vk36) rfl (by kernel_rfl) (by kernel_rfl) (by kernel_rfl) (fun _ _ _ h => h) (Or.inl ⟨by rfl, ?hk36⟩) (P8.old u32 HP8.out) ?rk36
      case hk36 => (intro wz hSw; (try dsimp only at hSw); go_simp; try with_reducible rfl)
      (try simp only [Act.put]); (try simp only [List.setIfInBounds_toArray]); (try simp only [List.set_cons_succ]); (try simp only [List.set_cons_zero])
      refine wpAnyH_take (i := 15) (oi := { dst := some 131, op := Op.load 42 (Operand.tmp 8), type := 42, pos := "law.go:82", after := #[{ on := 12, ground := Ground.guard }], guard := some (12, true) }) (v := ?vk37) rfl (by kernel_rfl) (by kernel_rfl) (by kernel_rfl) (fun _ _ _ h => h) (Or.inl ⟨by rfl, ?hk37⟩) (P8.old u32 HP8.out) ?rk37
      case hk37 => (intro wz hSw; (try dsimp only at hSw); go_simp; try with_reducible rfl)
      (try simp only [Act.put]); (try simp only [List.setIfInBounds_toArray]); (try simp only [List.set_cons_succ]); (try simp only [List.set_cons_zero])
      refine wpAnyH_ready (rs := [14]) (by kernel_rfl) (by simp) ?_
      refine AllReadyH.cons (o := { dst := some 130, op := Op.call { callee := Callee.value (Operand.func 10), args := #[Operand.tmp 129], argTypes := #[23] }, type := 34, pos := "law.go:82", after := #[{ on := 13, ground := Ground.data }, { on := 12, ground := Ground.chain }, { on := 12, ground := Ground.guard }], guard := some (12, true) }) rfl (fun K hK => ?_) AllReadyH.nil
      refine wantCall1 ?_ 10 (.tmp 129) #[23] ?_ (.pointer (some ⟨tb, 0, none⟩)) ?_ ?_ ((enters_of Try.func10 (by kernel_rfl) rfl) _ _) ?_
      · rfl
      · rfl
      · rfl
      · rfl
      refine (HB1.out _ u32).mono ?_
      rintro o x38 ⟨v4, S4, rfl, hp4, hs4, o4, u38'⟩
      have u38 := (u32).trans u38'
      clear u38'
      have P4 := hid hp4
      have Q4 := hid hs4
      have O4 := hid o4
      clear hp4 hs4 o4
      refine ⟨_, rfl, ?_⟩
      refine hK.out _ _ (P8.old u38 HP8.out) (fun _ => ?_)
      clear hK K
      (try simp only [Act.put]); (try simp only [List.setIfInBounds_toArray]); (try simp only [List.set_cons_succ]); (try simp only [List.set_cons_zero])
      refine wpAnyH_ready (rs := [16]) (by kernel_rfl) (by simp) ?_
      refine AllReadyH.cons (o := { dst := some 132, op := Op.call { callee := Callee.value (Operand.func 19), args := #[Operand.tmp 131], argTypes := #[42] }, type := 34, pos := "law.go:82", after := #[{ on := 15, ground := Ground.data }, { on := 14, ground := Ground.chain }, { on := 12, ground := Ground.guard }], guard := some (12, true) }) rfl (fun K hK => ?_) AllReadyH.nil
      refine wantCall1 ?_ 19 (.tmp 131) #[42] ?_ (.agg #[.slice p T.length pc]) ?_ ?_ ((enters_of Try.func19 (by kernel_rfl) rfl) _ _) ?_
      · rfl
      · rfl
      · rfl
      · rfl
      refine (HB2.out _ u38).mono ?_
      rintro o x39 ⟨v5, S5, rfl, hp5, hs5, o5, u39'⟩
      have u39 := (u38).trans u39'
      have ES := hid (sort_one P4.out hp5 (List.Perm.refl _) Q4.out hs5)
      have HSB := hid (fun (W : World) (u : Old x39 W) => sameBytesL v4 v5 _ W (OwnL.old' (OwnL.old' O4.out u39') u).row (by rw [ES.out]; exact (OwnL.old' o5 u).row))
      clear u39' hp5 hs5 o5
      refine ⟨_, rfl, ?_⟩
      refine hK.out _ _ (P8.old u39 HP8.out) (fun _ => ?_)
      clear hK K
      (try simp only [Act.put]); (try simp only [List.setIfInBounds_toArray]); (try simp only [List.set_cons_succ]); (try simp only [List.set_cons_zero])
      refine wpAnyH_ready (rs := [17]) (by kernel_rfl) (by simp) ?_
      refine AllReadyH.cons (o := { dst := some 133, op := Op.call { callee := Callee.value (Operand.func 12), args := #[Operand.tmp 130, Operand.tmp 132], argTypes := #[34, 34] }, type := 4, pos := "law.go:82", after := #[{ on := 14, ground := Ground.data }, { on := 16, ground := Ground.data }, { on := 16, ground := Ground.chain }, { on := 12, ground := Ground.guard }], guard := some (12, true) }) rfl (fun K hK => ?_) AllReadyH.nil
      refine wantCall2 ?_ 12 (.tmp 130) (.tmp 132) #[34, 34] ?_ (v4) (v5) ?_ ?_ ?_ ((enters_of Try.func12 (by kernel_rfl) rfl) _ _) ?_
      · rfl
      · rfl
      · rfl
      · rfl
      · rfl
      refine (HSB.out _ (Old.refl _)).mono ?_
      rintro o x40 ⟨rfl, u40'⟩
      have u40 := (u39).trans u40'
      clear u40'
      refine ⟨_, rfl, ?_⟩
      refine hK.out _ _ (P8.old u40 HP8.out) (fun _ => ?_)
      clear hK K
      (try simp only [Act.put]); (try simp only [List.setIfInBounds_toArray]); (try simp only [List.set_cons_succ]); (try simp only [List.set_cons_zero])
      refine wpAnyH_take (i := 18) (oi := { dst := some 134, op := Op.pick (Operand.tmp 128) (Operand.tmp 133) (Operand.const (Value.bool false)), type := 4, pos := "law.go:82", after := #[{ on := 12, ground := Ground.data }, { on := 17, ground := Ground.data }], guard := none }) (v := ?vk41) rfl (by kernel_rfl) (by kernel_rfl) (by kernel_rfl) (fun _ _ _ h => h) (Or.inl ⟨by rfl, ?hk41⟩) (P8.old u40 HP8.out) ?rk41
      case hk41 => (intro wz hSw; (try dsimp only at hSw); go_simp; try with_reducible rfl)
      (try simp only [Act.put]); (try simp only [List.setIfInBounds_toArray]); (try simp only [List.set_cons_succ]); (try simp only [List.set_cons_zero])
      refine wpAnyH_ready (rs := [19]) (by kernel_rfl) (by simp) ?_
      refine AllReadyH.cons (o := { dst := some 6, op := Op.assign (Operand.tmp 134), type := 4, pos := "law.go:82", after := #[{ on := 18, ground := Ground.data }, { on := 17, ground := Ground.chain }, { on := 0, ground := Ground.phase }, { on := 1, ground := Ground.phase }, { on := 2, ground := Ground.phase }, { on := 3, ground := Ground.phase }, { on := 4, ground := Ground.phase }, { on := 5, ground := Ground.phase }, { on := 6, ground := Ground.phase }, { on := 7, ground := Ground.phase }, { on := 8, ground := Ground.phase }, { on := 9, ground := Ground.phase }, { on := 10, ground := Ground.phase }, { on := 11, ground := Ground.phase }, { on := 12, ground := Ground.phase }, { on := 13, ground := Ground.phase }, { on := 14, ground := Ground.phase }, { on := 15, ground := Ground.phase }, { on := 16, ground := Ground.phase }, { on := 17, ground := Ground.phase }, { on := 18, ground := Ground.phase }], guard := none }) rfl (fun K hK => ?_) AllReadyH.nil
      go_simp
      refine hK.out _ _ (P8.old u40 HP8.out) (fun _ => ?_)
      clear hK K
      (try simp only [Act.put]); (try simp only [List.setIfInBounds_toArray]); (try simp only [List.set_cons_succ]); (try simp only [List.set_cons_zero])
      refine wpAnyH_done (by kernel_rfl) ?_ _
      refine NoPanic.normal ?_
      have UZ := hid u40
      go_wp2
      go_ret
      exact ⟨rfl, HOW.out.trans UZ.out⟩
end Go.Proofs.Ytgmoddfpinjofaa
