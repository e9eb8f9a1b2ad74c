/- The law's alike of layer 5; conditions: the disks lie in memory. -/
import Derived.Test.YtibeeamenhcngaaR5h
namespace Go.Proofs.Ytibeeamenhcngaa
open Go.RowKit Go.Lib
set_option linter.unusedVariables false
set_option linter.unusedSimpArgs false
set_option maxRecDepth 20000
theorem wantCall1 {P : Program} {ops : Array Oper} {o : Oper} {a : Act} {w : World} {K : Act → World → Prop} {Q : Exit → Act → World → Prop} {E : Prop} (hw : Region.wanted o (yielded ops a.tmps) = true) (F : FuncId) (x : Operand) (ts : Array TypeId)
    (hop : o.op = Op.call { callee := Callee.value (Operand.func F), args := #[x], argTypes := ts }) (v : Value) (hx : a.eval x = v) (hF : a.eval (Operand.func F) = .func (.func F) #[] #[])
    (henter : (callFunc F #[v]).run P w = .ok (.enter F #[v]) w)
    (hc : Calls P F #[v] w fun e w' => ∃ r, e = .returned r ∧ K (a.put o.dst r) w') :
    if Region.wanted o (yielded ops a.tmps) = true then Oper.wp P o a w K Q else E := by
  rw [if_pos hw]
  unfold Oper.wp
  simp [execOp, hop, resolve, invoke, hx, hF, Deferred.ofValue]
  rw [henter]
  refine hc.mono ?_
  rintro e w' ⟨r, rfl, hk⟩
  exact hk
theorem FCa.old {g : Nat} {x y : Value} {w w' : World} (o : Old w w') (h : w.cell? ⟨g, 0, none⟩ = some x ∧ w.cell? ⟨g, 1, none⟩ = some y) : w'.cell? ⟨g, 0, none⟩ = some x ∧ w'.cell? ⟨g, 1, none⟩ = some y := ⟨o.keep h.1, o.keep h.2⟩
theorem FCb.old {g k h' : Nat} {x y : Value} {w w' : World} (o : Old w w') (h : w.cell? ⟨g, k, none⟩ = some x ∧ w.cell? ⟨h', 0, none⟩ = some y) : w'.cell? ⟨g, k, none⟩ = some x ∧ w'.cell? ⟨h', 0, none⟩ = some y := ⟨o.keep h.1, o.keep h.2⟩
theorem OwnS.at5 {base : Nat} {w : World} {v : Value} {L : List ByteArray} (h : OwnS base w v L) : ∃ a c, v = .slice a L.length c ∧ L.length ≤ c ∧ L.length ≤ 9223372036854775807 ∧ ∀ i (hi : i < L.length), ∃ g, a = some ⟨g, 0, none⟩ ∧ w.cell? ⟨g, i, none⟩ = some (.string L[i]) := by
  rcases h.2 with ⟨rfl, e⟩ | ⟨g, cap, cur, rfl, hb, hg, h1, h2, h3, h4⟩
  · exact ⟨none, 0, by rw [e], by omega, by omega, fun i hi => by omega⟩
  · unfold maxLen at h2
    refine ⟨_, cap, rfl, h1, by omega, fun i hi => ⟨g, rfl, ?_⟩⟩
    rw [Go.Joins.cell_of_block hg, ← Array.getElem?_toList]
    have q : (cur.toList.take (L.length * 1))[i]? = cur.toList[i]? := by rw [List.getElem?_take, if_pos (by omega)]
    rw [← q, h4]
    simp [sv, hi]
theorem rlooseN (f : Fi) (w : World) (h : FiAt w f) (ll : Nat) (hl : (looL f.now f.safe).length = ll) : Calls Try.prog 45 #[.agg #[.string f.nm, .slice f.na f.now.length f.nc, .slice f.sa f.safe.length f.sc]] w fun e w' => ∃ a c, e = .returned (.slice a ll c) ∧ Old w w' :=
  (rloose_any f w h).mono fun e w' q => by
    obtain ⟨v, rfl, o, u⟩ := q
    obtain ⟨a, c, e⟩ := o.len
    refine ⟨a, c, ?_, u⟩
    have : (nI (lowL f.now f.safe)).length = ll := by rw [← hl, ← lowL_len]; simp [nI]
    rw [e, this]
set_option maxHeartbeats 8000000 in
set_option maxRecDepth 20000 in
theorem alike_any (w0 W : World) (db : Nat) (p : PD) (A : List Nat) (ya : Option Addr) (yc : Nat) (Y : List Fi) (dn : Bool) (fu : Int) (h : Dsk w0 W db p A) (hd : DocAt W (.slice ya Y.length yc) Y) (hr : RelD p (Y.map Fi.p) dn fu) : Calls Try.prog 21 #[.pointer (some ⟨db, 0, none⟩), .agg #[.slice ya Y.length yc, .bool dn, .int .i64 fu]] W fun e w' => e = .returned (.bool true) ∧ Old W w' := by
  have HK := hid h
  have HD := hid hd
  have HR := hid hr
  have HNd := hid h.nod
  have hlen : Y.length ≤ 256 := by have h1 := h.few; have h2 := hr.perm.length_eq; rw [List.length_map] at h2; omega
  have HYl := hid hlen
  have HNdF := hid (show ((Y.map Fi.p).map (·.1)).Nodup from ((hr.perm.map _).nodup_iff).2 h.nod)
  have HDw := hid hr.down
  have HLo := hid (show looN p.fs = looN (Y.map Fi.p) from (looN_perm hr.perm).symm)
  have HLle := hid (show ∀ i, looN ((Y.map Fi.p).take i) ≤ 524288 from fun i => by
    have h1 := looN_take_le ((Y.map Fi.p).take i) (fun q hq => by
      obtain ⟨y, hy, e⟩ := List.mem_map.1 (List.mem_of_mem_take hq)
      rw [← e]
      exact loo_few _ _ (hd.byt y hy).2.2.1)
    rw [List.length_take, List.length_map] at h1
    omega)
  have HRd := hid (fun (za : Option Addr) (zn zc : Nat) (hz : zn = Y.length) (W' : World) (s : ByteArray) (k : DocAt W' (.slice za zn zc) Y) => show Calls Try.prog 18 #[.agg #[.slice za zn zc, .bool dn, .int .i64 fu], .string s] W' (RdPost W' [] (readL p s) (readC p s)) from by
    subst hz
    have q := rread_any za zc Y dn fu s W' k hlen HNdF.out
    rw [(HR.out.read HNd.out s).1, (HR.out.read HNd.out s).2] at q
    exact q)
  obtain ⟨n, hn⟩ : ∃ n, n = Y.length := ⟨_, rfl⟩
  have HN := hid hn
  rw [← hn] at HD HYl ⊢
  have l9 : (n : Int) ≤ 256 := by omega
  clear h hd hr hlen hn
  go_enter Try.func21, Try.ntmps21
  go_upto_region 1 with (fail)
  have HB := hid (alloc_at W (.cells #[.slice ya n yc, .bool dn, .int .i64 fu] 45))
  have HU := hid (show Old W (W.alloc (.cells #[.slice ya n yc, .bool dn, .int .i64 fu] 45)) from (Old.refl W).alloc _)
  generalize W.alloc (.cells #[.slice ya n yc, .bool dn, .int .i64 fu] 45) = w1 at *
  obtain ⟨g0, hg0⟩ : ∃ g0, g0 = W.heap.size := ⟨_, rfl⟩
  rw [← hg0] at HB ⊢
  clear hg0
  go_upto_region 2 with (go_at_call 11; refine (namesD w0 _ db p A (HK.out.old HU.out)).mono ?_; rintro e w2 ⟨vn, S4, rfl, hS4, hP4, oS4, u4⟩; have HS4 := hid (And.intro hS4 hP4); have O4 := hid oS4; have U4 := hid u4; clear u4 hS4 hP4 oS4)
  obtain ⟨a4, c4, e4, lc4, lm4, hcell⟩ := O4.out.at5
  have eS : S4 = keysP (Y.map Fi.p) := rise_eq HS4.out.1 (HR.out.perm.map _) HS4.out.2 HR.out.rise
  have eL : S4.length = n := by rw [eS]; unfold keysP; rw [List.length_map, List.length_map, HN.out]
  have HCell := hid (show ∀ i (hi : i < Y.length), ∃ g, a4 = some ⟨g, 0, none⟩ ∧ w2.cell? ⟨g, i, none⟩ = some (.string Y[i].nm) from fun i hi => by
    obtain ⟨g, e, c⟩ := hcell i (by rw [eL, HN.out]; exact hi)
    refine ⟨g, e, ?_⟩
    rw [c]
    congr 2
    subst eS
    simp [keysP, Fi.p])
  rw [eL] at e4 lc4 lm4
  subst e4
  clear hcell eS eL HS4 O4
  have HU2 := hid (HU.out.trans U4.out)
  have HB2 := hid (U4.out.block HB.out)
  obtain ⟨x0, x1, x2, -, -, -⟩ := box3 HB2.out
  have HFC := hid (show w2.cell? ⟨g0, 0, none⟩ = some (.slice ya n yc) ∧ w2.cell? ⟨g0, 1, none⟩ = some (.bool dn) from ⟨x0, x1⟩)
  have HDn := hid (fun (W' : World) (u : Old w2 W') => show Calls Try.prog 22 #[.pointer (some ⟨db, 0, none⟩)] W' fun e w' => e = .returned (.bool dn) ∧ w' = W' from by
    have q := downD w0 W' db p A (HK.out.old (HU2.out.trans u))
    rw [← HDw.out] at q
    exact q)
  have bd : (dn != dn) = false := by simp
  go_upto_region 3 with (fail)
  clear x0 x1 x2
  refine wp_region_noPanic ?_
  refine wp_region_held_drew (S := fun wz => wz.cell? ⟨g0, 0, none⟩ = some (.slice ya n yc) ∧ wz.cell? ⟨g0, 1, none⟩ = some (.bool dn)) (by kernel_rfl) ?_ (fun hHeld => ?_)
  · exact (FCa.old ((Old.refl w2).drew) HFC.out)
  (try simp only [Act.put]); (try simp only [List.setIfInBounds_toArray]); (try simp only [List.set_cons_succ]); (try simp only [List.set_cons_zero])
  clear hHeld
  refine wpAnyH_take (i := 0) (oi := { dst := some 15, op := Op.move (Operand.tmp 5), type := 35, pos := "law.go:58", after := #[], guard := none }) (v := ?vk8) rfl (by kernel_rfl) (by kernel_rfl) (by kernel_rfl) (fun _ _ _ h => h) (Or.inl ⟨by rfl, ?hk8⟩) (FCa.old ((Old.refl w2).drew) HFC.out) ?rk8
  case hk8 => (intro wz hSw; (try dsimp only at hSw); go_simp; try with_reducible rfl)
  (try simp only [Act.put]); (try simp only [List.setIfInBounds_toArray]); (try simp only [List.set_cons_succ]); (try simp only [List.set_cons_zero])
  refine wpAnyH_take (i := 1) (oi := { dst := some 16, op := Op.call { callee := Callee.builtin Builtin.len, args := #[Operand.tmp 15], argTypes := #[35] }, type := 3, pos := "law.go:58", after := #[{ on := 0, ground := Ground.data }], guard := none }) (v := ?vk9) rfl (by kernel_rfl) (by kernel_rfl) (by kernel_rfl) (fun _ _ _ h => h) (Or.inl ⟨by rfl, ?hk9⟩) (FCa.old ((Old.refl w2).drew) HFC.out) ?rk9
  case hk9 => (intro wz hSw; (try dsimp only at hSw); go_simp; try with_reducible rfl)
  (try simp only [Act.put]); (try simp only [List.setIfInBounds_toArray]); (try simp only [List.set_cons_succ]); (try simp only [List.set_cons_zero])
  refine wpAnyH_take (i := 2) (oi := { dst := some 17, op := Op.fieldAddr 45 (Operand.tmp 3) 0, type := 0, pos := "law.go:58", after := #[], guard := none }) (v := ?vk10) rfl (by kernel_rfl) (by kernel_rfl) (by kernel_rfl) (fun _ _ _ h => h) (Or.inl ⟨by rfl, ?hk10⟩) (FCa.old ((Old.refl w2).drew) HFC.out) ?rk10
  case hk10 => (intro wz hSw; (try dsimp only at hSw); go_simp; try with_reducible rfl)
  (try simp only [Act.put]); (try simp only [List.setIfInBounds_toArray]); (try simp only [List.set_cons_succ]); (try simp only [List.set_cons_zero])
  refine wpAnyH_take (i := 3) (oi := { dst := some 18, op := Op.load 43 (Operand.tmp 17), type := 43, pos := "law.go:58", after := #[{ on := 2, ground := Ground.data }], guard := none }) (v := ?vk11) rfl (by kernel_rfl) (by kernel_rfl) (by kernel_rfl) (fun _ _ _ h => h) (Or.inl ⟨by rfl, ?hk11⟩) (FCa.old ((Old.refl w2).drew) HFC.out) ?rk11
  case hk11 => (intro wz hSw; (try dsimp only at hSw); go_simp; try with_reducible rfl)
  (try simp only [Act.put]); (try simp only [List.setIfInBounds_toArray]); (try simp only [List.set_cons_succ]); (try simp only [List.set_cons_zero])
  refine wpAnyH_take (i := 4) (oi := { dst := some 19, op := Op.call { callee := Callee.builtin Builtin.len, args := #[Operand.tmp 18], argTypes := #[43] }, type := 3, pos := "law.go:58", after := #[{ on := 3, ground := Ground.data }], guard := none }) (v := ?vk12) rfl (by kernel_rfl) (by kernel_rfl) (by kernel_rfl) (fun _ _ _ h => h) (Or.inl ⟨by rfl, ?hk12⟩) (FCa.old ((Old.refl w2).drew) HFC.out) ?rk12
  case hk12 => (intro wz hSw; (try dsimp only at hSw); go_simp; try with_reducible rfl)
  (try simp only [Act.put]); (try simp only [List.setIfInBounds_toArray]); (try simp only [List.set_cons_succ]); (try simp only [List.set_cons_zero])
  refine wpAnyH_take (i := 5) (oi := { dst := some 20, op := Op.binOp BinOp.neq 3 (Operand.tmp 16) (Operand.tmp 19) 3, type := 4, pos := "law.go:58", after := #[{ on := 1, ground := Ground.data }, { on := 4, ground := Ground.data }], guard := none }) (v := ?vk13) rfl (by kernel_rfl) (by kernel_rfl) (by kernel_rfl) (fun _ _ _ h => h) (Or.inl ⟨by rfl, ?hk13⟩) (FCa.old ((Old.refl w2).drew) HFC.out) ?rk13
  case hk13 => (intro wz hSw; (try dsimp only at hSw); go_simp; try with_reducible rfl)
  (try simp only [Act.put]); (try simp only [List.setIfInBounds_toArray]); (try simp only [List.set_cons_succ]); (try simp only [List.set_cons_zero])
  refine wpAnyH_take (i := 6) (oi := { dst := some 21, op := Op.move (Operand.tmp 20), type := 4, pos := "law.go:58", after := #[{ on := 5, ground := Ground.data }], guard := none }) (v := ?vk14) rfl (by kernel_rfl) (by kernel_rfl) (by kernel_rfl) (fun _ _ _ h => h) (Or.inl ⟨by rfl, ?hk14⟩) (FCa.old ((Old.refl w2).drew) HFC.out) ?rk14
  case hk14 => (intro wz hSw; (try dsimp only at hSw); go_simp; try with_reducible rfl)
  (try simp only [Act.put]); (try simp only [List.setIfInBounds_toArray]); (try simp only [List.set_cons_succ]); (try simp only [List.set_cons_zero])
  refine wpAnyH_take (i := 7) (oi := { dst := some 22, op := Op.move (Operand.tmp 0), type := 24, pos := "law.go:58", after := #[{ on := 6, ground := Ground.guard }], guard := some (6, false) }) (v := ?vk15) rfl (by kernel_rfl) (by kernel_rfl) (by kernel_rfl) (fun _ _ _ h => h) (Or.inl ⟨by rfl, ?hk15⟩) (FCa.old ((Old.refl w2).drew) HFC.out) ?rk15
  case hk15 => (intro wz hSw; (try dsimp only at hSw); go_simp; try with_reducible rfl)
  (try simp only [Act.put]); (try simp only [List.setIfInBounds_toArray]); (try simp only [List.set_cons_succ]); (try simp only [List.set_cons_zero])
  refine wpAnyH_take (i := 9) (oi := { dst := some 24, op := Op.fieldAddr 45 (Operand.tmp 3) 1, type := 0, pos := "law.go:58", after := #[{ on := 6, ground := Ground.guard }], guard := some (6, false) }) (v := ?vk16) rfl (by kernel_rfl) (by kernel_rfl) (by kernel_rfl) (fun _ _ _ h => h) (Or.inl ⟨by rfl, ?hk16⟩) (FCa.old ((Old.refl w2).drew) HFC.out) ?rk16
  case hk16 => (intro wz hSw; (try dsimp only at hSw); go_simp; try with_reducible rfl)
  (try simp only [Act.put]); (try simp only [List.setIfInBounds_toArray]); (try simp only [List.set_cons_succ]); (try simp only [List.set_cons_zero])
  refine wpAnyH_take (i := 10) (oi := { dst := some 25, op := Op.load 4 (Operand.tmp 24), type := 4, pos := "law.go:58", after := #[{ on := 9, ground := Ground.data }, { on := 6, ground := Ground.guard }], guard := some (6, false) }) (v := ?vk17) rfl (by kernel_rfl) (by kernel_rfl) (by kernel_rfl) (fun _ _ _ h => h) (Or.inl ⟨by rfl, ?hk17⟩) (FCa.old ((Old.refl w2).drew) HFC.out) ?rk17
  case hk17 => (intro wz hSw; (try dsimp only at hSw); go_simp; try with_reducible rfl)
  (try simp only [Act.put]); (try simp only [List.setIfInBounds_toArray]); (try simp only [List.set_cons_succ]); (try simp only [List.set_cons_zero])
  refine wpAnyH_ready (rs := [8]) (by kernel_rfl) (by simp) ?_
  refine AllReadyH.cons (o := { dst := some 23, op := Op.call { callee := Callee.value (Operand.func 22), args := #[Operand.tmp 22], argTypes := #[24] }, type := 4, pos := "law.go:58", after := #[{ on := 7, ground := Ground.data }, { on := 6, ground := Ground.chain }, { on := 6, ground := Ground.guard }], guard := some (6, false) }) rfl (fun K hK => ?_) AllReadyH.nil
  refine wantCall1 ?_ 22 (.tmp 22) #[24] ?_ (.pointer (some ⟨db, 0, none⟩)) ?_ ?_ ((enters_of Try.func22 (by kernel_rfl) rfl) _ _) ?_
  · rfl
  · rfl
  · rfl
  · rfl
  refine (HDn.out _ ((Old.refl w2).drew)).mono ?_
  rintro o x18 ⟨rfl, hw⟩
  have hw2 := hw.symm
  subst hw2
  clear hw
  refine ⟨_, rfl, ?_⟩
  refine hK.out _ _ (FCa.old ((Old.refl w2).drew) HFC.out) (fun _ => ?_)
  clear hK K
  (try simp only [Act.put]); (try simp only [List.setIfInBounds_toArray]); (try simp only [List.set_cons_succ]); (try simp only [List.set_cons_zero])
  refine wpAnyH_take (i := 11) (oi := { dst := some 26, op := Op.binOp BinOp.neq 4 (Operand.tmp 23) (Operand.tmp 25) 4, type := 4, pos := "law.go:58", after := #[{ on := 8, ground := Ground.data }, { on := 10, ground := Ground.data }, { on := 6, ground := Ground.guard }], guard := some (6, false) }) (v := ?vk19) rfl (by kernel_rfl) (by kernel_rfl) (by kernel_rfl) (fun _ _ _ h => h) (Or.inl ⟨by rfl, ?hk19⟩) (FCa.old ((Old.refl w2).drew) HFC.out) ?rk19
  case hk19 => (intro wz hSw; (try dsimp only at hSw); go_simp; try with_reducible rfl)
  (try simp only [Act.put]); (try simp only [List.setIfInBounds_toArray]); (try simp only [List.set_cons_succ]); (try simp only [List.set_cons_zero])
  refine wpAnyH_take (i := 12) (oi := { dst := some 27, op := Op.pick (Operand.tmp 21) (Operand.const (Value.bool true)) (Operand.tmp 26), type := 4, pos := "law.go:58", after := #[{ on := 6, ground := Ground.data }, { on := 11, ground := Ground.data }], guard := none }) (v := ?vk20) rfl (by kernel_rfl) (by kernel_rfl) (by kernel_rfl) (fun _ _ _ h => h) (Or.inl ⟨by rfl, ?hk20⟩) (FCa.old ((Old.refl w2).drew) HFC.out) ?rk20
  case hk20 => (intro wz hSw; (try dsimp only at hSw); go_simp; try with_reducible rfl)
  (try simp only [Act.put]); (try simp only [List.setIfInBounds_toArray]); (try simp only [List.set_cons_succ]); (try simp only [List.set_cons_zero])
  refine wpAnyH_done (by kernel_rfl) ?_ _
  refine NoPanic.normal ?_
  have HU3 := hid (HU2.out.trans ((Old.refl w2).drew))
  have HC3 := hid (show Old w2 (World.drew w2) from (Old.refl w2).drew)
  have HB3 := hid (HC3.out.block HB2.out)
  clear HFC HDn
  generalize World.drew w2 = w3 at *
  obtain ⟨x0, x1, x2, -, -, -⟩ := box3 HB3.out
  go_wp2
  go_loopw [6, 31] (fun nv c wr => ∃ (i nn : Nat), i ≤ n ∧ c = .int .i64 (i : Nat) ∧ nv = .int .i64 (nn : Nat) ∧ nn = looN ((Y.map Fi.p).take i) ∧ Old w3 wr) (fun _ c _ => n - (intOf c).toNat)
  case atStart => exact ⟨0, 0, Nat.zero_le _, rfl, rfl, rfl, Old.refl _⟩
  case round =>
    obtain ⟨i, nn, hi, rfl, rfl, hnn, hU⟩ := hrel
    have HNn := hid hnn
    have HUr := hid hU
    have l8 : (nn : Int) ≤ 524288 := by have := HLle.out i; omega
    clear hnn hU
    clear x0 x1 x2
    obtain ⟨x0, x1, x2, -, -, -⟩ := box3 (HUr.out.block HB3.out)
    by_cases hlt : i < n
    · have hil : i < Y.length := by rw [← HN.out]; exact hlt
      obtain ⟨gy, cy, qy, hyc, hym, ⟨y0, y1, y2⟩⟩ := HD.out.row.at i hil
      obtain ⟨ey, -, ec⟩ := Value.slice.inj qy
      subst ey ec
      have k0 := (HU3.out.trans HUr.out).keep y0
      have k1 := (HU3.out.trans HUr.out).keep y1
      have k2 := (HU3.out.trans HUr.out).keep y2
      have l2 : (0 : Int) ≤ (i : Int) := by omega
      have l3 : (i : Int) < (n : Int) := by omega
      rw [← HN.out] at hyc
      obtain ⟨gn, eg, ncell⟩ := HCell.out i hil
      subst eg
      have HTk := hid (show (Y.map Fi.p).take (i + 1) = (Y.map Fi.p).take i ++ [Y[i].p] from by rw [List.take_add_one, List.getElem?_map, List.getElem?_eq_getElem hil]; rfl)
      have HBq := hid (HD.out.byt _ (List.getElem_mem hil))
      have HNc := hid ncell
      clear y0 y1 y2 qy ncell
      generalize Y[i] = y at *
      clear hil
      obtain ⟨ll, hll⟩ : ∃ ll, (looL y.now y.safe).length = ll := ⟨_, rfl⟩
      have HLs := hid (fun (W' : World) (u : Old W W') => rlooseN y W' (HBq.out.old u) ll hll)
      have HLL := hid hll
      have l12 : (ll : Int) ≤ 2048 := by have := loo_few y.now y.safe HBq.out.2.2.1; omega
      have HNx := hid (show looN ((Y.map Fi.p).take (i + 1)) = nn + ll from by rw [HTk.out, looN_app, ← HNn.out, ← hll]; rfl)
      obtain ⟨nm, hnm⟩ : ∃ nm, nm = y.nm := ⟨_, rfl⟩
      rw [← hnm] at k0 HNc HLs
      clear hll hnm
      go_upto_region 8 with (fail)
      have HV := hid (show Old wr (wr.alloc (.cells #[.string nm, .slice y.na y.now.length y.nc, .slice y.sa y.safe.length y.sc] 83)) from (Old.refl wr).alloc _)
      have HB8 := hid (alloc_at wr (.cells #[.string nm, .slice y.na y.now.length y.nc, .slice y.sa y.safe.length y.sc] 83))
      clear k0 k1 k2 x0 x1 x2
      generalize wr.alloc (.cells #[.string nm, .slice y.na y.now.length y.nc, .slice y.sa y.safe.length y.sc] 83) = w5 at *
      obtain ⟨b8, hb8⟩ : ∃ b8, b8 = wr.heap.size := ⟨_, rfl⟩
      rw [← hb8] at HB8 ⊢
      clear hb8
      have HU5 := hid (show Old W w5 from (HU3.out.trans HUr.out).trans HV.out)
      obtain ⟨t0, t1, t2, -, -, -⟩ := box3 HB8.out
      go_upto_region 9 with (go_at_call 45; refine (HLs.out _ HU5.out).mono ?_; rintro e w6 ⟨a6, c6, rfl, u6⟩; have U6 := hid u6; clear u6)
      have HU6 := hid (HU5.out.trans U6.out)
      have HUw := hid (show Old w3 w6 from HUr.out.trans (HV.out.trans U6.out))
      clear t0 t1 t2
      obtain ⟨t0, t1, t2, -, -, -⟩ := box3 (U6.out.block HB8.out)
      have q0 := (HC3.out.trans HUw.out).keep HNc.out
      have HFb := hid (show w6.cell? ⟨gn, i, none⟩ = some (.string nm) ∧ w6.cell? ⟨b8, 0, none⟩ = some (.string nm) from ⟨q0, t0⟩)
      have HT8 := hid (U6.out.block HB8.out)
      clear t0 t1 t2 q0
      refine wp_region_noPanic ?_
      refine wp_region_held_drew (S := fun wz => wz.cell? ⟨gn, i, none⟩ = some (.string nm) ∧ wz.cell? ⟨b8, 0, none⟩ = some (.string nm)) (by kernel_rfl) ?_ (fun hHeld => ?_)
      · exact (FCb.old ((Old.refl w6).drew) HFb.out)
      (try simp only [Act.put]); (try simp only [List.setIfInBounds_toArray]); (try simp only [List.set_cons_succ]); (try simp only [List.set_cons_zero])
      clear hHeld
      refine wpAnyH_take (i := 0) (oi := { dst := some 41, op := Op.move (Operand.tmp 5), type := 35, pos := "law.go:63", after := #[], guard := none }) (v := ?vk1) rfl (by kernel_rfl) (by kernel_rfl) (by kernel_rfl) (fun _ _ _ h => h) (Or.inl ⟨by rfl, ?hk1⟩) (FCb.old ((Old.refl w6).drew) HFb.out) ?rk1
      case hk1 => (intro wz hSw; (try dsimp only at hSw); go_simp; try with_reducible rfl)
      (try simp only [Act.put]); (try simp only [List.setIfInBounds_toArray]); (try simp only [List.set_cons_succ]); (try simp only [List.set_cons_zero])
      refine wpAnyH_take (i := 1) (oi := { dst := some 42, op := Op.move (Operand.tmp 7), type := 3, pos := "law.go:63", after := #[], guard := none }) (v := ?vk2) rfl (by kernel_rfl) (by kernel_rfl) (by kernel_rfl) (fun _ _ _ h => h) (Or.inl ⟨by rfl, ?hk2⟩) (FCb.old ((Old.refl w6).drew) HFb.out) ?rk2
      case hk2 => (intro wz hSw; (try dsimp only at hSw); go_simp; try with_reducible rfl)
      (try simp only [Act.put]); (try simp only [List.setIfInBounds_toArray]); (try simp only [List.set_cons_succ]); (try simp only [List.set_cons_zero])
      refine wpAnyH_take (i := 2) (oi := { dst := some 43, op := Op.indexAddr 35 (Operand.tmp 41) (Operand.tmp 42), type := 0, pos := "law.go:63", after := #[{ on := 0, ground := Ground.data }, { on := 1, ground := Ground.data }], guard := none }) (v := ?vk3) rfl (by kernel_rfl) (by kernel_rfl) (by kernel_rfl) (fun _ _ _ h => h) (Or.inl ⟨by rfl, ?hk3⟩) (FCb.old ((Old.refl w6).drew) HFb.out) ?rk3
      case hk3 => (intro wz hSw; (try dsimp only at hSw); go_simp; try with_reducible rfl)
      (try simp only [Act.put]); (try simp only [List.setIfInBounds_toArray]); (try simp only [List.set_cons_succ]); (try simp only [List.set_cons_zero])
      refine wpAnyH_take (i := 3) (oi := { dst := some 44, op := Op.load 9 (Operand.tmp 43), type := 9, pos := "law.go:63", after := #[{ on := 2, ground := Ground.data }], guard := none }) (v := ?vk4) rfl (by kernel_rfl) (by kernel_rfl) (by kernel_rfl) (fun _ _ _ h => h) (Or.inl ⟨by rfl, ?hk4⟩) (FCb.old ((Old.refl w6).drew) HFb.out) ?rk4
      case hk4 => (intro wz hSw; (try dsimp only at hSw); go_simp; try with_reducible rfl)
      (try simp only [Act.put]); (try simp only [List.setIfInBounds_toArray]); (try simp only [List.set_cons_succ]); (try simp only [List.set_cons_zero])
      refine wpAnyH_take (i := 4) (oi := { dst := some 45, op := Op.fieldAddr 83 (Operand.tmp 8) 0, type := 0, pos := "law.go:63", after := #[], guard := none }) (v := ?vk5) rfl (by kernel_rfl) (by kernel_rfl) (by kernel_rfl) (fun _ _ _ h => h) (Or.inl ⟨by rfl, ?hk5⟩) (FCb.old ((Old.refl w6).drew) HFb.out) ?rk5
      case hk5 => (intro wz hSw; (try dsimp only at hSw); go_simp; try with_reducible rfl)
      (try simp only [Act.put]); (try simp only [List.setIfInBounds_toArray]); (try simp only [List.set_cons_succ]); (try simp only [List.set_cons_zero])
      refine wpAnyH_take (i := 5) (oi := { dst := some 46, op := Op.load 9 (Operand.tmp 45), type := 9, pos := "law.go:63", after := #[{ on := 4, ground := Ground.data }], guard := none }) (v := ?vk6) rfl (by kernel_rfl) (by kernel_rfl) (by kernel_rfl) (fun _ _ _ h => h) (Or.inl ⟨by rfl, ?hk6⟩) (FCb.old ((Old.refl w6).drew) HFb.out) ?rk6
      case hk6 => (intro wz hSw; (try dsimp only at hSw); go_simp; try with_reducible rfl)
      (try simp only [Act.put]); (try simp only [List.setIfInBounds_toArray]); (try simp only [List.set_cons_succ]); (try simp only [List.set_cons_zero])
      refine wpAnyH_take (i := 6) (oi := { dst := some 47, op := Op.binOp BinOp.neq 9 (Operand.tmp 44) (Operand.tmp 46) 9, type := 4, pos := "law.go:63", after := #[{ on := 3, ground := Ground.data }, { on := 5, ground := Ground.data }], guard := none }) (v := ?vk7) rfl (by kernel_rfl) (by kernel_rfl) (by kernel_rfl) (fun _ _ _ h => h) (Or.inl ⟨by rfl, ?hk7⟩) (FCb.old ((Old.refl w6).drew) HFb.out) ?rk7
      case hk7 => (intro wz hSw; (try dsimp only at hSw); go_simp; try with_reducible rfl)
      (try simp only [Act.put]); (try simp only [List.setIfInBounds_toArray]); (try simp only [List.set_cons_succ]); (try simp only [List.set_cons_zero])
      refine wpAnyH_done (by kernel_rfl) ?_ _
      refine NoPanic.normal ?_
      have HU7 := hid (HU6.out.trans ((Old.refl w6).drew))
      have HUx := hid (HUw.out.trans ((Old.refl w6).drew))
      have HT9 := hid (((Old.refl w6).drew).block HT8.out)
      clear HFb HT8
      generalize World.drew w6 = w7 at *
      obtain ⟨t0, t1, t2, -, -, -⟩ := box3 HT9.out
      obtain ⟨x0, x1, x2, -, -, -⟩ := box3 (HUx.out.block HB3.out)
      obtain ⟨rc, hrc⟩ : ∃ rc, readC p nm = rc := ⟨_, rfl⟩
      obtain ⟨rl, hrl⟩ : ∃ rl, readL p nm = rl := ⟨_, rfl⟩
      have HR1 := hid (show Calls Try.prog 12 #[.pointer (some ⟨db, 0, none⟩), .string nm] w7 fun e w' => ∃ v', e = .returned (.tuple #[v', .int .i64 rc]) ∧ Own w' v' rl ∧ Old w7 w' from by rw [← hrc, ← hrl]; exact (readD w0 w7 db p A nm (HK.out.old HU7.out)).mono fun e w' q => by obtain ⟨v', q1, q2, q3, -⟩ := q; exact ⟨v', q1, q2, q3⟩)
      have HR2 := hid (fun (W' : World) (u : Old w7 W') => show Calls Try.prog 18 #[.agg #[.slice (some ⟨gy, 0, none⟩) n yc, .bool dn, .int .i64 fu], .string nm] W' (RdPost W' [] rl rc) from by rw [← hrc, ← hrl]; exact HRd.out (some ⟨gy, 0, none⟩) n yc HN.out W' nm (HD.out.old (HU7.out.trans u)))
      clear hrc hrl
      go_upto_region 12 with (go_at_call 12; refine HR1.out.mono ?_; rintro e w8 ⟨v8, rfl, o8, u8⟩; obtain ⟨a8, c8, e8⟩ := o8.len; subst e8; have O8 := hid o8; have U8 := hid u8; have j0 := u8.keep t0; have m0 := u8.keep x0; have m1 := u8.keep x1; have m2 := u8.keep x2; clear o8 u8)
      clear t0 t1 t2 x0 x1 x2
      go_wp2_with (first | (go_at_call 18; refine (HR2.out _ U8.out).mono ?_; rintro e w10 ⟨v10, rfl, o10, u10, a10, m10, c10, e10⟩; subst e10; have O10 := hid o10; have O8b := hid (O8.out.old u10); have U10 := hid (U8.out.trans u10); clear o10 u10) | (go_at_call 13; refine (sameL _ _ rl _ O8b.out.row O10.out.row).mono ?_; rintro e w11 ⟨rfl, u11⟩; have U11 := hid (U10.out.trans u11); clear u11))
      go_roundw
      case rel => exact ⟨i + 1, nn + ll, hlt, by go_num, by go_num, HNx.out.symm, HUx.out.trans U11.out⟩
      case measure => simp [intOf]; omega
    · obtain rfl : i = n := by omega
      have l3 : ¬ (i : Int) < (i : Int) := by omega
      have HE := hid (show nn = looN p.fs from by rw [HNn.out, HN.out, HLo.out, List.take_of_length_le (by rw [List.length_map]; exact Nat.le_refl _)])
      have HUf := hid (HU3.out.trans HUr.out)
      have HLc := hid (show Calls Try.prog 10 #[.pointer (some ⟨db, 0, none⟩)] wr fun e w' => e = .returned (.int .i64 (nn : Nat)) ∧ Old wr w' from by rw [HE.out]; exact looseD w0 wr db p A (HK.out.old HUf.out))
      clear hlt hi
      go_wp2_with (go_at_call 10; refine HLc.out.mono ?_; rintro e w9 ⟨rfl, u9⟩; have U9 := hid u9; clear u9)
      go_ret
      exact ⟨rfl, HUf.out.trans U9.out⟩
end Go.Proofs.Ytibeeamenhcngaa
