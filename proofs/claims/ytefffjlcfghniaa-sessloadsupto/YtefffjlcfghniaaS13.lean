/- The document's Bytes of layer 13; conditions: the row lies in memory and is the table's. -/
import Derived.Test.YtefffjlcfghniaaS12
namespace Go.Proofs.Ytefffjlcfghniaa
open Go.RowKit Go.Lib
set_option linter.unusedVariables false
set_option linter.unusedSimpArgs false
set_option maxRecDepth 20000
/-- Bytes of the call's own, and what else has grown since. -/
structure ORel (w1 w5 : World) (u : Value) (W : World) (v : Value) (A : List Nat) : Prop where
  own : Pk.OwnL w1.heap.size W v A
  old : Old w1 W
  grew : Pk.Grew w5 u W v
theorem Grew.of_old {w w' : World} (u : Old w w') (v : Value) : Pk.Grew w v w' v := ⟨⟨u.os, u.tape, u.output, u.size, fun k hk _ => Below.block u k hk⟩, .inl rfl⟩
theorem ORel.up {w1 w5 : World} {u : Value} {W W' : World} {v : Value} {A : List Nat} (h : ORel w1 w5 u W v A) (o : Old W W') : ORel w1 w5 u W' v A := ⟨OwnL.old' h.own o, h.old.trans o, h.grew.trans (Grew.of_old o v)⟩
theorem joinG {base b2 : Nat} {w : World} {v u : Value} {A B : List Nat} (ho : Pk.OwnL base w v A) (hn : Pk.OwnL b2 w u B) (hb : base ≤ w.heap.size) (hv : ∀ k, v.ownBlock = some k → k < b2) (hl : A.length + B.length ≤ 1000000) :
    Calls Try.prog 57 #[v, u] w fun e w' => ∃ v', e = .returned v' ∧ Pk.OwnL base w' v' (A ++ B) ∧ Pk.Grew w v w' v' := by
  refine (Pk.join_any base v u A.length B.length (Pk.gd A) (Pk.gd B) (by omega) w ho hb hn.row ?_).mono ?_
  · by_cases h0 : B.length = 0
    · exact .inl h0
    · right
      intro e
      cases hk : u.ownBlock with
      | none =>
        rcases hn.own.2 with ⟨_, q⟩ | ⟨g, cap, cur, q, _⟩
        · exact h0 q
        · rw [q] at hk; simp [Value.ownBlock] at hk
      | some k =>
        rw [hk] at e
        have h1 := hv k e.symm
        have h2 := (OwnL.lt' hn k hk).1
        omega
  · rintro e w' ⟨v', rfl, o, g⟩
    exact ⟨v', rfl, Pk.OwnL.app o, g⟩
theorem wantCall2 {P : Program} {ops : Array Oper} {o : Oper} {a : Act} {w : World} {K : Act → World → Prop} {Q : Exit → Act → World → Prop} {E : Prop} (hw : Region.wanted o (yielded ops a.tmps) = true) (F : FuncId) (x y : Operand) (ts : Array TypeId)
    (hop : o.op = Op.call { callee := Callee.value (Operand.func F), args := #[x, y], argTypes := ts }) (u v : Value) (hx : a.eval x = u) (hy : a.eval y = v) (hF : a.eval (Operand.func F) = .func (.func F) #[] #[])
    (henter : (callFunc F #[u, v]).run P w = .ok (.enter F #[u, v]) w)
    (hc : Calls P F #[u, v] w fun e w' => ∃ r, e = .returned r ∧ K (a.put o.dst r) w') :
    if Region.wanted o (yielded ops a.tmps) = true then Oper.wp P o a w K Q else E := by
  rw [if_pos hw]
  unfold Oper.wp
  simp [execOp, hop, resolve, invoke, hx, hy, hF, Deferred.ofValue]
  rw [henter]
  refine hc.mono ?_
  rintro e w' ⟨r, rfl, hk⟩
  exact hk
abbrev KB (tb g o : Nat) (v : Value) (z : Int) : World → Prop := fun wz => wz.cell? ⟨tb, 0, none⟩ = some v ∧ wz.cell? ⟨g, o, none⟩ = some (.int .i64 z)
theorem KB.old {tb g o : Nat} {v : Value} {z : Int} {w w' : World} (u : Old w w') (h : KB tb g o v z w) : KB tb g o v z w' := ⟨u.keep h.1, u.keep h.2⟩
abbrev KC (g o : Nat) (x : It) : World → Prop := fun wz => wz.cell? ⟨g, o + 1, none⟩ = some (.int .i64 x.n) ∧ wz.cell? ⟨g, o + 2, none⟩ = some (.int .i64 x.c) ∧ wz.cell? ⟨g, o + 3, none⟩ = some (.int .i64 x.m)
theorem KC.far {g o : Nat} {x : It} {w1 w5 W : World} {u v : Value} {A : List Nat} (h : KC g o x w5) (hn : some g ≠ u.ownBlock) (r : ORel w1 w5 u W v A) : KC g o x W := ⟨r.grew.by_.cell h.1 hn, r.grew.by_.cell h.2.1 hn, r.grew.by_.cell h.2.2 hn⟩
theorem numB_len : ∀ (Z : List Int), (∀ z ∈ Z, N64 z) → (numB Z).length ≤ 10 * Z.length
  | [], _ => by simp [numB]
  | z :: Z, h => by
    have h1 := numB_len Z (fun y hy => h y (List.mem_cons_of_mem _ hy))
    have hz := h z (by simp)
    have h2 := (Pk.num_len z hz.1 hz.2).2
    unfold numB at h1 ⊢
    rw [List.flatMap_cons, List.length_append, List.length_cons]
    omega
theorem itN_n64 {ks : List Int} {L : Int → List It} (hk : TOk ks L) (hv : VOk L) (id : Int) : ∀ z ∈ itN (L id), N64 z := by
  intro z hz
  unfold itN at hz
  obtain ⟨y, hy, hz⟩ := List.mem_flatMap.1 hz
  have h1 := hk.seq id y hy
  have h2 := hv id y hy
  simp only [List.mem_cons, List.not_mem_nil, or_false] at hz
  rcases hz with rfl | rfl | rfl <;> exact ⟨by omega, by omega⟩
theorem tabN_n64 {ks S : List Int} {L : Int → List It} (hk : TOk ks L) (hv : VOk L) (hp : S.Perm ks) (k : Nat) : ∀ z ∈ tabN L S k, N64 z := by
  intro z hz
  have hm := hk.many
  have hl := hp.length_eq
  unfold tabN at hz
  rcases List.mem_cons.1 hz with rfl | hz
  · exact ⟨by omega, by omega⟩
  · obtain ⟨id, hid', hz⟩ := List.mem_flatMap.1 hz
    have hr := hk.rng id (hp.mem_iff.1 (List.mem_of_mem_take hid'))
    have hh := hk.hi id
    have hl := hk.len id
    unfold secN at hz
    rcases List.mem_append.1 hz with hz | hz
    · simp only [List.mem_cons, List.not_mem_nil, or_false] at hz
      rcases hz with rfl | rfl | rfl <;> exact ⟨by omega, by omega⟩
    · exact itN_n64 hk hv id z hz
theorem itN_take (R : List It) (j : Nat) : ∀ z ∈ itN (R.take j), z ∈ itN R := by
  intro z hz
  unfold itN at hz ⊢
  obtain ⟨y, hy, hz⟩ := List.mem_flatMap.1 hz
  exact List.mem_flatMap.2 ⟨y, List.mem_of_mem_take hy, hz⟩
set_option maxHeartbeats 2000000 in
set_option maxRecDepth 20000 in
theorem rnumG (w1 w5 : World) (u v : Value) (A : List Nat) (z : Int) (w : World) (hz : N64 z) (hA : A.length ≤ 100000) (h : ORel w1 w5 u w v A) :
    Calls Try.prog 40 #[v, .int .i64 z] w fun e w' => ∃ v', e = .returned v' ∧ ORel w1 w5 u w' v' (A ++ Pk.numL z) := by
  have HR := hid h
  obtain ⟨pa, ca, rfl⟩ := OwnL.slice' h.own
  clear h
  have HN := hid (fun W => refNum_old z hz.1 hz.2 W)
  have HNl := hid (Pk.num_len z hz.1 hz.2).2
  clear hz
  go_enter Try.func40, Try.ntmps40
  go_wp2_with (first | (go_at_call 39; refine (HN.out _).mono ?_; rintro e w2 ⟨v2, rfl, o2, u2⟩; have U2 := hid u2; have O2 := hid o2; clear u2 o2) | (go_at_call 57; refine (joinG (HR.out.up U2.out).own O2.out (HR.out.up U2.out).old.size (fun j e => (OwnL.lt' HR.out.own j e).2) (by have := HNl.out; omega)).mono ?_; rintro e w3 ⟨v3, rfl, o3, g3⟩; have O3 := hid o3; have G3 := hid g3; clear o3 g3))
  go_ret
  exact ⟨_, rfl, O3.out, Below.grown (HR.out.up U2.out).old G3.out.by_ (HR.out.up U2.out).old.size (fun k e => (OwnL.lt' HR.out.own k e).1), (HR.out.up U2.out).grew.trans G3.out⟩
theorem sess_perm {T : List Opv} {ks O : List Int} {L : Int → List It} (h : Rel T ks L) (hk : TOk ks L) (hn : ks.Nodup) (hO : SessR T O) : O.Perm ks :=
  (List.perm_ext_iff_of_nodup (hO.rise.imp (fun h => by omega)) hn).2 (h.sess hk hO)
theorem keptC {base : Nat} {w : World} {p : Option Addr} {c m : Nat} {O : List Opv} {R : List It} (h : OwnO base w (.slice p m c) O) (hm : O.map (·.x) = R) (hl : R.length ≤ 8) : m = R.length ∧ ∀ j, j < m → ∃ b, base ≤ b ∧ p = some ⟨b, 0, none⟩ ∧ KC b (j * 4) (atI R j) w := by
  have hlen : O.length = R.length := by rw [← hm, List.length_map]
  obtain ⟨_, p', c', e, hc⟩ := h.rrow (by omega)
  cases e
  refine ⟨hlen, fun j hj => ?_⟩
  obtain ⟨b, rfl, c0, c1, c2, c3⟩ := hc j hj
  have hx : (opA O j).x = atI R j := by
    rw [← hm]
    unfold opA atI
    rw [List.getD_eq_getElem?_getD, List.getElem?_eq_getElem hj]
    simp [List.getElem?_eq_getElem hj]
  rw [← hx]
  exact ⟨b, (World.ownsRow.lt h b rfl).1, rfl, c1, c2, c3⟩
set_option maxHeartbeats 4000000 in
set_option maxRecDepth 20000 in
theorem rBytes_any (v : Value) (T : List Opv) (ks : List Int) (L : Int → List It) (w : World) (hv : RRow w v T) (hRel : Rel T ks L) (hk : TOk ks L) (hvo : VOk L) (hnd : ks.Nodup) :
    Calls Try.prog 19 #[.agg #[v]] w fun e w' => ∃ v' S, e = .returned v' ∧ S.Perm ks ∧ S.Pairwise (· ≤ ·) ∧ Pk.OwnL w.heap.size w' v' (numB (tabN L S S.length)) ∧ Old w w' := by
  have h1 : ∀ i, i < T.length → 1 ≤ (opA T i).s := fun i hi => (hk.rng _ (hRel.of _ (opA_mem T i hi)).2).1
  have h2 : ∀ i, i < T.length → 1 ≤ (opA T i).x.n := fun i hi => (hk.seq _ _ (hRel.of _ (opA_mem T i hi)).1).1
  have HSess := hid (fun (W : World) (u : Old w W) => (rSessions_any v T W (hv.old u) h1).mono (R' := fun e w' => ∃ v' S, e = .returned v' ∧ S.Perm ks ∧ S.Pairwise (· ≤ ·) ∧ OwnN W.heap.size w' v' S ∧ Old W w') (by
    rintro e w' ⟨v', O, rfl, hO, _, o, u⟩
    exact ⟨v', O, rfl, sess_perm hRel hk hnd hO, hO.rise.imp (fun h => by omega), o, u⟩))
  have HKept := hid (fun (id : Int) (W : World) (u : Old w W) => (rKept_any v T id W (hv.old u) h2).mono (R' := fun e w' => ∃ v' O, e = .returned v' ∧ O.map (·.x) = L id ∧ OwnO W.heap.size w' v' O ∧ Old W w') (by
    rintro e w' ⟨v', O, rfl, hO, _, o, u⟩
    exact ⟨v', O, rfl, (hRel.kept hk hO).1, o, u⟩))
  have HHigh := hid (fun (id : Int) (W : World) (u : Old w W) => (rHighest_any v T id W (hv.old u)).mono (R' := fun e w' => e = .returned (.int .i64 (hiL (L id))) ∧ Old W w') (by
    rintro e w' ⟨rfl, u⟩
    exact ⟨by rw [hRel.hi hk id], u⟩))
  have HOk := hid hk
  have HVo := hid hvo
  obtain ⟨hm, p, c, rfl, hc⟩ := hv
  clear hc h1 h2 hRel hk hvo hnd
  go_enter Try.func19, Try.ntmps19
  go_upto_region 1 with fail
  generalize hw1 : w.alloc (.cells #[.slice p T.length c] 42) = w1 at *
  obtain ⟨tb, htb⟩ : ∃ tb, w.heap.size = tb := ⟨_, rfl⟩
  obtain ⟨hb1, hu1⟩ := rtab_new w (.slice p T.length c) w1 hw1 tb htb
  have HSz := hid hu1.size
  simp only [htb]
  have B1 := hid hb1
  have U1 := hid hu1
  clear hw1 hb1 hu1 htb
  obtain ⟨tn, htn⟩ : ∃ tn, T.length = tn := ⟨_, rfl⟩
  simp only [htn] at HSess HKept HHigh B1 hm ⊢
  clear htn
  have b1 := B1.out
  go_upto_region 2 with (go_at_call 37; refine (HSess.out _ U1.out).mono ?_; rintro e w2 ⟨v2, S, rfl, hp, hs, o2, u2⟩; have HP := hid hp; have HPw := hid hs; have O2 := hid o2; have U2 := hid u2; clear hp hs o2 u2)
  obtain ⟨p3, c3, e3⟩ := O2.out.len
  subst e3
  have hsl : S.length ≤ 16 := by have := HP.out.length_eq; have := HOk.out.many; omega
  have HC3 := hid (show ∀ i, i < S.length → ∃ g off, p3 = some ⟨g, off, none⟩ ∧ w2.cell? ⟨g, off + i, none⟩ = some (.int .i64 (S.getD i 0)) from by
    obtain ⟨_, pr, cr, er, hcr⟩ := O2.out.nrow (by omega)
    cases er
    exact hcr)
  have HTl := hid (fun k => show (numB (tabN L S k)).length ≤ 10 * (1 + 27 * k) from by
    have h1 := numB_len _ (tabN_n64 HOk.out HVo.out HP.out k)
    have h2 := tabN_len L S HOk.out.len k
    omega)
  have HTs := hid (fun k hk => show numB (tabN L S (k + 1)) = numB (tabN L S k) ++ numB (secN L (S.getD k 0)) from by rw [tabN_step L S k hk, numB_app])
  have HT0 := hid (show numB (tabN L S 0) = Pk.numL ((S.length : Nat) : Int) from by simp [tabN, numB])
  have HMem := hid (fun k (hk : k < S.length) => HOk.out.rng _ (HP.out.mem_iff.1 (show S.getD k 0 ∈ S from by rw [List.getD_eq_getElem?_getD, List.getElem?_eq_getElem hk]; exact List.getElem_mem hk)))
  have hsl2 : (S.length : Int) ≤ 16 := by omega
  have HNm := hid (fun W => refNum_old ((S.length : Nat) : Int) (by omega) (by omega) W)
  have HQ := hid (show ∀ (v' : Value) (W : World), Pk.OwnL w2.heap.size W v' (numB (tabN L S S.length)) → Old w2 W → ∃ v'' S, (Ending.returned v' : Ending) = .returned v'' ∧ S.Perm ks ∧ S.Pairwise (· ≤ ·) ∧ Pk.OwnL w.heap.size W v'' (numB (tabN L S S.length)) ∧ Old w W from fun v' W o u => ⟨v', S, rfl, HP.out, HPw.out, o.mono' (by have := HSz.out; have := U2.out.size; omega), (U1.out.trans U2.out).trans u⟩)
  have HW := hid (U1.out.trans U2.out)
  have B2 := hid (U2.out.keep B1.out)
  clear HSess O2 HP HPw U1 U2 B1 HSz b1
  obtain ⟨sn, hsn⟩ : ∃ sn, S.length = sn := ⟨_, rfl⟩
  rw [hsn] at HT0 HNm HC3 HMem hsl hsl2 HQ ⊢
  have HTs' := hid (fun k (hk : k < sn) => HTs.out k (by rw [hsn]; exact hk))
  clear HTs hsn
  go_upto_region 3 with (go_at_call 39; refine (HNm.out _).mono ?_; rintro e w3 ⟨v3, rfl, o3, u3⟩; have O3 := hid (show Pk.OwnL w2.heap.size w3 v3 (numB (tabN L S 0)) from by rw [HT0.out]; exact o3); have U3 := hid u3; clear o3 u3)
  clear HNm HT0
  go_wp2
  go_loopw [4, 5] (fun o i wr => ∃ k : Nat, k ≤ sn ∧ i = .int .i64 (k : Nat) ∧ Pk.OwnL w2.heap.size wr o (numB (tabN L S k)) ∧ Old w2 wr) (fun _ i _ => sn - (intOf i).toNat)
  case atStart => exact ⟨0, Nat.zero_le _, rfl, O3.out, U3.out⟩
  case round =>
    obtain ⟨k, hk, rfl, ho, hu⟩ := hrel
    obtain ⟨pb, cb, e⟩ := OwnL.slice' ho
    obtain ⟨ln, hln⟩ : ∃ ln, (numB (tabN L S k)).length = ln := ⟨_, rfl⟩
    rw [hln] at e
    subst e
    have HO := hid ho
    have UU := hid hu
    clear O3 U3 ho hu hln
    by_cases hlt : k < sn
    · obtain ⟨b, off, ha, c0⟩ := HC3.out k hlt
      subst ha
      have HKB := hid (show KB tb b (off + k) (.slice p tn c) (S.getD k 0) w2 from ⟨B2.out, c0⟩)
      have l1 : (0 : Int) ≤ (k : Int) := by omega
      have l2 : (k : Int) < (sn : Int) := by omega
      have hrg := HMem.out k hlt
      have HSt := hid (HTs'.out k hlt)
      have HPl := hid (show (numB (tabN L S k)).length ≤ 5000 from by have := HTl.out k; omega)
      clear c0 HTs' HTl HMem HC3
      generalize S.getD k 0 = id at *
      have HNid := hid (show N64 id from ⟨by omega, by omega⟩)
      have hll := HOk.out.len id
      have hhi := HOk.out.hi id
      have HNhi := hid (show N64 (hiL (L id)) from ⟨by omega, by omega⟩)
      have HNlen := hid (show N64 (((L id).length : Nat) : Int) from ⟨by omega, by omega⟩)
      have HK := hid (fun (W : World) (u : Old wr W) => HKept.out id W ((HW.out.trans UU.out).trans u))
      have HH := hid (fun (W : World) (u : Old w2 W) => HHigh.out id W (HW.out.trans u))
      have HIt := hid (fun j hj => show numB (itN ((L id).take (j + 1))) = ((numB (itN ((L id).take j)) ++ Pk.numL (atI (L id) j).n) ++ Pk.numL (atI (L id) j).c) ++ Pk.numL (atI (L id) j).m from by rw [itN_step _ _ hj, numB_app]; simp [numB])
      have HItl := hid (fun j => show (numB (itN ((L id).take j))).length ≤ 240 from by
        have h0 := numB_len (itN ((L id).take j)) (fun z hz => itN_n64 HOk.out HVo.out id z (itN_take _ _ z hz))
        have h1 := itN_len ((L id).take j)
        have h2 : ((L id).take j).length ≤ (L id).length := by rw [List.length_take]; omega
        omega)
      have HSe := hid (show numB (secN L id) = ((Pk.numL id ++ Pk.numL (hiL (L id))) ++ Pk.numL (((L id).length : Nat) : Int)) ++ numB (itN ((L id).take (L id).length)) from by unfold secN; rw [numB_app, List.take_length]; simp [numB])
      have HVs := hid (fun j (hj : j < (L id).length) => show N64 (atI (L id) j).n ∧ N64 (atI (L id) j).c ∧ N64 (atI (L id) j).m from by
        have hmem : atI (L id) j ∈ L id := by rw [atI_get (L id) j hj]; exact List.getElem_mem hj
        have q1 := HOk.out.seq id _ hmem
        have q2 := HVo.out id _ hmem
        exact ⟨⟨by omega, by omega⟩, ⟨by omega, by omega⟩, ⟨by omega, by omega⟩⟩)
      have HNl1 := hid (Pk.num_len id HNid.out.1 HNid.out.2).2
      have HNl2 := hid (Pk.num_len _ HNhi.out.1 HNhi.out.2).2
      have HNl3 := hid (Pk.num_len _ HNlen.out.1 HNlen.out.2).2
      generalize hP0 : numB (tabN L S k) = P0 at *
      generalize hS9 : numB (secN L id) = SE at *
      generalize hiL (L id) = hi at *
      generalize L id = R at *
      clear hP0 hS9 HKept HHigh hrg hhi
      go_upto_region 6 with (fail)
      refine wp_region_noPanic ?_
      refine wp_region_held_drew (S := KB tb b (off + k) (.slice p tn c) id) (by kernel_rfl) ?_ (fun hHeld => ?_)
      · exact KB.old (UU.out.trans ((Old.refl wr).drew)) HKB.out
      (try simp only [Act.put]); (try simp only [List.setIfInBounds_toArray]); (try simp only [List.set_cons_succ]); (try simp only [List.set_cons_zero])
      clear hHeld
      refine wpAnyH_take (i := 0) (oi := { dst := some 19, op := Op.load 42 (Operand.tmp 1), type := 42, pos := "ref.go:133", after := #[], guard := none }) (v := ?vk36) rfl (by kernel_rfl) (by kernel_rfl) (by kernel_rfl) (fun _ _ _ h => h) (Or.inl ⟨by rfl, ?hk36⟩) (KB.old (UU.out.trans ((Old.refl wr).drew)) HKB.out) ?rk36
      case hk36 => (intro wz hSw; (try dsimp only at hSw); go_simp; try with_reducible rfl)
      (try simp only [Act.put]); (try simp only [List.setIfInBounds_toArray]); (try simp only [List.set_cons_succ]); (try simp only [List.set_cons_zero])
      refine wpAnyH_take (i := 1) (oi := { dst := some 20, op := Op.move (Operand.tmp 3), type := 64, pos := "ref.go:133", after := #[], guard := none }) (v := ?vk37) rfl (by kernel_rfl) (by kernel_rfl) (by kernel_rfl) (fun _ _ _ h => h) (Or.inl ⟨by rfl, ?hk37⟩) (KB.old (UU.out.trans ((Old.refl wr).drew)) HKB.out) ?rk37
      case hk37 => (intro wz hSw; (try dsimp only at hSw); go_simp; try with_reducible rfl)
      (try simp only [Act.put]); (try simp only [List.setIfInBounds_toArray]); (try simp only [List.set_cons_succ]); (try simp only [List.set_cons_zero])
      refine wpAnyH_take (i := 2) (oi := { dst := some 21, op := Op.move (Operand.tmp 5), type := 3, pos := "ref.go:133", after := #[], guard := none }) (v := ?vk38) rfl (by kernel_rfl) (by kernel_rfl) (by kernel_rfl) (fun _ _ _ h => h) (Or.inl ⟨by rfl, ?hk38⟩) (KB.old (UU.out.trans ((Old.refl wr).drew)) HKB.out) ?rk38
      case hk38 => (intro wz hSw; (try dsimp only at hSw); go_simp; try with_reducible rfl)
      (try simp only [Act.put]); (try simp only [List.setIfInBounds_toArray]); (try simp only [List.set_cons_succ]); (try simp only [List.set_cons_zero])
      refine wpAnyH_take (i := 3) (oi := { dst := some 22, op := Op.indexAddr 64 (Operand.tmp 20) (Operand.tmp 21), type := 0, pos := "ref.go:133", after := #[{ on := 1, ground := Ground.data }, { on := 2, ground := Ground.data }], guard := none }) (v := ?vk39) rfl (by kernel_rfl) (by kernel_rfl) (by kernel_rfl) (fun _ _ _ h => h) (Or.inl ⟨by rfl, ?hk39⟩) (KB.old (UU.out.trans ((Old.refl wr).drew)) HKB.out) ?rk39
      case hk39 => (intro wz hSw; (try dsimp only at hSw); go_simp; try with_reducible rfl)
      (try simp only [Act.put]); (try simp only [List.setIfInBounds_toArray]); (try simp only [List.set_cons_succ]); (try simp only [List.set_cons_zero])
      refine wpAnyH_take (i := 4) (oi := { dst := some 23, op := Op.load 2 (Operand.tmp 22), type := 2, pos := "ref.go:133", after := #[{ on := 3, ground := Ground.data }], guard := none }) (v := ?vk40) rfl (by kernel_rfl) (by kernel_rfl) (by kernel_rfl) (fun _ _ _ h => h) (Or.inl ⟨by rfl, ?hk40⟩) (KB.old (UU.out.trans ((Old.refl wr).drew)) HKB.out) ?rk40
      case hk40 => (intro wz hSw; (try dsimp only at hSw); go_simp; try with_reducible rfl)
      (try simp only [Act.put]); (try simp only [List.setIfInBounds_toArray]); (try simp only [List.set_cons_succ]); (try simp only [List.set_cons_zero])
      refine wpAnyH_ready (rs := [5]) (by kernel_rfl) (by simp) ?_
      refine AllReadyH.cons (o := { dst := some 24, op := Op.call { callee := Callee.value (Operand.func 38), args := #[Operand.tmp 19, Operand.tmp 23], argTypes := #[42, 2] }, type := 40, pos := "ref.go:133", after := #[{ on := 0, ground := Ground.data }, { on := 4, ground := Ground.data }], guard := none }) rfl (fun K hK => ?_) AllReadyH.nil
      refine wantCall2 ?_ 38 (.tmp 19) (.tmp 23) #[42, 2] ?_ (.agg #[.slice p tn c]) (.int .i64 id) ?_ ?_ ?_ ((enters_of Try.func38 (by kernel_rfl) rfl) _ _) ?_
      · rfl
      · rfl
      · rfl
      · rfl
      · rfl
      refine (HK.out _ ((Old.refl wr).drew)).mono ?_
      rintro o xk ⟨vk, O, rfl, hkm, ok, uk'⟩
      have uk := ((Old.refl wr).drew).trans uk'
      clear uk'
      obtain ⟨pk, ck, ek⟩ := OwnO.len ok
      obtain ⟨km, hkm'⟩ : ∃ km, O.length = km := ⟨_, rfl⟩
      rw [hkm'] at ek
      subst ek
      have OK := hid ok
      have HKm := hid hkm
      clear ok hkm hkm'
      refine ⟨_, rfl, ?_⟩
      refine hK.out _ _ (KB.old (UU.out.trans uk) HKB.out) (fun _ => ?_)
      clear hK K
      (try simp only [Act.put]); (try simp only [List.setIfInBounds_toArray]); (try simp only [List.set_cons_succ]); (try simp only [List.set_cons_zero])
      refine wpAnyH_ready (rs := [6]) (by kernel_rfl) (by simp) ?_
      refine AllReadyH.cons (o := { dst := some 6, op := Op.assign (Operand.tmp 24), type := 40, pos := "ref.go:133", after := #[{ on := 5, ground := Ground.data }, { on := 5, ground := Ground.chain }, { on := 0, ground := Ground.phase }, { on := 1, ground := Ground.phase }, { on := 2, ground := Ground.phase }, { on := 3, ground := Ground.phase }, { on := 4, ground := Ground.phase }, { on := 5, ground := Ground.phase }], guard := none }) rfl (fun K hK => ?_) AllReadyH.nil
      go_simp
      refine hK.out _ _ (KB.old (UU.out.trans uk) HKB.out) (fun _ => ?_)
      clear hK K
      (try simp only [Act.put]); (try simp only [List.setIfInBounds_toArray]); (try simp only [List.set_cons_succ]); (try simp only [List.set_cons_zero])
      refine wpAnyH_done (by kernel_rfl) ?_ _
      refine NoPanic.normal ?_
      have UK := hid uk
      have HR0 := hid (show ORel w2 xk (.slice pb ln cb) xk (.slice pb ln cb) P0 from ⟨OwnL.old' HO.out UK.out, UU.out.trans UK.out, Pk.Grew.refl _ _⟩)
      obtain ⟨hkm, hkc⟩ := keptC OK.out HKm.out hll
      subst hkm
      have HKc := hid hkc
      have HNe0 := hid (show ∀ gk, (World.drew wr).heap.size ≤ gk → some gk ≠ (Value.slice pb ln cb).ownBlock from fun gk h e => by have := (OwnL.lt' HO.out gk e.symm).2; have : wr.heap.size ≤ gk := h; omega)
      have HNum := hid (fun (W : World) (v : Value) (A : List Nat) (z : Int) (hz : N64 z) (hA : A.length ≤ 100000) (h : ORel w2 xk (.slice pb ln cb) W v A) => rnumG w2 xk (.slice pb ln cb) v A z W hz hA h)
      have hq0 := HPl.out
      have hq1 := HNl1.out
      have hq2 := HNl2.out
      have hq3 := HNl3.out
      have HA0 := hid (show P0.length ≤ 100000 from by omega)
      have HA1 := hid (show (P0 ++ Pk.numL id).length ≤ 100000 from by simp only [List.length_append]; omega)
      have HA2 := hid (show ((P0 ++ Pk.numL id) ++ Pk.numL hi).length ≤ 100000 from by simp only [List.length_append]; omega)
      have HP1l := hid (show (((P0 ++ Pk.numL id) ++ Pk.numL hi) ++ Pk.numL ((R.length : Nat) : Int)).length ≤ 6000 from by simp only [List.length_append]; omega)
      have hll2 : (R.length : Int) ≤ 8 := by omega
      clear hkc uk hq0 hq1 hq2 hq3 HK OK HKm
      go_upto_region 7 with (fail)
      refine wp_region_noPanic ?_
      refine wp_region_held_drew (S := KB tb b (off + k) (.slice p tn c) id) (by kernel_rfl) ?_ (fun hHeld => ?_)
      · exact KB.old (HR0.out.up ((Old.refl _).drew)).old HKB.out
      (try simp only [Act.put]); (try simp only [List.setIfInBounds_toArray]); (try simp only [List.set_cons_succ]); (try simp only [List.set_cons_zero])
      clear hHeld
      refine wpAnyH_take (i := 0) (oi := { dst := some 25, op := Op.move (Operand.tmp 4), type := 34, pos := "ref.go:134", after := #[], guard := none }) (v := ?vk20) rfl (by kernel_rfl) (by kernel_rfl) (by kernel_rfl) (fun _ _ _ h => h) (Or.inl ⟨by rfl, ?hk20⟩) (KB.old (HR0.out.up ((Old.refl _).drew)).old HKB.out) ?rk20
      case hk20 => (intro wz hSw; (try dsimp only at hSw); go_simp; try with_reducible rfl)
      (try simp only [Act.put]); (try simp only [List.setIfInBounds_toArray]); (try simp only [List.set_cons_succ]); (try simp only [List.set_cons_zero])
      refine wpAnyH_take (i := 1) (oi := { dst := some 26, op := Op.move (Operand.tmp 3), type := 64, pos := "ref.go:134", after := #[], guard := none }) (v := ?vk21) rfl (by kernel_rfl) (by kernel_rfl) (by kernel_rfl) (fun _ _ _ h => h) (Or.inl ⟨by rfl, ?hk21⟩) (KB.old (HR0.out.up ((Old.refl _).drew)).old HKB.out) ?rk21
      case hk21 => (intro wz hSw; (try dsimp only at hSw); go_simp; try with_reducible rfl)
      (try simp only [Act.put]); (try simp only [List.setIfInBounds_toArray]); (try simp only [List.set_cons_succ]); (try simp only [List.set_cons_zero])
      refine wpAnyH_take (i := 2) (oi := { dst := some 27, op := Op.move (Operand.tmp 5), type := 3, pos := "ref.go:134", after := #[], guard := none }) (v := ?vk22) rfl (by kernel_rfl) (by kernel_rfl) (by kernel_rfl) (fun _ _ _ h => h) (Or.inl ⟨by rfl, ?hk22⟩) (KB.old (HR0.out.up ((Old.refl _).drew)).old HKB.out) ?rk22
      case hk22 => (intro wz hSw; (try dsimp only at hSw); go_simp; try with_reducible rfl)
      (try simp only [Act.put]); (try simp only [List.setIfInBounds_toArray]); (try simp only [List.set_cons_succ]); (try simp only [List.set_cons_zero])
      refine wpAnyH_take (i := 3) (oi := { dst := some 28, op := Op.indexAddr 64 (Operand.tmp 26) (Operand.tmp 27), type := 0, pos := "ref.go:134", after := #[{ on := 1, ground := Ground.data }, { on := 2, ground := Ground.data }], guard := none }) (v := ?vk23) rfl (by kernel_rfl) (by kernel_rfl) (by kernel_rfl) (fun _ _ _ h => h) (Or.inl ⟨by rfl, ?hk23⟩) (KB.old (HR0.out.up ((Old.refl _).drew)).old HKB.out) ?rk23
      case hk23 => (intro wz hSw; (try dsimp only at hSw); go_simp; try with_reducible rfl)
      (try simp only [Act.put]); (try simp only [List.setIfInBounds_toArray]); (try simp only [List.set_cons_succ]); (try simp only [List.set_cons_zero])
      refine wpAnyH_take (i := 4) (oi := { dst := some 29, op := Op.load 2 (Operand.tmp 28), type := 2, pos := "ref.go:134", after := #[{ on := 3, ground := Ground.data }], guard := none }) (v := ?vk24) rfl (by kernel_rfl) (by kernel_rfl) (by kernel_rfl) (fun _ _ _ h => h) (Or.inl ⟨by rfl, ?hk24⟩) (KB.old (HR0.out.up ((Old.refl _).drew)).old HKB.out) ?rk24
      case hk24 => (intro wz hSw; (try dsimp only at hSw); go_simp; try with_reducible rfl)
      (try simp only [Act.put]); (try simp only [List.setIfInBounds_toArray]); (try simp only [List.set_cons_succ]); (try simp only [List.set_cons_zero])
      refine wpAnyH_take (i := 6) (oi := { dst := some 31, op := Op.load 42 (Operand.tmp 1), type := 42, pos := "ref.go:134", after := #[], guard := none }) (v := ?vk25) rfl (by kernel_rfl) (by kernel_rfl) (by kernel_rfl) (fun _ _ _ h => h) (Or.inl ⟨by rfl, ?hk25⟩) (KB.old (HR0.out.up ((Old.refl _).drew)).old HKB.out) ?rk25
      case hk25 => (intro wz hSw; (try dsimp only at hSw); go_simp; try with_reducible rfl)
      (try simp only [Act.put]); (try simp only [List.setIfInBounds_toArray]); (try simp only [List.set_cons_succ]); (try simp only [List.set_cons_zero])
      refine wpAnyH_take (i := 7) (oi := { dst := some 32, op := Op.move (Operand.tmp 3), type := 64, pos := "ref.go:134", after := #[], guard := none }) (v := ?vk26) rfl (by kernel_rfl) (by kernel_rfl) (by kernel_rfl) (fun _ _ _ h => h) (Or.inl ⟨by rfl, ?hk26⟩) (KB.old (HR0.out.up ((Old.refl _).drew)).old HKB.out) ?rk26
      case hk26 => (intro wz hSw; (try dsimp only at hSw); go_simp; try with_reducible rfl)
      (try simp only [Act.put]); (try simp only [List.setIfInBounds_toArray]); (try simp only [List.set_cons_succ]); (try simp only [List.set_cons_zero])
      refine wpAnyH_take (i := 8) (oi := { dst := some 33, op := Op.move (Operand.tmp 5), type := 3, pos := "ref.go:134", after := #[], guard := none }) (v := ?vk27) rfl (by kernel_rfl) (by kernel_rfl) (by kernel_rfl) (fun _ _ _ h => h) (Or.inl ⟨by rfl, ?hk27⟩) (KB.old (HR0.out.up ((Old.refl _).drew)).old HKB.out) ?rk27
      case hk27 => (intro wz hSw; (try dsimp only at hSw); go_simp; try with_reducible rfl)
      (try simp only [Act.put]); (try simp only [List.setIfInBounds_toArray]); (try simp only [List.set_cons_succ]); (try simp only [List.set_cons_zero])
      refine wpAnyH_take (i := 9) (oi := { dst := some 34, op := Op.indexAddr 64 (Operand.tmp 32) (Operand.tmp 33), type := 0, pos := "ref.go:134", after := #[{ on := 7, ground := Ground.data }, { on := 8, ground := Ground.data }], guard := none }) (v := ?vk28) rfl (by kernel_rfl) (by kernel_rfl) (by kernel_rfl) (fun _ _ _ h => h) (Or.inl ⟨by rfl, ?hk28⟩) (KB.old (HR0.out.up ((Old.refl _).drew)).old HKB.out) ?rk28
      case hk28 => (intro wz hSw; (try dsimp only at hSw); go_simp; try with_reducible rfl)
      (try simp only [Act.put]); (try simp only [List.setIfInBounds_toArray]); (try simp only [List.set_cons_succ]); (try simp only [List.set_cons_zero])
      refine wpAnyH_take (i := 10) (oi := { dst := some 35, op := Op.load 2 (Operand.tmp 34), type := 2, pos := "ref.go:134", after := #[{ on := 9, ground := Ground.data }], guard := none }) (v := ?vk29) rfl (by kernel_rfl) (by kernel_rfl) (by kernel_rfl) (fun _ _ _ h => h) (Or.inl ⟨by rfl, ?hk29⟩) (KB.old (HR0.out.up ((Old.refl _).drew)).old HKB.out) ?rk29
      case hk29 => (intro wz hSw; (try dsimp only at hSw); go_simp; try with_reducible rfl)
      (try simp only [Act.put]); (try simp only [List.setIfInBounds_toArray]); (try simp only [List.set_cons_succ]); (try simp only [List.set_cons_zero])
      refine wpAnyH_take (i := 13) (oi := { dst := some 38, op := Op.move (Operand.tmp 6), type := 40, pos := "ref.go:134", after := #[], guard := none }) (v := ?vk30) rfl (by kernel_rfl) (by kernel_rfl) (by kernel_rfl) (fun _ _ _ h => h) (Or.inl ⟨by rfl, ?hk30⟩) (KB.old (HR0.out.up ((Old.refl _).drew)).old HKB.out) ?rk30
      case hk30 => (intro wz hSw; (try dsimp only at hSw); go_simp; try with_reducible rfl)
      (try simp only [Act.put]); (try simp only [List.setIfInBounds_toArray]); (try simp only [List.set_cons_succ]); (try simp only [List.set_cons_zero])
      refine wpAnyH_take (i := 14) (oi := { dst := some 39, op := Op.call { callee := Callee.builtin Builtin.len, args := #[Operand.tmp 38], argTypes := #[40] }, type := 3, pos := "ref.go:134", after := #[{ on := 13, ground := Ground.data }], guard := none }) (v := ?vk31) rfl (by kernel_rfl) (by kernel_rfl) (by kernel_rfl) (fun _ _ _ h => h) (Or.inl ⟨by rfl, ?hk31⟩) (KB.old (HR0.out.up ((Old.refl _).drew)).old HKB.out) ?rk31
      case hk31 => (intro wz hSw; (try dsimp only at hSw); go_simp; try with_reducible rfl)
      (try simp only [Act.put]); (try simp only [List.setIfInBounds_toArray]); (try simp only [List.set_cons_succ]); (try simp only [List.set_cons_zero])
      refine wpAnyH_ready (rs := [5]) (by kernel_rfl) (by simp) ?_
      refine AllReadyH.cons (o := { dst := some 30, op := Op.call { callee := Callee.value (Operand.func 40), args := #[Operand.tmp 25, Operand.tmp 29], argTypes := #[34, 2] }, type := 34, pos := "ref.go:134", after := #[{ on := 0, ground := Ground.data }, { on := 4, ground := Ground.data }], guard := none }) rfl (fun K hK => ?_) AllReadyH.nil
      refine wantCall2 ?_ 40 (.tmp 25) (.tmp 29) #[34, 2] ?_ (.slice pb ln cb) (.int .i64 id) ?_ ?_ ?_ ((enters_of Try.func40 (by kernel_rfl) rfl) _ _) ?_
      · rfl
      · rfl
      · rfl
      · rfl
      · rfl
      refine (HNum.out _ _ _ _ HNid.out HA0.out (HR0.out.up ((Old.refl _).drew))).mono ?_
      rintro o xa ⟨va, rfl, oa⟩
      obtain ⟨pa, ca, ea⟩ := OwnL.slice' oa.own
      obtain ⟨la, hla⟩ : ∃ la, (P0 ++ Pk.numL id).length = la := ⟨_, rfl⟩
      rw [hla] at ea
      subst ea
      have Oa := hid oa
      clear oa hla
      refine ⟨_, rfl, ?_⟩
      refine hK.out _ _ (KB.old Oa.out.old HKB.out) (fun _ => ?_)
      clear hK K
      (try simp only [Act.put]); (try simp only [List.setIfInBounds_toArray]); (try simp only [List.set_cons_succ]); (try simp only [List.set_cons_zero])
      refine wpAnyH_ready (rs := [11]) (by kernel_rfl) (by simp) ?_
      refine AllReadyH.cons (o := { dst := some 36, op := Op.call { callee := Callee.value (Operand.func 18), args := #[Operand.tmp 31, Operand.tmp 35], argTypes := #[42, 2] }, type := 2, pos := "ref.go:134", after := #[{ on := 6, ground := Ground.data }, { on := 10, ground := Ground.data }, { on := 5, ground := Ground.chain }], guard := none }) rfl (fun K hK => ?_) AllReadyH.nil
      refine wantCall2 ?_ 18 (.tmp 31) (.tmp 35) #[42, 2] ?_ (.agg #[.slice p tn c]) (.int .i64 id) ?_ ?_ ?_ ((enters_of Try.func18 (by kernel_rfl) rfl) _ _) ?_
      · rfl
      · rfl
      · rfl
      · rfl
      · rfl
      refine (HH.out _ Oa.out.old).mono ?_
      rintro o xb ⟨rfl, ub⟩
      have Ob := hid (Oa.out.up ub)
      clear ub
      refine ⟨_, rfl, ?_⟩
      refine hK.out _ _ (KB.old Ob.out.old HKB.out) (fun _ => ?_)
      clear hK K
      (try simp only [Act.put]); (try simp only [List.setIfInBounds_toArray]); (try simp only [List.set_cons_succ]); (try simp only [List.set_cons_zero])
      refine wpAnyH_ready (rs := [12]) (by kernel_rfl) (by simp) ?_
      refine AllReadyH.cons (o := { dst := some 37, op := Op.call { callee := Callee.value (Operand.func 40), args := #[Operand.tmp 30, Operand.tmp 36], argTypes := #[34, 2] }, type := 34, pos := "ref.go:134", after := #[{ on := 5, ground := Ground.data }, { on := 11, ground := Ground.data }, { on := 11, ground := Ground.chain }], guard := none }) rfl (fun K hK => ?_) AllReadyH.nil
      refine wantCall2 ?_ 40 (.tmp 30) (.tmp 36) #[34, 2] ?_ (.slice pa la ca) (.int .i64 hi) ?_ ?_ ?_ ((enters_of Try.func40 (by kernel_rfl) rfl) _ _) ?_
      · rfl
      · rfl
      · rfl
      · rfl
      · rfl
      refine (HNum.out _ _ _ _ HNhi.out HA1.out Ob.out).mono ?_
      rintro o xq ⟨vq, rfl, oq⟩
      obtain ⟨pq, cq, eq⟩ := OwnL.slice' oq.own
      obtain ⟨lq, hlq⟩ : ∃ lq, ((P0 ++ Pk.numL id) ++ Pk.numL hi).length = lq := ⟨_, rfl⟩
      rw [hlq] at eq
      subst eq
      have Oq := hid oq
      clear oq hlq
      refine ⟨_, rfl, ?_⟩
      refine hK.out _ _ (KB.old Oq.out.old HKB.out) (fun _ => ?_)
      clear hK K
      (try simp only [Act.put]); (try simp only [List.setIfInBounds_toArray]); (try simp only [List.set_cons_succ]); (try simp only [List.set_cons_zero])
      refine wpAnyH_ready (rs := [15]) (by kernel_rfl) (by simp) ?_
      refine AllReadyH.cons (o := { dst := some 40, op := Op.call { callee := Callee.value (Operand.func 40), args := #[Operand.tmp 37, Operand.tmp 39], argTypes := #[34, 2] }, type := 34, pos := "ref.go:134", after := #[{ on := 12, ground := Ground.data }, { on := 14, ground := Ground.data }, { on := 12, ground := Ground.chain }], guard := none }) rfl (fun K hK => ?_) AllReadyH.nil
      refine wantCall2 ?_ 40 (.tmp 37) (.tmp 39) #[34, 2] ?_ (.slice pq lq cq) (.int .i64 ((R.length : Nat) : Int)) ?_ ?_ ?_ ((enters_of Try.func40 (by kernel_rfl) rfl) _ _) ?_
      · rfl
      · rfl
      · rfl
      · rfl
      · rfl
      refine (HNum.out _ _ _ _ HNlen.out HA2.out Oq.out).mono ?_
      rintro o xc ⟨vc, rfl, oc⟩
      obtain ⟨pc, cc, ec⟩ := OwnL.slice' oc.own
      obtain ⟨lc, hlc⟩ : ∃ lc, (((P0 ++ Pk.numL id) ++ Pk.numL hi) ++ Pk.numL ((R.length : Nat) : Int)).length = lc := ⟨_, rfl⟩
      rw [hlc] at ec
      subst ec
      have Oc := hid oc
      clear oc hlc
      refine ⟨_, rfl, ?_⟩
      refine hK.out _ _ (KB.old Oc.out.old HKB.out) (fun _ => ?_)
      clear hK K
      (try simp only [Act.put]); (try simp only [List.setIfInBounds_toArray]); (try simp only [List.set_cons_succ]); (try simp only [List.set_cons_zero])
      refine wpAnyH_ready (rs := [16]) (by kernel_rfl) (by simp) ?_
      refine AllReadyH.cons (o := { dst := some 4, op := Op.assign (Operand.tmp 40), type := 34, pos := "ref.go:134", after := #[{ on := 15, ground := Ground.data }, { on := 15, ground := Ground.chain }, { on := 0, ground := Ground.phase }, { on := 1, ground := Ground.phase }, { on := 2, ground := Ground.phase }, { on := 3, ground := Ground.phase }, { on := 4, ground := Ground.phase }, { on := 5, ground := Ground.phase }, { on := 6, ground := Ground.phase }, { on := 7, ground := Ground.phase }, { on := 8, ground := Ground.phase }, { on := 9, ground := Ground.phase }, { on := 10, ground := Ground.phase }, { on := 11, ground := Ground.phase }, { on := 12, ground := Ground.phase }, { on := 13, ground := Ground.phase }, { on := 14, ground := Ground.phase }, { on := 15, ground := Ground.phase }], guard := none }) rfl (fun K hK => ?_) AllReadyH.nil
      go_simp
      refine hK.out _ _ (KB.old Oc.out.old HKB.out) (fun _ => ?_)
      clear hK K
      (try simp only [Act.put]); (try simp only [List.setIfInBounds_toArray]); (try simp only [List.set_cons_succ]); (try simp only [List.set_cons_zero])
      refine wpAnyH_done (by kernel_rfl) ?_ _
      refine NoPanic.normal ?_
      have UZ := hid Oc.out
      clear Oa Ob Oq Oc
      generalize hP1 : ((P0 ++ Pk.numL id) ++ Pk.numL hi) ++ Pk.numL ((R.length : Nat) : Int) = P1 at *
      have HP1 := hid hP1
      clear hP1
      go_wp2
      go_loopw [4, 7] (fun o i wz => ∃ j : Nat, j ≤ R.length ∧ i = .int .i64 (j : Nat) ∧ ORel w2 xk (.slice pb ln cb) wz o (P1 ++ numB (itN (R.take j)))) (fun _ i _ => R.length - (intOf i).toNat)
      case atStart => exact ⟨0, Nat.zero_le _, rfl, by simpa [itN, numB] using UZ.out⟩
      case round =>
        obtain ⟨j, hj, rfl, hr⟩ := hrel
        obtain ⟨pd, cd, e⟩ := OwnL.slice' hr.own
        obtain ⟨ld, hld⟩ : ∃ ld, (P1 ++ numB (itN (R.take j))).length = ld := ⟨_, rfl⟩
        rw [hld] at e
        subst e
        have HR := hid hr
        clear hr hld UZ
        by_cases hjt : j < R.length
        · obtain ⟨gk, hgk, ek, hkc⟩ := HKc.out j hjt
          subst ek
          have HKC := hid hkc
          have HNe := hid (HNe0.out gk hgk)
          have HV := hid (HVs.out j hjt)
          have HIs := hid (HIt.out j hjt)
          have hil := HItl.out j
          have hp1 := HP1l.out
          have hz1 := (Pk.num_len _ HV.out.1.1 HV.out.1.2).2
          have hz2 := (Pk.num_len _ HV.out.2.1.1 HV.out.2.1.2).2
          have HA3 := hid (show (P1 ++ numB (itN (R.take j))).length ≤ 100000 from by rw [List.length_append]; omega)
          have HA4 := hid (show ((P1 ++ numB (itN (R.take j))) ++ Pk.numL (atI R j).n).length ≤ 100000 from by simp only [List.length_append]; omega)
          have HA5 := hid (show (((P1 ++ numB (itN (R.take j))) ++ Pk.numL (atI R j).n) ++ Pk.numL (atI R j).c).length ≤ 100000 from by simp only [List.length_append]; omega)
          have k1 : (0 : Int) ≤ (j : Int) := by omega
          have k2 : (j : Int) < (R.length : Int) := by omega
          clear hil hp1 hz1 hz2 hkc hgk HVs HIt HItl
          go_upto_region 11 with (fail)
          refine wp_region_noPanic ?_
          refine wp_region_held_drew (S := KC gk (j * 4) (atI R j)) (by kernel_rfl) ?_ (fun hHeld => ?_)
          · exact KC.far HKC.out HNe.out (HR.out.up ((Old.refl _).drew))
          (try simp only [Act.put]); (try simp only [List.setIfInBounds_toArray]); (try simp only [List.set_cons_succ]); (try simp only [List.set_cons_zero])
          clear hHeld
          refine wpAnyH_take (i := 0) (oi := { dst := some 47, op := Op.move (Operand.tmp 4), type := 34, pos := "ref.go:136", after := #[], guard := none }) (v := ?vk1) rfl (by kernel_rfl) (by kernel_rfl) (by kernel_rfl) (fun _ _ _ h => h) (Or.inl ⟨by rfl, ?hk1⟩) (KC.far HKC.out HNe.out (HR.out.up ((Old.refl _).drew))) ?rk1
          case hk1 => (intro wz hSw; (try dsimp only at hSw); go_simp; try with_reducible rfl)
          (try simp only [Act.put]); (try simp only [List.setIfInBounds_toArray]); (try simp only [List.set_cons_succ]); (try simp only [List.set_cons_zero])
          refine wpAnyH_take (i := 1) (oi := { dst := some 48, op := Op.move (Operand.tmp 6), type := 40, pos := "ref.go:136", after := #[], guard := none }) (v := ?vk2) rfl (by kernel_rfl) (by kernel_rfl) (by kernel_rfl) (fun _ _ _ h => h) (Or.inl ⟨by rfl, ?hk2⟩) (KC.far HKC.out HNe.out (HR.out.up ((Old.refl _).drew))) ?rk2
          case hk2 => (intro wz hSw; (try dsimp only at hSw); go_simp; try with_reducible rfl)
          (try simp only [Act.put]); (try simp only [List.setIfInBounds_toArray]); (try simp only [List.set_cons_succ]); (try simp only [List.set_cons_zero])
          refine wpAnyH_take (i := 2) (oi := { dst := some 49, op := Op.move (Operand.tmp 7), type := 3, pos := "ref.go:136", after := #[], guard := none }) (v := ?vk3) rfl (by kernel_rfl) (by kernel_rfl) (by kernel_rfl) (fun _ _ _ h => h) (Or.inl ⟨by rfl, ?hk3⟩) (KC.far HKC.out HNe.out (HR.out.up ((Old.refl _).drew))) ?rk3
          case hk3 => (intro wz hSw; (try dsimp only at hSw); go_simp; try with_reducible rfl)
          (try simp only [Act.put]); (try simp only [List.setIfInBounds_toArray]); (try simp only [List.set_cons_succ]); (try simp only [List.set_cons_zero])
          refine wpAnyH_take (i := 3) (oi := { dst := some 50, op := Op.indexAddr 40 (Operand.tmp 48) (Operand.tmp 49), type := 0, pos := "ref.go:136", after := #[{ on := 1, ground := Ground.data }, { on := 2, ground := Ground.data }], guard := none }) (v := ?vk4) rfl (by kernel_rfl) (by kernel_rfl) (by kernel_rfl) (fun _ _ _ h => h) (Or.inl ⟨by rfl, ?hk4⟩) (KC.far HKC.out HNe.out (HR.out.up ((Old.refl _).drew))) ?rk4
          case hk4 => (intro wz hSw; (try dsimp only at hSw); go_simp; try with_reducible rfl)
          (try simp only [Act.put]); (try simp only [List.setIfInBounds_toArray]); (try simp only [List.set_cons_succ]); (try simp only [List.set_cons_zero])
          refine wpAnyH_take (i := 4) (oi := { dst := some 51, op := Op.fieldAddr 44 (Operand.tmp 50) 1, type := 0, pos := "ref.go:136", after := #[{ on := 3, ground := Ground.data }], guard := none }) (v := ?vk5) rfl (by kernel_rfl) (by kernel_rfl) (by kernel_rfl) (fun _ _ _ h => h) (Or.inl ⟨by rfl, ?hk5⟩) (KC.far HKC.out HNe.out (HR.out.up ((Old.refl _).drew))) ?rk5
          case hk5 => (intro wz hSw; (try dsimp only at hSw); go_simp; try with_reducible rfl)
          (try simp only [Act.put]); (try simp only [List.setIfInBounds_toArray]); (try simp only [List.set_cons_succ]); (try simp only [List.set_cons_zero])
          refine wpAnyH_take (i := 5) (oi := { dst := some 52, op := Op.load 2 (Operand.tmp 51), type := 2, pos := "ref.go:136", after := #[{ on := 4, ground := Ground.data }], guard := none }) (v := ?vk6) rfl (by kernel_rfl) (by kernel_rfl) (by kernel_rfl) (fun _ _ _ h => h) (Or.inl ⟨by rfl, ?hk6⟩) (KC.far HKC.out HNe.out (HR.out.up ((Old.refl _).drew))) ?rk6
          case hk6 => (intro wz hSw; (try dsimp only at hSw); go_simp; try with_reducible rfl)
          (try simp only [Act.put]); (try simp only [List.setIfInBounds_toArray]); (try simp only [List.set_cons_succ]); (try simp only [List.set_cons_zero])
          refine wpAnyH_take (i := 7) (oi := { dst := some 54, op := Op.move (Operand.tmp 6), type := 40, pos := "ref.go:136", after := #[], guard := none }) (v := ?vk7) rfl (by kernel_rfl) (by kernel_rfl) (by kernel_rfl) (fun _ _ _ h => h) (Or.inl ⟨by rfl, ?hk7⟩) (KC.far HKC.out HNe.out (HR.out.up ((Old.refl _).drew))) ?rk7
          case hk7 => (intro wz hSw; (try dsimp only at hSw); go_simp; try with_reducible rfl)
          (try simp only [Act.put]); (try simp only [List.setIfInBounds_toArray]); (try simp only [List.set_cons_succ]); (try simp only [List.set_cons_zero])
          refine wpAnyH_take (i := 8) (oi := { dst := some 55, op := Op.move (Operand.tmp 7), type := 3, pos := "ref.go:136", after := #[], guard := none }) (v := ?vk8) rfl (by kernel_rfl) (by kernel_rfl) (by kernel_rfl) (fun _ _ _ h => h) (Or.inl ⟨by rfl, ?hk8⟩) (KC.far HKC.out HNe.out (HR.out.up ((Old.refl _).drew))) ?rk8
          case hk8 => (intro wz hSw; (try dsimp only at hSw); go_simp; try with_reducible rfl)
          (try simp only [Act.put]); (try simp only [List.setIfInBounds_toArray]); (try simp only [List.set_cons_succ]); (try simp only [List.set_cons_zero])
          refine wpAnyH_take (i := 9) (oi := { dst := some 56, op := Op.indexAddr 40 (Operand.tmp 54) (Operand.tmp 55), type := 0, pos := "ref.go:136", after := #[{ on := 7, ground := Ground.data }, { on := 8, ground := Ground.data }], guard := none }) (v := ?vk9) rfl (by kernel_rfl) (by kernel_rfl) (by kernel_rfl) (fun _ _ _ h => h) (Or.inl ⟨by rfl, ?hk9⟩) (KC.far HKC.out HNe.out (HR.out.up ((Old.refl _).drew))) ?rk9
          case hk9 => (intro wz hSw; (try dsimp only at hSw); go_simp; try with_reducible rfl)
          (try simp only [Act.put]); (try simp only [List.setIfInBounds_toArray]); (try simp only [List.set_cons_succ]); (try simp only [List.set_cons_zero])
          refine wpAnyH_take (i := 10) (oi := { dst := some 57, op := Op.fieldAddr 44 (Operand.tmp 56) 2, type := 0, pos := "ref.go:136", after := #[{ on := 9, ground := Ground.data }], guard := none }) (v := ?vk10) rfl (by kernel_rfl) (by kernel_rfl) (by kernel_rfl) (fun _ _ _ h => h) (Or.inl ⟨by rfl, ?hk10⟩) (KC.far HKC.out HNe.out (HR.out.up ((Old.refl _).drew))) ?rk10
          case hk10 => (intro wz hSw; (try dsimp only at hSw); go_simp; try with_reducible rfl)
          (try simp only [Act.put]); (try simp only [List.setIfInBounds_toArray]); (try simp only [List.set_cons_succ]); (try simp only [List.set_cons_zero])
          refine wpAnyH_take (i := 11) (oi := { dst := some 58, op := Op.load 3 (Operand.tmp 57), type := 3, pos := "ref.go:136", after := #[{ on := 10, ground := Ground.data }], guard := none }) (v := ?vk11) rfl (by kernel_rfl) (by kernel_rfl) (by kernel_rfl) (fun _ _ _ h => h) (Or.inl ⟨by rfl, ?hk11⟩) (KC.far HKC.out HNe.out (HR.out.up ((Old.refl _).drew))) ?rk11
          case hk11 => (intro wz hSw; (try dsimp only at hSw); go_simp; try with_reducible rfl)
          (try simp only [Act.put]); (try simp only [List.setIfInBounds_toArray]); (try simp only [List.set_cons_succ]); (try simp only [List.set_cons_zero])
          refine wpAnyH_take (i := 13) (oi := { dst := some 60, op := Op.move (Operand.tmp 6), type := 40, pos := "ref.go:136", after := #[], guard := none }) (v := ?vk12) rfl (by kernel_rfl) (by kernel_rfl) (by kernel_rfl) (fun _ _ _ h => h) (Or.inl ⟨by rfl, ?hk12⟩) (KC.far HKC.out HNe.out (HR.out.up ((Old.refl _).drew))) ?rk12
          case hk12 => (intro wz hSw; (try dsimp only at hSw); go_simp; try with_reducible rfl)
          (try simp only [Act.put]); (try simp only [List.setIfInBounds_toArray]); (try simp only [List.set_cons_succ]); (try simp only [List.set_cons_zero])
          refine wpAnyH_take (i := 14) (oi := { dst := some 61, op := Op.move (Operand.tmp 7), type := 3, pos := "ref.go:136", after := #[], guard := none }) (v := ?vk13) rfl (by kernel_rfl) (by kernel_rfl) (by kernel_rfl) (fun _ _ _ h => h) (Or.inl ⟨by rfl, ?hk13⟩) (KC.far HKC.out HNe.out (HR.out.up ((Old.refl _).drew))) ?rk13
          case hk13 => (intro wz hSw; (try dsimp only at hSw); go_simp; try with_reducible rfl)
          (try simp only [Act.put]); (try simp only [List.setIfInBounds_toArray]); (try simp only [List.set_cons_succ]); (try simp only [List.set_cons_zero])
          refine wpAnyH_take (i := 15) (oi := { dst := some 62, op := Op.indexAddr 40 (Operand.tmp 60) (Operand.tmp 61), type := 0, pos := "ref.go:136", after := #[{ on := 13, ground := Ground.data }, { on := 14, ground := Ground.data }], guard := none }) (v := ?vk14) rfl (by kernel_rfl) (by kernel_rfl) (by kernel_rfl) (fun _ _ _ h => h) (Or.inl ⟨by rfl, ?hk14⟩) (KC.far HKC.out HNe.out (HR.out.up ((Old.refl _).drew))) ?rk14
          case hk14 => (intro wz hSw; (try dsimp only at hSw); go_simp; try with_reducible rfl)
          (try simp only [Act.put]); (try simp only [List.setIfInBounds_toArray]); (try simp only [List.set_cons_succ]); (try simp only [List.set_cons_zero])
          refine wpAnyH_take (i := 16) (oi := { dst := some 63, op := Op.fieldAddr 44 (Operand.tmp 62) 3, type := 0, pos := "ref.go:136", after := #[{ on := 15, ground := Ground.data }], guard := none }) (v := ?vk15) rfl (by kernel_rfl) (by kernel_rfl) (by kernel_rfl) (fun _ _ _ h => h) (Or.inl ⟨by rfl, ?hk15⟩) (KC.far HKC.out HNe.out (HR.out.up ((Old.refl _).drew))) ?rk15
          case hk15 => (intro wz hSw; (try dsimp only at hSw); go_simp; try with_reducible rfl)
          (try simp only [Act.put]); (try simp only [List.setIfInBounds_toArray]); (try simp only [List.set_cons_succ]); (try simp only [List.set_cons_zero])
          refine wpAnyH_take (i := 17) (oi := { dst := some 64, op := Op.load 2 (Operand.tmp 63), type := 2, pos := "ref.go:136", after := #[{ on := 16, ground := Ground.data }], guard := none }) (v := ?vk16) rfl (by kernel_rfl) (by kernel_rfl) (by kernel_rfl) (fun _ _ _ h => h) (Or.inl ⟨by rfl, ?hk16⟩) (KC.far HKC.out HNe.out (HR.out.up ((Old.refl _).drew))) ?rk16
          case hk16 => (intro wz hSw; (try dsimp only at hSw); go_simp; try with_reducible rfl)
          (try simp only [Act.put]); (try simp only [List.setIfInBounds_toArray]); (try simp only [List.set_cons_succ]); (try simp only [List.set_cons_zero])
          refine wpAnyH_ready (rs := [6]) (by kernel_rfl) (by simp) ?_
          refine AllReadyH.cons (o := { dst := some 53, op := Op.call { callee := Callee.value (Operand.func 40), args := #[Operand.tmp 47, Operand.tmp 52], argTypes := #[34, 2] }, type := 34, pos := "ref.go:136", after := #[{ on := 0, ground := Ground.data }, { on := 5, ground := Ground.data }], guard := none }) rfl (fun K hK => ?_) AllReadyH.nil
          refine wantCall2 ?_ 40 (.tmp 47) (.tmp 52) #[34, 2] ?_ (.slice pd ld cd) (.int .i64 (atI R j).n) ?_ ?_ ?_ ((enters_of Try.func40 (by kernel_rfl) rfl) _ _) ?_
          · rfl
          · rfl
          · rfl
          · rfl
          · rfl
          refine (HNum.out _ _ _ _ HV.out.1 HA3.out (HR.out.up ((Old.refl _).drew))).mono ?_
          rintro o xe ⟨ve, rfl, oe⟩
          obtain ⟨pe, ce, ee⟩ := OwnL.slice' oe.own
          obtain ⟨le, hle⟩ : ∃ le, ((P1 ++ numB (itN (R.take j))) ++ Pk.numL (atI R j).n).length = le := ⟨_, rfl⟩
          rw [hle] at ee
          subst ee
          have Oe := hid oe
          clear oe hle
          refine ⟨_, rfl, ?_⟩
          refine hK.out _ _ (KC.far HKC.out HNe.out Oe.out) (fun _ => ?_)
          clear hK K
          (try simp only [Act.put]); (try simp only [List.setIfInBounds_toArray]); (try simp only [List.set_cons_succ]); (try simp only [List.set_cons_zero])
          refine wpAnyH_ready (rs := [12]) (by kernel_rfl) (by simp) ?_
          refine AllReadyH.cons (o := { dst := some 59, op := Op.call { callee := Callee.value (Operand.func 40), args := #[Operand.tmp 53, Operand.tmp 58], argTypes := #[34, 2] }, type := 34, pos := "ref.go:136", after := #[{ on := 6, ground := Ground.data }, { on := 11, ground := Ground.data }, { on := 6, ground := Ground.chain }], guard := none }) rfl (fun K hK => ?_) AllReadyH.nil
          refine wantCall2 ?_ 40 (.tmp 53) (.tmp 58) #[34, 2] ?_ (.slice pe le ce) (.int .i64 (atI R j).c) ?_ ?_ ?_ ((enters_of Try.func40 (by kernel_rfl) rfl) _ _) ?_
          · rfl
          · rfl
          · rfl
          · rfl
          · rfl
          refine (HNum.out _ _ _ _ HV.out.2.1 HA4.out Oe.out).mono ?_
          rintro o xf ⟨vf, rfl, of⟩
          obtain ⟨pf, cf, ef⟩ := OwnL.slice' of.own
          obtain ⟨lf, hlf⟩ : ∃ lf, (((P1 ++ numB (itN (R.take j))) ++ Pk.numL (atI R j).n) ++ Pk.numL (atI R j).c).length = lf := ⟨_, rfl⟩
          rw [hlf] at ef
          subst ef
          have Of := hid of
          clear of hlf
          refine ⟨_, rfl, ?_⟩
          refine hK.out _ _ (KC.far HKC.out HNe.out Of.out) (fun _ => ?_)
          clear hK K
          (try simp only [Act.put]); (try simp only [List.setIfInBounds_toArray]); (try simp only [List.set_cons_succ]); (try simp only [List.set_cons_zero])
          refine wpAnyH_ready (rs := [18]) (by kernel_rfl) (by simp) ?_
          refine AllReadyH.cons (o := { dst := some 65, op := Op.call { callee := Callee.value (Operand.func 40), args := #[Operand.tmp 59, Operand.tmp 64], argTypes := #[34, 2] }, type := 34, pos := "ref.go:136", after := #[{ on := 12, ground := Ground.data }, { on := 17, ground := Ground.data }, { on := 12, ground := Ground.chain }], guard := none }) rfl (fun K hK => ?_) AllReadyH.nil
          refine wantCall2 ?_ 40 (.tmp 59) (.tmp 64) #[34, 2] ?_ (.slice pf lf cf) (.int .i64 (atI R j).m) ?_ ?_ ?_ ((enters_of Try.func40 (by kernel_rfl) rfl) _ _) ?_
          · rfl
          · rfl
          · rfl
          · rfl
          · rfl
          refine (HNum.out _ _ _ _ HV.out.2.2 HA5.out Of.out).mono ?_
          rintro o xg ⟨vg, rfl, og⟩
          obtain ⟨pg, cg, eg⟩ := OwnL.slice' og.own
          obtain ⟨lg, hlg⟩ : ∃ lg, ((((P1 ++ numB (itN (R.take j))) ++ Pk.numL (atI R j).n) ++ Pk.numL (atI R j).c) ++ Pk.numL (atI R j).m).length = lg := ⟨_, rfl⟩
          rw [hlg] at eg
          subst eg
          have Og := hid og
          clear og hlg
          refine ⟨_, rfl, ?_⟩
          refine hK.out _ _ (KC.far HKC.out HNe.out Og.out) (fun _ => ?_)
          clear hK K
          (try simp only [Act.put]); (try simp only [List.setIfInBounds_toArray]); (try simp only [List.set_cons_succ]); (try simp only [List.set_cons_zero])
          refine wpAnyH_ready (rs := [19]) (by kernel_rfl) (by simp) ?_
          refine AllReadyH.cons (o := { dst := some 4, op := Op.assign (Operand.tmp 65), type := 34, pos := "ref.go:136", after := #[{ on := 18, ground := Ground.data }, { on := 18, ground := Ground.chain }, { on := 0, ground := Ground.phase }, { on := 1, ground := Ground.phase }, { on := 2, ground := Ground.phase }, { on := 3, ground := Ground.phase }, { on := 4, ground := Ground.phase }, { on := 5, ground := Ground.phase }, { on := 6, ground := Ground.phase }, { on := 7, ground := Ground.phase }, { on := 8, ground := Ground.phase }, { on := 9, ground := Ground.phase }, { on := 10, ground := Ground.phase }, { on := 11, ground := Ground.phase }, { on := 12, ground := Ground.phase }, { on := 13, ground := Ground.phase }, { on := 14, ground := Ground.phase }, { on := 15, ground := Ground.phase }, { on := 16, ground := Ground.phase }, { on := 17, ground := Ground.phase }, { on := 18, ground := Ground.phase }], guard := none }) rfl (fun K hK => ?_) AllReadyH.nil
          go_simp
          refine hK.out _ _ (KC.far HKC.out HNe.out Og.out) (fun _ => ?_)
          clear hK K
          (try simp only [Act.put]); (try simp only [List.setIfInBounds_toArray]); (try simp only [List.set_cons_succ]); (try simp only [List.set_cons_zero])
          refine wpAnyH_done (by kernel_rfl) ?_ _
          refine NoPanic.normal ?_
          have UZ := hid Og.out
          go_wp2
          go_roundw
          case rel => exact ⟨j + 1, hjt, by go_num, by rw [HIs.out]; simpa [List.append_assoc] using UZ.out⟩
          case measure => simp [intOf]; omega
        · obtain rfl : j = R.length := by omega
          go_wp2
          go_roundw
          case rel => exact ⟨k + 1, hlt, by go_num, by rw [HSt.out, HSe.out]; have := HR.out.own; rw [← HP1.out] at this; simpa [List.append_assoc] using this, HR.out.old⟩
          case measure => simp [intOf]; omega
    · obtain rfl : k = sn := by omega
      go_wp2
      go_ret
      exact HQ.out _ _ HO.out UU.out
end Go.Proofs.Ytefffjlcfghniaa
