/- rlog's fault and Append at every log and every row of entries; conditions: they lie in memory, apart. -/
import Derived.Test.YtgpfmohaogppiaaRl6
namespace Go.Proofs.Ytgpfmohaogppiaa
open Go.RowKit Go.Lib
set_option linter.unusedVariables false
set_option linter.unusedSimpArgs false
set_option maxRecDepth 20000
/-- An entry, told. -/
def En.pl (x : En) : En := ⟨x.i, x.t, x.k, none, 0, x.d⟩
def pls (A : List En) : List En := A.map En.pl
theorem pls_app (A B : List En) : pls (A ++ B) = pls A ++ pls B := by simp [pls]
theorem pls_len (A : List En) : (pls A).length = A.length := by simp [pls]
theorem pls_take (A : List En) (k : Nat) : pls (A.take k) = (pls A).take k := by simp [pls]
theorem pls_drop (A : List En) (k : Nat) : pls (A.drop k) = (pls A).drop k := by simp [pls]
theorem pls_pls (A : List En) : pls (pls A) = pls A := by simp [pls, En.pl]
theorem cfs_pls : ∀ A : List En, cfs (pls A) = cfs A
  | [] => rfl
  | x :: r => by show cfOf x.pl ++ cfs (pls r) = cfOf x ++ cfs r; rw [cfs_pls r]; rfl
theorem lstI_pls : ∀ (ix : Int) (A : List En), lstI ix (pls A) = lstI ix A
  | ix, [] => rfl
  | ix, x :: r => lstI_pls x.i r
theorem lstT_pls : ∀ (ix : Int) (A : List En), lstT ix (pls A) = lstT ix A
  | ix, [] => rfl
  | ix, x :: r => lstT_pls x.t r
theorem Fol_pls : ∀ (ix tm : Int) (A : List En), Fol ix tm (pls A) ↔ Fol ix tm A
  | ix, tm, [] => Iff.rfl
  | ix, tm, x :: r => by
    show (x.i = ix + 1 ∧ tm ≤ x.t ∧ rightE x.i x.t x.k x.d = true ∧ Fol x.i x.t (pls r)) ↔ (x.i = ix + 1 ∧ tm ≤ x.t ∧ rightE x.i x.t x.k x.d = true ∧ Fol x.i x.t r)
    rw [Fol_pls x.i x.t r]
/-- Why entries may not come behind. -/
def flt : Int → Int → List En → Int | _, _, [] => 0 | ix, tm, x :: r => if rightE x.i x.t x.k x.d = false then 1 else if x.i ≠ ix + 1 then 60 else if x.t < tm then 42 else flt x.i x.t r
theorem flt_pls : ∀ (ix tm : Int) (A : List En), flt ix tm (pls A) = flt ix tm A
  | ix, tm, [] => rfl
  | ix, tm, x :: r => by
    show (if rightE x.i x.t x.k x.d = false then (1 : Int) else if x.i ≠ ix + 1 then 60 else if x.t < tm then 42 else flt x.i x.t (pls r)) = (if rightE x.i x.t x.k x.d = false then (1 : Int) else if x.i ≠ ix + 1 then 60 else if x.t < tm then 42 else flt x.i x.t r)
    rw [flt_pls x.i x.t r]
theorem flt_zero : ∀ (ix tm : Int) (A : List En), flt ix tm A = 0 → Fol ix tm A
  | ix, tm, [], _ => trivial
  | ix, tm, x :: r, h => by
    unfold flt at h
    split at h
    · cases h
    · rename_i h1
      split at h
      · cases h
      · rename_i h2
        split at h
        · cases h
        · rename_i h3
          exact ⟨Classical.byContradiction fun e => h2 e, by omega, by simpa using h1, flt_zero x.i x.t r h⟩
/-- Entries in a row, wherever. -/
def ERow (w : World) (v : Value) (X : List En) : Prop := X.length ≤ 2932031007402 ∧ (∃ p c, v = .slice p X.length c ∧ X.length ≤ c ∧ c ≤ 9223372036854775807 ∧ ∀ j, j < X.length → ∃ g off, p = some ⟨g, off, none⟩ ∧ EntIn w g (off + j * 4) (atE X j).e) ∧ ∀ x ∈ X, Rw w x.s x.d
theorem ERow.old {w w' : World} {v : Value} {X : List En} (h : ERow w v X) (u : Old w w') : ERow w' v X := by
  obtain ⟨h1, ⟨p, c, e, h2, h3, h4⟩, h5⟩ := h
  exact ⟨h1, ⟨p, c, e, h2, h3, fun j hj => by obtain ⟨g, off, e2, q⟩ := h4 j hj; exact ⟨g, off, e2, q.old u⟩⟩, fun x hx => (h5 x hx).old u⟩
/-- A row of entries lies apart from some blocks. -/
def Far (v : Value) (X : List En) (S : List Nat) : Prop := (0 < X.length → ∀ g, v.ownBlock = some g → g ∉ S) ∧ ∀ x ∈ X, 0 < x.d.length → ∀ g, x.s.ownBlock = some g → g ∉ S
theorem EntIn.chg {S : List Nat} {w w' : World} {g o : Nat} {e : Ent} (h : EntIn w g o e) (c : Chg S w w') (n : g ∉ S) : EntIn w' g o e := ⟨c.cell h.1 n, c.cell h.2.1 n, c.cell h.2.2.1 n, c.cell h.2.2.2 n⟩
theorem ERow.chg {S : List Nat} {w w' : World} {v : Value} {X : List En} (h : ERow w v X) (u : Chg S w w') (hf : Far v X S) : ERow w' v X := by
  obtain ⟨h1, ⟨p, c, e, h2, h3, h4⟩, h5⟩ := h
  subst e
  exact ⟨h1, ⟨p, c, rfl, h2, h3, fun j hj => by obtain ⟨g, off, e2, q⟩ := h4 j hj; exact ⟨g, off, e2, q.chg u (hf.1 (by omega) g (by rw [e2]; rfl))⟩⟩, fun x hx => (h5 x hx).chg u (fun z => hf.2 x hx z)⟩
theorem drop_at {X : List En} {k : Nat} (h : k < X.length) : X.drop k = atE X k :: X.drop (k + 1) := by rw [atE_get X k h]; exact List.drop_eq_getElem_cons h
theorem take_at {X : List En} {k : Nat} (h : k < X.length) : X.take (k + 1) = X.take k ++ [atE X k] := by rw [atE_get X k h]; exact (List.take_append_getElem h).symm
set_option maxHeartbeats 4000000 in
set_option maxRecDepth 20000 in
theorem fault_any (base lb : Nat) (G : Lg) (v : Value) (X : List En) (w : World) (h : LogM base lb G w) (ok : LgOk G) (hX : ERow w v X) :
    Calls Try.prog 31 #[.pointer (some ⟨lb, 0, none⟩), v] w fun e w' => e = .returned (.int .i64 (flt (lstI G.ix G.es) (lstT G.tm G.es) X)) ∧ Old w w' := by
  have HL := hid (h.last ok)
  have hl := Fol.last _ _ _ ok.fol ok.i1 ok.t0 ok.t1
  have hl2 := Fol.len _ _ _ ok.fol
  have hl3 := ok.i0
  have hli : 0 ≤ lstI G.ix G.es ∧ lstI G.ix G.es ≤ 1099511627776 := by omega
  clear hl hl2 hl3 h ok
  generalize lstI G.ix G.es = li at *
  generalize lstT G.tm G.es = lt at *
  obtain ⟨hm, ⟨p, c, rfl, hmc, hcm, hE⟩, hD⟩ := hX
  have HE := hid hE
  have HDt := hid hD
  have HLI := hid hli
  clear hE hD hli
  have hmm : (X.length : Int) ≤ 2932031007402 := by omega
  obtain ⟨m, hmX⟩ : ∃ m, X.length = m := ⟨_, rfl⟩
  have HM := hid hmX
  rw [hmX] at hm hmc hmm HE ⊢
  clear hmX
  obtain ⟨F, hF⟩ : ∃ F, flt li lt X = F := ⟨_, rfl⟩
  have HF := hid hF
  rw [hF]
  clear hF
  go_enter Try.func31, Try.ntmps31
  go_upto_region 2 with (go_at_call 8; refine HL.out.mono ?_; rintro e w1 ⟨rfl, o1⟩; have O1 := hid o1; clear o1)
  go_wp2
  go_loopw [5, 6, 16] (fun a t i wx => ∃ (k : Nat) (ai ti : Int), k ≤ m ∧ i = .int .i64 k ∧ a = .int .i64 ai ∧ t = .int .i64 ti ∧ Hid (F = flt ai ti (X.drop k) ∧ 0 ≤ ai ∧ ai ≤ 1099511627776) ∧ Old w wx) (fun _ _ i _ => m - (intOf i).toNat)
  case atStart => exact ⟨0, _, _, Nat.zero_le _, rfl, rfl, rfl, hid ⟨HF.out.symm, HLI.out⟩, O1.out⟩
  case round =>
    obtain ⟨k, ai, ti, hk, rfl, rfl, rfl, HI, hu⟩ := hrel
    have UK := hid hu
    clear hu
    by_cases hlt : k < m
    · obtain ⟨g, off, e1, e4⟩ := HE.out k hlt
      subst e1
      have HX : Hid (X.drop k = atE X k :: X.drop (k + 1)) := hid (drop_at (by rw [HM.out]; exact hlt))
      have HR := hid (HDt.out _ (atE_mem X k (by rw [HM.out]; exact hlt)))
      obtain ⟨x0, x1, x2, x3⟩ := EntIn.old e4 UK.out
      generalize atE X k = E at *
      obtain ⟨ei, et, ek, ep, ec, ed⟩ := E
      dsimp only [En.e] at x0 x1 x2 x3
      dsimp only [En.s] at HR
      obtain ⟨i1, i2⟩ := HI.out.2
      have l1 : (0 : Int) ≤ (k : Int) := by omega
      have l2 : (k : Int) < (m : Int) := by omega
      have hR := hid (fun (W : World) (u : Old w W) => rlRight_any ei et ek (.slice ep ed.length ec) ed W (HR.out.old u))
      have HFF := hid (show F = if rightE ei et ek ed = false then (1 : Int) else if ei ≠ ai + 1 then 60 else if et < ti then 42 else flt ei et (X.drop (k + 1)) from by rw [HI.out.1, HX.out]; rfl)
      have HRp := hid (@rightE_parts ei et ek ed)
      clear HR e4
      generalize rightE ei et ek ed = rb at *
      generalize ed.length = edl at *
      cases rb with
      | false =>
        have e : F = 1 := by rw [HFF.out, if_pos rfl]
        go_wp2_with (go_at_call 46; refine (hR.out _ (UK.out.alloc _)).mono ?_; rintro e w2 ⟨rfl, o2⟩; have O2 := hid ((UK.out.alloc _).trans o2); clear o2)
        go_ret
        exact ⟨by rw [e]; rfl, O2.out⟩
      | true =>
        by_cases h1 : ei = ai + 1
        · by_cases h2 : et < ti
          · have e : F = 42 := by rw [HFF.out, if_neg (by decide), if_neg (by simp [h1]), if_pos h2]
            have d1 : (ei != ai + 1) = false := by simp [h1]
            have d2 : decide (et < ti) = true := decide_eq_true h2
            have E := hid e
            clear e h1
            go_wp2_with (go_at_call 46; refine (hR.out _ (UK.out.alloc _)).mono ?_; rintro e w2 ⟨rfl, o2⟩; have y0 := o2.keep (p := ⟨wr.heap.size, 0, none⟩) (v := .int .i64 ei) (by simp); have y1 := o2.keep (p := ⟨wr.heap.size, 1, none⟩) (v := .int .i64 et) (by simp); have O2 := hid ((UK.out.alloc _).trans o2); clear o2)
            go_ret
            exact ⟨by rw [E.out]; rfl, O2.out⟩
          · have e : F = flt ei et (X.drop (k + 1)) := by rw [HFF.out, if_neg (by decide), if_neg (by simp [h1]), if_neg h2]
            have d1 : (ei != ai + 1) = false := by simp [h1]
            have d2 : decide (et < ti) = false := decide_eq_false h2
            have E := hid e
            have hb := HRp.out rfl
            have HB := hid (show 0 ≤ ei ∧ ei ≤ 1099511627776 from by omega)
            clear e h1 hb h2
            go_wp2_with (go_at_call 46; refine (hR.out _ (UK.out.alloc _)).mono ?_; rintro e w2 ⟨rfl, o2⟩; have y0 := o2.keep (p := ⟨wr.heap.size, 0, none⟩) (v := .int .i64 ei) (by simp); have y1 := o2.keep (p := ⟨wr.heap.size, 1, none⟩) (v := .int .i64 et) (by simp); have O2 := hid ((UK.out.alloc _).trans o2); clear o2)
            go_quiet (fail)
            go_wp2
            exact ⟨⟨k + 1, ei, et, hlt, by go_num, rfl, rfl, hid ⟨E.out, HB.out⟩, O2.out.drewN _⟩, by simp [intOf]; omega⟩
        · have e : F = 60 := by rw [HFF.out, if_neg (by decide), if_pos h1]
          have d1 : (ei != ai + 1) = true := by simp [h1]
          have E := hid e
          clear e
          go_wp2_with (go_at_call 46; refine (hR.out _ (UK.out.alloc _)).mono ?_; rintro e w2 ⟨rfl, o2⟩; have y0 := o2.keep (p := ⟨wr.heap.size, 0, none⟩) (v := .int .i64 ei) (by simp); have y1 := o2.keep (p := ⟨wr.heap.size, 1, none⟩) (v := .int .i64 et) (by simp); have O2 := hid ((UK.out.alloc _).trans o2); clear o2)
          go_ret
          exact ⟨by rw [E.out]; rfl, O2.out⟩
    · have e : F = 0 := by
        rw [HI.out.1, List.drop_eq_nil_of_le (by rw [HM.out]; omega)]
        rfl
      obtain rfl : m = k := by omega
      have E := hid e
      clear e
      go_wp2
      go_ret
      exact ⟨by rw [E.out]; rfl, UK.out⟩
/-- What a log tells: its base, its entries, its configuration there. -/
structure PL where
  ix : Int
  tm : Int
  es : List En
  a : List Int
  b : List Int
structure Is (G : Lg) (P : PL) : Prop where
  ix : G.ix = P.ix
  tm : G.tm = P.tm
  es : pls G.es = P.es
  cs : G.cs.map Pc.pl = (P.ix, P.a, P.b) :: cfs P.es
  sm : ∀ y ∈ G.cs, y.a.length ≤ 17592186044000 ∧ y.b.length ≤ 17592186044000
/-- A right log, told. -/
structure PLok (P : PL) : Prop where
  i0 : 0 ≤ P.ix
  i1 : P.ix ≤ 1099511627776
  t0 : 0 ≤ P.tm
  t1 : P.tm ≤ 1099511627776
  fol : Fol P.ix P.tm P.es
theorem Is.ok {G : Lg} {P : PL} (h : Is G P) (k : PLok P) : LgOk G := by
  refine ⟨by rw [h.ix]; exact k.i0, by rw [h.ix]; exact k.i1, by rw [h.tm]; exact k.t0, by rw [h.tm]; exact k.t1, ?_, ⟨P.a, P.b, ?_⟩, h.sm⟩
  · rw [h.ix, h.tm, ← Fol_pls, h.es]; exact k.fol
  · rw [h.cs, h.ix, ← cfs_pls G.es, h.es]
/-- A log lies in memory and tells this. -/
structure LogP (base lb : Nat) (G : Lg) (P : PL) (w : World) : Prop where
  m : LogM base lb G w
  is : Is G P
  ok : PLok P
theorem LogP.old {base lb : Nat} {G : Lg} {P : PL} {w w' : World} (h : LogP base lb G P w) (u : Old w w') : LogP base lb G P w' := ⟨h.m.old u, h.is, h.ok⟩
theorem LogP.lg {base lb : Nat} {G : Lg} {P : PL} {w : World} (h : LogP base lb G P w) : LgOk G := h.is.ok h.ok
def appP (P : PL) (X : List En) : PL := ⟨P.ix, P.tm, P.es ++ pls X, P.a, P.b⟩
theorem appP_ok {P : PL} {X : List En} (k : PLok P) (h : Fol (lstI P.ix P.es) (lstT P.tm P.es) X) : PLok (appP P X) := ⟨k.i0, k.i1, k.t0, k.t1, (Fol.app _ _ _ _).2 ⟨k.fol, (Fol_pls _ _ _).2 h⟩⟩
theorem PLok.bound {P : PL} (k : PLok P) : P.ix + P.es.length ≤ 1099511627776 := by
  have h1 := (Fol.last _ _ _ k.fol k.i1 k.t0 k.t1).1
  rw [Fol.len _ _ _ k.fol] at h1
  exact h1
theorem Is.put {G G' : Lg} {P : PL} {x : En} (h : Is G P) (g : PutG G x.i x.t x.k x.d G') : Is G' (appP P [x]) := by
  obtain ⟨p, c, e1⟩ := g.es
  obtain ⟨N, e2, e3, e4⟩ := g.cs
  refine ⟨g.ix.trans h.ix, g.tm.trans h.tm, ?_, ?_, fun y hy => ?_⟩
  · rw [e1, pls_app, h.es]; rfl
  · rw [e2, List.map_append, h.cs, e3]
    show (P.ix, P.a, P.b) :: cfs P.es ++ _ = (P.ix, P.a, P.b) :: cfs (P.es ++ pls [x])
    rw [cfs_app, List.cons_append]
    congr 2
    show _ = cfOf x.pl ++ []
    rw [List.append_nil]
    rfl
  · rw [e2] at hy
    rcases List.mem_append.1 hy with q | q
    · exact h.sm y q
    · exact e4 y q
theorem appP_app (P : PL) (X Y : List En) : appP (appP P X) Y = appP P (X ++ Y) := by unfold appP; simp [pls_app]
theorem appP_nil (P : PL) : appP P [] = P := by unfold appP; simp [pls]
theorem Is.len {G : Lg} {P : PL} (h : Is G P) : G.es.length = P.es.length ∧ G.cs.length = (cfs P.es).length + 1 := ⟨by rw [← h.es, pls_len], by have := congrArg List.length h.cs; simpa using this⟩
/-- What Append makes of a log. -/
def appF (P : PL) (X : List En) : PL := if flt (lstI P.ix P.es) (lstT P.tm P.es) X = 0 then appP P X else P
set_option maxHeartbeats 4000000 in
set_option maxRecDepth 20000 in
theorem append_any (base lb : Nat) (G : Lg) (P : PL) (v : Value) (X : List En) (w : World) (h : LogP base lb G P w) (hX : ERow w v X) (hf : Far v X (mbl lb G)) :
    Calls Try.prog 10 #[.pointer (some ⟨lb, 0, none⟩), v] w fun e w' => e = .returned (.int .i64 (flt (lstI P.ix P.es) (lstT P.tm P.es) X)) ∧ ∃ G', LogP base lb G' (appF P X) w' ∧ Mov lb w G w' G' := by
  have HF := hid (fault_any base lb G v X w h.m h.lg hX)
  rw [h.is.ix, h.is.tm, ← lstI_pls, ← lstT_pls, h.is.es] at HF
  have HP := hid h
  have HE := hid hX
  have HFa := hid hf
  clear h hf
  by_cases hz : flt (lstI P.ix P.es) (lstT P.tm P.es) X = 0
  · have HFol := hid (flt_zero _ _ _ hz)
    have HA := hid (show appF P X = appP P X from if_pos hz)
    rw [hz] at HF ⊢
    clear hz
    have HOk := hid (appP_ok HP.out.ok HFol.out)
    have HBd := hid (show P.es.length + X.length ≤ 1099511627776 from by
      have h1 := HOk.out.bound
      have h2 := HP.out.ok.i0
      unfold appP at h1
      simp only [List.length_append, pls_len] at h1
      push_cast at h1
      omega)
    obtain ⟨hm, ⟨p, c, rfl, hmc, hcm, -⟩, -⟩ := hX
    have hmm : (X.length : Int) ≤ 2932031007402 := by omega
    obtain ⟨m, hmX⟩ : ∃ m, X.length = m := ⟨_, rfl⟩
    have HM := hid hmX
    rw [hmX] at hm hmc hmm HE HFa HF HBd ⊢
    clear hmX
    go_enter Try.func10, Try.ntmps10
    go_upto_region 4 with (go_at_call 31; refine HF.out.mono ?_; rintro e w1 ⟨rfl, o1⟩; have O1 := hid o1; clear o1)
    go_wp2
    go_loopw [16] (fun i wx => ∃ (k : Nat) (Gk : Lg), k ≤ m ∧ i = .int .i64 k ∧ Hid (LogM base lb Gk wx ∧ Is Gk (appP P (X.take k)) ∧ Mov lb w G wx Gk)) (fun i _ => m - (intOf i).toNat)
    case atStart => exact ⟨0, G, Nat.zero_le _, rfl, hid ⟨HP.out.m.old O1.out, by rw [List.take_zero, appP_nil]; exact HP.out.is, Mov.old O1.out⟩⟩
    case round =>
      obtain ⟨k, Gk, hk, rfl, HI⟩ := hrel
      by_cases hlt : k < m
      · have hkX : k < X.length := by rw [HM.out]; exact hlt
        have HEk := hid (show ERow wr (.slice p m c) X from HE.out.chg HI.out.2.2.1 HFa.out)
        obtain ⟨-, ⟨p', c', ep, -, -, hcell⟩, hdat⟩ := HEk.out
        obtain ⟨g, off, e1, e4⟩ := hcell k hkX
        rw [HM.out] at ep
        simp only [Value.slice.injEq] at ep
        obtain ⟨rfl, -, rfl⟩ := ep
        subst e1
        have hmem := atE_mem X k hkX
        have HR := hid (hdat _ hmem)
        have HRw0 := hid (HE.out.2.2 _ hmem)
        have HFx := hid (HFa.out.2 _ hmem)
        have HTk := hid (take_at hkX)
        have hfo := HFol.out
        rw [← List.take_append_drop k X, Fol.app, drop_at hkX] at hfo
        have HRt := hid (rightE_parts hfo.2.2.2.1)
        have hln := HI.out.2.1.len
        have HLn := hid (show Gk.es.length ≤ 1099511627776 ∧ 0 < Gk.cs.length ∧ Gk.cs.length ≤ 1099511627777 from by
          have q1 := hln.1
          have q2 := hln.2
          have q3 := cfs_len (appP P (X.take k)).es
          unfold appP at q1 q2 q3
          simp only [List.length_append, pls_len, List.length_take] at q1 q2 q3
          have := HBd.out
          omega)
        clear hfo hln hcell hdat hmem
        obtain ⟨x0, x1, x2, x3⟩ := e4
        generalize atE X k = E at *
        obtain ⟨ei, et, ek, ep, ec, ed⟩ := E
        dsimp only [En.e] at x0 x1 x2 x3
        dsimp only [En.s] at HR HRw0 HFx
        have l1 : (0 : Int) ≤ (k : Int) := by omega
        have l2 : (k : Int) < (m : Int) := by omega
        have HPt := hid (fun (W : World) (u : Old wr W) => rlPut_any base lb Gk ei et ek (.slice ep ed.length ec) ed W (HI.out.1.old u) HLn.out.1 HLn.out.2 (HR.out.old u) HRt.out.2.2.2.2.1 (fun h0 g e q => by
          rcases HI.out.2.2.2 g q with z | z
          · exact HFx.out h0 g e z
          · have := HRw0.out.lt h0 g e; omega) (fun hk2 => by
          rcases HRt.out.2.2.2.2.2 with q | q | q
          · exact absurd (show ek = 0 from q) (by omega)
          · exact absurd (show ek = 1 from q) (by omega)
          · obtain ⟨ab, hab⟩ := Option.isSome_iff_exists.1 q.2
            exact ⟨ab.1, ab.2, hab⟩))
        clear HR HRw0 HFx HEk
        generalize hedl : ed.length = edl at *
        go_wp2_with (go_at_call 32; refine (HPt.out _ ((Old.refl wr).alloc _)).mono ?_; rintro e w2 ⟨rfl, G2, g2, l2', m2⟩; have L2 := hid l2'; have M2 := hid ((Mov.old ((Old.refl wr).alloc _)).trans m2); have G2P := hid g2; clear l2' m2 g2)
        refine ⟨⟨k + 1, G2, hlt, by go_num, hid ⟨L2.out, ?_, HI.out.2.2.trans M2.out⟩⟩, by simp [intOf]; omega⟩
        rw [HTk.out, ← appP_app]
        exact HI.out.2.1.put G2P.out
      · obtain rfl : m = k := by omega
        go_wp2
        go_ret
        refine ⟨rfl, Gk, ⟨HI.out.1, ?_, ?_⟩, HI.out.2.2⟩
        · rw [HA.out]
          have q := HI.out.2.1
          rw [List.take_of_length_le (by rw [HM.out]; exact Nat.le_refl _)] at q
          exact q
        · rw [HA.out]; exact HOk.out
  · have HA := hid (show appF P X = P from if_neg hz)
    have z1 : (flt (lstI P.ix P.es) (lstT P.tm P.es) X != 0) = true := by simp [hz]
    obtain ⟨hm, ⟨p, c, rfl, hmc, hcm, -⟩, -⟩ := hX
    generalize flt (lstI P.ix P.es) (lstT P.tm P.es) X = F at *
    generalize X.length = m at *
    go_enter Try.func10, Try.ntmps10
    go_wp2_with (go_at_call 31; refine HF.out.mono ?_; rintro e w1 ⟨rfl, o1⟩; have O1 := hid o1; clear o1)
    go_ret
    exact ⟨rfl, G, by rw [HA.out]; exact HP.out.old O1.out, Mov.old O1.out⟩
end Go.Proofs.Ytgpfmohaogppiaa
