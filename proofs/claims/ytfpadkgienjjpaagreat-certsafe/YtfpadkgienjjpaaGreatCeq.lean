/- The law CertSafe, walked; conditions: its row lies in memory. -/
import Derived.Test.YtfpadkgienjjpaaGreatSqa
import Derived.Test.YtfpadkgienjjpaaGreatCep
namespace Go.Proofs.YtfpadkgienjjpaaGreat
abbrev oCeq0 : Oper := { dst := some 43, op := .move (.tmp 7), type := 26, pos := "law.go:165", after := #[], guard := none }
abbrev oCeq1 : Oper := { dst := some 42, op := .load 25 (.tmp 10), type := 25, pos := "law.go:165", after := #[], guard := none }
abbrev oCeq2 : Oper := { dst := some 44, op := .call { callee := Callee.value (.func 11), args := #[.tmp 43], argTypes := #[26] }, type := 2, pos := "law.go:165", after := #[⟨1, .data⟩], guard := none }
abbrev oCeq3 : Oper := { dst := some 45, op := .call { callee := Callee.value (.func 15), args := #[.tmp 42, .tmp 44], argTypes := #[25, 2] }, type := 25, pos := "law.go:165", after := #[⟨0, .data⟩, ⟨2, .data⟩, ⟨2, .chain⟩], guard := none }
abbrev oCeq4 : Oper := { dst := none, op := .store 25 (.tmp 10) (.tmp 45), type := 0, pos := "law.go:165", after := #[⟨3, .data⟩, ⟨3, .chain⟩, ⟨0, .phase⟩, ⟨1, .phase⟩, ⟨2, .phase⟩, ⟨3, .phase⟩], guard := none }
open Go.RowKit Go.Lib
set_option linter.unusedVariables false
set_option linter.unusedSimpArgs false
set_option maxRecDepth 20000
attribute [local go_sem] run_bits run_frombits run_store_float eqF
structure SfI (w : World) (cb : Nat) (G : Cg) (v : Value) (L : List Dn) (W : World) : Prop where
 c : CtAt w.heap.size cb G W
 r : DnRow w v L cb G W
 u : Old w W
 h : ∃ D : List Kp, Cov D G.c ∧ Saf D ∧ ∀ e ∈ L, ∃ d ∈ D, d.n = e.n ∧ d.u = e.s.pl
theorem SfI.ok {w : World} {cb : Nat} {G : Cg} {v : Value} {L : List Dn} {W : World} (h : SfI w cb G v L W) : CpOk G.c := by
 obtain ⟨D, a, -⟩ := h.h
 exact a.ok
def SfR (L : List Dn) (c : Cp) (u : Su) (r : Int × Int × Cp) : Prop := (r.1 ≠ 0 → r.2.2 = c) ∧ (r.1 = 0 → ∀ s : Sb, s.pl = u → ∃ D : List Kp, Cov D r.2.2 ∧ Saf D ∧ ∀ e ∈ L ++ [⟨r.2.1, s⟩], ∃ d ∈ D, d.n = e.n ∧ d.u = e.s.pl)
theorem SfI.dec {w : World} {cb : Nat} {G : Cg} {v : Value} {L : List Dn} {W : World} (h : SfI w cb G v L W) (u : Su) (fu : u.F) (ck : Int) : SfR L G.c u (decC G.c u ck) := by
 obtain ⟨D, a, s, m⟩ := h.h
 have k := a.dec s u fu ck
 refine ⟨k.1, fun e sb hs => ?_⟩
 obtain ⟨h1, o, h2, h3⟩ := k.2 e
 refine ⟨_, h2, h3, fun x hx => ?_⟩
 rcases List.mem_append.1 hx with z | z
 ·obtain ⟨d, hd, q⟩ := m x z
  exact ⟨d, List.mem_append_left _ hd, q⟩
 ·simp only [List.mem_singleton] at z
  subst z
  exact ⟨⟨G.c.cnt + 1, u, o⟩, by simp, h1.symm, hs.symm⟩
def SfL (L : List Dn) : Prop := ∀ a ∈ L, ∀ b ∈ L, nearB a.n a.s.s3 b.n b.s.s3 = true → bwU a.s.pl b.s.pl = false ∧ (meetU a.s.pl b.s.pl = true → ∀ d ∈ L, (nearB b.n b.s.s3 d.n d.s.s3 = true ∨ d.n = a.n) → meetU b.s.pl d.s.pl = true → d.n ≤ a.n → ¬ d.n < b.n)
theorem near_iff {an a3 bn b3 : Int} (h : nearB an a3 bn b3 = true) : an ≠ bn ∧ a3 < bn ∧ b3 < an := by
 unfold nearB at h
 simp only [Bool.and_eq_true, Bool.not_eq_true', decide_eq_true_eq, decide_eq_false_iff_not] at h
 exact ⟨h.1.1, h.1.2, h.2⟩
theorem SfI.all {w : World} {cb : Nat} {G : Cg} {v : Value} {L : List Dn} {W : World} (h : SfI w cb G v L W) : SfL L := by
 obtain ⟨D, -, s, m⟩ := h.h
 have tk : ∀ {a b : Dn} {x y : Kp}, x.n = a.n → x.u = a.s.pl → y.n = b.n → y.u = b.s.pl → nearB a.n a.s.s3 b.n b.s.s3 = true → nearK x y := fun e1 e2 e3 e4 q => by
  obtain ⟨q1, q2, q3⟩ := near_iff q
  unfold nearK
  rw [e1, e2, e3, e4]
  exact ⟨q1, q2, q3⟩
 intro a ha b hb n
 obtain ⟨x, hx, x1, x2⟩ := m a ha
 obtain ⟨y, hy, y1, y2⟩ := m b hb
 have nk := tk x1 x2 y1 y2 n
 refine ⟨by rw [← x2, ← y2]; exact s.bw x hx y hy nk, fun e d hd q e2 le => ?_⟩
 obtain ⟨z, hz, z1, z2⟩ := m d hd
 rw [← z1, ← y1]
 refine s.three x hx y hy nk (by rw [x2, y2]; exact e) z hz ?_ (by rw [y2, z2]; exact e2) (by rw [z1, x1]; exact le)
 rcases q with q | q
 ·exact .inl (tk y1 y2 z1 z2 q)
 ·exact .inr (by rw [z1, x1]; exact q)
theorem DnRow.get {w0 : World} {va : Option Addr} {vc : Nat} {L : List Dn} {cb : Nat} {G : Cg} {w : World} (h : DnRow w0 (.slice va L.length vc) L cb G w) (i : Nat) (hi : i < L.length) : ∃ gd, va = some ⟨gd, 0, none⟩ ∧ ∃ d ∈ L, d.s.Ok w0 ∧ ∀ W, Old w W → DnIn W gd (i * 7) d := by
 obtain ⟨g, cap, e, q⟩ := h.at i hi
 simp only [Value.slice.injEq] at e
 refine ⟨g, e.1, _, List.getElem_mem hi, h.ok _ (List.getElem_mem hi), fun W u => ?_⟩
 obtain ⟨t0, t1, t2, t3, t4, t5, t6⟩ := q
 exact ⟨u.keep t0, u.keep t1, u.keep t2, u.keep t3, u.keep t4, u.keep t5, u.keep t6⟩
set_option maxHeartbeats 16000000 in
theorem safeLaw (keep old : Int) (v : Value) (n : Nat) (f : Nat → Sb) (w : World) (hr : SubRow w v n f) :
    Calls Tryz.prog 6 #[.int .i64 keep, .int .i64 old, v] w fun e w' => e = .returned (.bool true) ∧ Old w w' := by
 obtain ⟨hmx, p, c, rfl, hc1, hc2, hc⟩ := hr
 have HNw := hid (fun (W : World) => cnew_any keep old W)
 have HAl := hid (fun (W : World) => alive_any W)
 have HR := hid hc
 have HSnp := hid (fun (s1 s2 s3 : Int) (a1 a2 a3 : Option Addr) (n1 n2 n3 c1 c2 c3 : Nat) (n : Int) (h0 : 0 ≤ n) (h1 : n ≤ 1099511627776) (W : World) => snap_any s1 s2 s3 a1 a2 a3 n1 n2 n3 c1 c2 c3 n h0 h1 W)
 clear hc
 go_enter Tryz.func6, Tryz.ntmps6
 go_upto_region 4 with (first | (go_at_call 8; refine (HAl.out w1).mono ?_; rintro e w2 ⟨rfl, o2⟩; have O2 := hid o2; clear o2) | (go_at_call 7; refine (HNw.out w).mono ?_; rintro e w1 ⟨cb, G, rfl, h1, o1, c1⟩; have HC := hid h1; have O1 := hid o1; have CG := hid c1; clear h1 o1 c1))
 have HCC := hid (HC.out.old O2.out)
 have HOO := hid (O1.out.trans O2.out)
 clear HC O1 O2 HNw HAl
 rcases Nat.lt_or_ge 60 n with h60 | h60
 have d1 : decide ((n : Int) > 60) = true := by simp; omega
 have d1' : decide ((60 : Int) < (n : Int)) = true := by simp; omega
 go_upto_region 6 with fail
 obtain ⟨nn, hnn⟩ : ∃ nn : Nat, nn = 60 := ⟨_, rfl⟩
 rw [show Value.slice p 60 c = Value.slice p nn c from by rw [hnn]]
 have HNN := hid (show nn ≤ 60 ∧ nn ≤ n from by omega)
 clear hnn d1 d1'
 rotate_left
 have d1 : decide ((n : Int) > 60) = false := by simp; omega
 have d1' : decide ((60 : Int) < (n : Int)) = false := by simp; omega
 go_upto_region 6 with fail
 obtain ⟨nn, hnn⟩ : ∃ nn : Nat, nn = n := ⟨_, rfl⟩
 rw [show Value.slice p n c = Value.slice p nn c from by rw [hnn]]
 have HNN := hid (show nn ≤ 60 ∧ nn ≤ n from by omega)
 clear hnn d1 d1'
 rotate_left
 all_goals
  clear h60
  go_upto_region 7 with fail
  have HL := hid (show ∃ G, SfI w cb G (.slice (some ⟨w2.heap.size, 0, none⟩) 0 0) [] (w2.alloc (.cells #[] 45)) from ⟨G, HCC.out.old ((Old.refl w2).alloc _), DnRow.empty HOO.out.size HCC.out, HOO.out.trans ((Old.refl w2).alloc _), [], by rw [CG.out]; exact Cov.new keep old, saf0, (fun d q => nomatch q)⟩)
  clear HCC HOO CG
  generalize w2.alloc (.cells #[] 45) = wa at *
  generalize w2.heap.size = dr at *
  have HR2 := hid (fun (i : Nat) (h : i < nn) => HR.out i (by have := HNN.out; omega))
  have hnm : nn ≤ 60 := HNN.out.1
  clear HR HNN hc1 hmx
  go_wp2
  go_loopw [8, 38] (fun vv i wx => ∃ (k : Nat) (L : List Dn), k ≤ nn ∧ L.length ≤ k ∧ i = .int .i64 (k : Nat) ∧ Hid (∃ G, SfI w cb G vv L wx)) (fun _ i _ => nn - (intOf i).toNat)
  case atStart => exact ⟨0, [], Nat.zero_le _, Nat.le_refl _, rfl, HL⟩
  case round =>
   clear HL
   obtain ⟨k, L, hk, hL, rfl, HI⟩ := hrel
   obtain ⟨G, hI⟩ := HI.out
   obtain ⟨va, vc, hvv⟩ := hI.r.len
   have H0 := hid hI
   obtain ⟨ln, hln⟩ : ∃ ln, L.length = ln := ⟨_, rfl⟩
   rw [hln] at hvv hL
   subst hvv
   have HLn := hid hln
   clear hI HI hln
   by_cases hlt : k < nn
   ·obtain ⟨g, off, rfl, hin, hok⟩ := HR2.out k hlt
    obtain ⟨q0, q1, q2, q3, q4, q5⟩ := hin.old H0.out.u
    have OK := hid hok
    clear hin hok HR2
    generalize f k = s at *
    obtain ⟨s1, s2, s3, a1, a2, a3, n1, n2, n3, c1, c2, c3, x1, x3, f2⟩ := s
    dsimp only at q0 q1 q2 q3 q4 q5
    have l1 : (0 : Int) ≤ (k : Int) := by omega
    have l2 : (k : Int) < (nn : Int) := by omega
    go_upto_region 10 with fail
    clear q0 q1 q2 q3 q4 q5
    have UA1 := hid (H0.out.u.trans ((Old.refl wr).alloc (.cells #[.int .i64 s1, .int .i64 s2, .int .i64 s3, .slice a1 n1 c1, .slice a2 n2 c2, .slice a3 n3 c3] 25)))
    have C1 := hid (H0.out.c.old ((Old.refl wr).alloc (.cells #[.int .i64 s1, .int .i64 s2, .int .i64 s3, .slice a1 n1 c1, .slice a2 n2 c2, .slice a3 n3 c3] 25)))
    have R1 := hid (H0.out.r.old ((Old.refl wr).alloc (.cells #[.int .i64 s1, .int .i64 s2, .int .i64 s3, .slice a1 n1 c1, .slice a2 n2 c2, .slice a3 n3 c3] 25)))
    have A1 := hid (show SubB' wr.heap.size s1 s2 s3 (.slice a1 n1 c1) (.slice a2 n2 c2) (.slice a3 n3 c3) (wr.alloc (.cells #[.int .i64 s1, .int .i64 s2, .int .i64 s3, .slice a1 n1 c1, .slice a2 n2 c2, .slice a3 n3 c3] 25)) from alloc_at wr (.cells #[.int .i64 s1, .int .i64 s2, .int .i64 s3, .slice a1 n1 c1, .slice a2 n2 c2, .slice a3 n3 c3] 25))
    have N1 := hid (show wr.heap.size ∉ mblC cb G from fun q => Nat.lt_irrefl _ (H0.out.c.lt _ q).2)
    have K1 := hid (show ∀ k ∈ G.kn, ∀ g ∈ k.bl, g ≠ wr.heap.size from fun k q g hg e => by have := ((H0.out.c.kk k q).lt g hg).2; omega)
    have NR := hid (show ∀ g, (Value.slice va ln vc).ownBlock = some g → g ≠ wr.heap.size from fun g e q => by have := (World.ownsRow.lt H0.out.r.row g e).2; omega)
    have B1 := hid (show w.heap.size ≤ wr.heap.size from H0.out.u.size)
    generalize wr.alloc (.cells #[.int .i64 s1, .int .i64 s2, .int .i64 s3, .slice a1 n1 c1, .slice a2 n2 c2, .slice a3 n3 c3] 25) = w3 at *
    generalize wr.heap.size = ab at *
    have HCo := hid (fun (W : World) (u : Old w3 W) => count_old w.heap.size cb G W (C1.out.old u))
    have hc0 := H0.out.ok.n1
    have hc3 := H0.out.ok.n2
    obtain ⟨cn, hcn⟩ : ∃ cn : Int, G.c.cnt = cn := ⟨_, rfl⟩
    rw [hcn] at HCo hc0 hc3
    have HSn := hid (fun (W : World) => HSnp.out s1 s2 s3 a1 a2 a3 n1 n2 n3 c1 c2 c3 cn hc0 hc3 W)
    clear hcn hc0 hc3 HSnp
    obtain ⟨z, hz⟩ : ∃ z, snapV s3 cn = z := ⟨_, rfl⟩
    rw [hz] at HSn
    clear hz
    focus
     refine wp_region_noPanic ?_
     refine wp_region_held_drew (S := fun _ => True) (by kernel_rfl) ?_ (fun hHeld => ?_)
     ·exact trivial
     try simp only [Act.put, puA, puB, puC]
     clear hHeld
     all_goals
      refine atA [false, false, false, false, false] ?_
      refine tkA (i := 1) (oi := oCeq0) trivial ?_
      try simp only [Act.put, puA, puB, puC]
      refine rdA [0, 2] ?_
      refine AllReadyH.cons (o := oCeq1) rfl (fun K hK => ?_) (AllReadyH.cons (o := oCeq2) rfl (fun K hK => ?_) AllReadyH.nil)
      refine stepLdSub ?_ (.tmp 10) ?_ ab s1 s2 s3 a1 a2 a3 n1 n2 n3 c1 c2 c3 ?_ (((Old.refl w3).drew).block A1.out) ?_
      iterate 3 rfl
      refine hK.out _ _ trivial (fun _ => ?_)
      clear hK K
      try simp only [Act.put, puA, puB, puC]
      rotate_left
      refine wantCall1 ?_ 11 (.tmp 43) #[26] ?_ (.pointer (some ⟨cb, 0, none⟩)) ?_ ?_ ((enters_of Tryz.func11 (by kernel_rfl) rfl) _ _) ?_
      iterate 4 rfl
      refine (HCo.out _ ((Old.refl w3).drew)).mono ?_
      rintro o x200n ⟨rfl, b200n⟩
      refine ⟨_, rfl, ?_⟩
      have U200n := ((Old.refl w3).drew).trans b200n
      refine hK.out _ _ trivial (fun _ => ?_)
      clear hK K
      try simp only [Act.put, puA, puB, puC]
      have UU_200 := U200n
      obtain ⟨xw_200, rfl⟩ : ∃ z, z = x200n := ⟨_, rfl⟩
      rotate_left
     all_goals first
      |refine atA [true, true, false, false, false] ?_
       refine rdA [2] ?_
       refine AllReadyH.cons (o := oCeq2) rfl (fun K hK => ?_) AllReadyH.nil
       refine wantCall1 ?_ 11 (.tmp 43) #[26] ?_ (.pointer (some ⟨cb, 0, none⟩)) ?_ ?_ ((enters_of Tryz.func11 (by kernel_rfl) rfl) _ _) ?_
       iterate 4 rfl
       refine (HCo.out _ ((Old.refl w3).drew)).mono ?_
       rintro o x200n ⟨rfl, b200n⟩
       refine ⟨_, rfl, ?_⟩
       have U200n := ((Old.refl w3).drew).trans b200n
       refine hK.out _ _ trivial (fun _ => ?_)
       clear hK K
       try simp only [Act.put, puA, puB, puC]
       have UU_200 := U200n
       obtain ⟨xw_200, rfl⟩ : ∃ z, z = x200n := ⟨_, rfl⟩
      |refine atA [false, true, true, false, false] ?_
       refine rdA [0] ?_
       refine AllReadyH.cons (o := oCeq1) rfl (fun K hK => ?_) AllReadyH.nil
       refine stepLdSub ?_ (.tmp 10) ?_ ab s1 s2 s3 a1 a2 a3 n1 n2 n3 c1 c2 c3 ?_ (UU_200.block A1.out) ?_
       iterate 3 rfl
       refine hK.out _ _ trivial (fun _ => ?_)
       clear hK K
       try simp only [Act.put, puA, puB, puC]
     all_goals
      refine atA [true, true, true, false, false] ?_
      refine rdA [3] ?_
      refine AllReadyH.cons (o := oCeq3) rfl (fun K hK => ?_) AllReadyH.nil
      refine wantCall2 ?_ 15 (.tmp 42) (.tmp 44) #[25, 2] ?_ (.agg #[.int .i64 s1, .int .i64 s2, .int .i64 s3, .slice a1 n1 c1, .slice a2 n2 c2, .slice a3 n3 c3]) (.int .i64 cn) ?_ ?_ ?_ ((enters_of Tryz.func15 (by kernel_rfl) rfl) _ _) ?_
      iterate 5 rfl
      refine (HSn.out _).mono ?_
      rintro o x200n ⟨rfl, b200n⟩
      refine ⟨_, rfl, ?_⟩
      have U200n := UU_200.trans b200n
      refine hK.out _ _ trivial (fun _ => ?_)
      clear hK K
      try simp only [Act.put, puA, puB, puC]
      have UU_200 := U200n
      obtain ⟨xw_200, rfl⟩ : ∃ z, z = x200n := ⟨_, rfl⟩
     all_goals
      refine atA [true, true, true, true, false] ?_
      refine rdA [4] ?_
      refine AllReadyH.cons (o := oCeq4) rfl (fun K hK => ?_) AllReadyH.nil
      refine stepStSub ?_ (.tmp 10) (.tmp 45) ?_ ab s1 s2 s3 s1 s2 z _ _ _ a1 a2 a3 n1 n2 n3 c1 c2 c3 ?_ ?_ (UU_200.block A1.out) ?_
      iterate 4 rfl
      refine hK.out _ _ trivial (fun _ => ?_)
      clear hK K
      try simp only [Act.put, puA, puB, puC]
     all_goals
      refine atA [true, true, true, true, true] ?_
      refine wpAnyH_done (by kernel_rfl) ?_ _
      refine NoPanic.normal ?_
      have CA := hid (Chg.setK xw_200 ab 0 [.int .i64 s1, .int .i64 s2, .int .i64 z, .slice a1 n1 c1, .slice a2 n2 c2, .slice a3 n3 c3] [ab] (by simp))
      have A2 := hid (show SubB' ab s1 s2 z (.slice a1 n1 c1) (.slice a2 n2 c2) (.slice a3 n3 c3) (xw_200.setCells ab 0 [.int .i64 s1, .int .i64 s2, .int .i64 z, .slice a1 n1 c1, .slice a2 n2 c2, .slice a3 n3 c3]) from subB_set (UU_200.block A1.out))
      have C2 := hid ((C1.out.old UU_200).chg CA.out (fun k q e => by simp at e; subst e; exact N1.out q) (fun k q g hg e => by simp at e; exact K1.out k q g hg e))
      have R2 := hid ((R1.out.old UU_200).chg CA.out (fun g e q => by simp at q; exact NR.out g e q))
      have UA2 := hid (show Old w (xw_200.setCells ab 0 [.int .i64 s1, .int .i64 s2, .int .i64 z, .slice a1 n1 c1, .slice a2 n2 c2, .slice a3 n3 c3]) from (UA1.out.trans UU_200).below (CA.out.below w.heap.size (fun k q => by simp at q; have := B1.out; omega) (UA1.out.trans UU_200).size))
      generalize xw_200.setCells ab 0 [.int .i64 s1, .int .i64 s2, .int .i64 z, .slice a1 n1 c1, .slice a2 n2 c2, .slice a3 n3 c3] = w4 at *
    all_goals clear A1 C1 R1 UA1 HCo HSn
    all_goals
     have OK2 := hid (show Sb.Ok (⟨s1, s2, z, a1, a2, a3, n1, n2, n3, c1, c2, c3, x1, x3, f2⟩ : Sb) w from ⟨OK.out.h1, OK.out.h2, OK.out.h3, OK.out.b1, OK.out.b2, OK.out.b3⟩)
     obtain ⟨UU, hUU⟩ : ∃ UU, Sb.pl (⟨s1, s2, z, a1, a2, a3, n1, n2, n3, c1, c2, c3, x1, x3, f2⟩ : Sb) = UU := ⟨_, rfl⟩
     have HUU := hid hUU
     have HFU := hid (show UU.F from hUU ▸ Sb.plF OK2.out)
     obtain ⟨ck, hck⟩ : ∃ ck, Sb.chk (⟨s1, s2, z, a1, a2, a3, n1, n2, n3, c1, c2, c3, x1, x3, f2⟩ : Sb) = ck := ⟨_, rfl⟩
     have HDec := hid (H0.out.dec UU HFU.out ck)
     have DC := hid (decide_any (⟨s1, s2, z, a1, a2, a3, n1, n2, n3, c1, c2, c3, x1, x3, f2⟩ : Sb) w.heap.size cb G w4 (OK2.out.old UA2.out) (Sb.arg_far OK2.out (fun k q => (C2.out.lt k q).1)) C2.out H0.out.ok)
     rw [hck, hUU] at DC
     obtain ⟨rr, hrr⟩ : ∃ rr, decC G.c UU ck = rr := ⟨_, rfl⟩
     rw [hrr] at DC HDec
     clear hrr hUU hck
     obtain ⟨rc, rn, rp⟩ := rr
     unfold DePost at DC
     unfold SfR at HDec
     dsimp only at DC HDec
     obtain ⟨⟨y0, y1, y2, y3, y4, y5⟩, -⟩ := box6F A2.out
     have NA := hid (N1.out)
     go_upto_region 12 with (go_at_call 9; refine DC.out.mono ?_; rintro e w7 ⟨G7, rfl, h7, m7, c7, -⟩; have C7 := hid h7; have G7c := hid c7; have R7 := hid (R2.out.mov m7); have UA7 := hid (m7.keep UA2.out C2.out); have A7 := hid (m7.1.heapAt A2.out NA.out); clear h7 m7 c7)
     clear y0 y1 y2 y3 y4 y5 DC C2 R2 UA2 A2
     have UA8 := hid (UA7.out.trans ((Old.refl w7).alloc (.cells #[.int .i64 rc, .int .i64 rn] 33)))
     have C8 := hid (C7.out.old ((Old.refl w7).alloc (.cells #[.int .i64 rc, .int .i64 rn] 33)))
     have R8 := hid (R7.out.old ((Old.refl w7).alloc (.cells #[.int .i64 rc, .int .i64 rn] 33)))
     have A8 := hid (((Old.refl w7).alloc (.cells #[.int .i64 rc, .int .i64 rn] 33)).block A7.out)
     have X8 := hid (alloc_at w7 (.cells #[.int .i64 rc, .int .i64 rn] 33))
     clear C7 R7 UA7 A7
     generalize w7.alloc (.cells #[.int .i64 rc, .int .i64 rn] 33) = w8 at *
     generalize w7.heap.size = xb at *
     obtain ⟨⟨v0, v1⟩, -⟩ := box2V X8.out
     by_cases hz : rc = 0
     ·subst hz
      have HDN := hid (HDec.out.2 rfl (⟨s1, s2, z, a1, a2, a3, n1, n2, n3, c1, c2, c3, x1, x3, f2⟩ : Sb) HUU.out)
      clear HDec
      go_upto_region 13 with fail
      have U9x := hid (UA8.out.trans ((Old.refl w8).alloc (.cells #[.int .i64 rn, .int .i64 s1, .int .i64 s2, .int .i64 z, .slice a1 n1 c1, .slice a2 n2 c2, .slice a3 n3 c3] 45)))
      have C9 := hid (C8.out.old ((Old.refl w8).alloc (.cells #[.int .i64 rn, .int .i64 s1, .int .i64 s2, .int .i64 z, .slice a1 n1 c1, .slice a2 n2 c2, .slice a3 n3 c3] 45)))
      have R9 := hid (R8.out.old ((Old.refl w8).alloc (.cells #[.int .i64 rn, .int .i64 s1, .int .i64 s2, .int .i64 z, .slice a1 n1 c1, .slice a2 n2 c2, .slice a3 n3 c3] 45)))
      have DX := hid (show DnIn (w8.alloc (.cells #[.int .i64 rn, .int .i64 s1, .int .i64 s2, .int .i64 z, .slice a1 n1 c1, .slice a2 n2 c2, .slice a3 n3 c3] 45)) w8.heap.size 0 ⟨rn, (⟨s1, s2, z, a1, a2, a3, n1, n2, n3, c1, c2, c3, x1, x3, f2⟩ : Sb)⟩ from box7D (alloc_at w8 (.cells #[.int .i64 rn, .int .i64 s1, .int .i64 s2, .int .i64 z, .slice a1 n1 c1, .slice a2 n2 c2, .slice a3 n3 c3] 45)))
      have hL1 : L.length ≤ 1048576 := by have := HLn.out; omega
      have HL1 := hid hL1
      clear hL1
      obtain ⟨⟨y0, y1, y2, y3, y4, y5⟩, -⟩ := box6F A8.out
      go_wp2_with (at_builtin; refine wp_appDn rfl (.tmp 52) (.tmp 57) rfl w.heap.size (.slice va ln vc) L w8.heap.size ⟨rn, (⟨s1, s2, z, a1, a2, a3, n1, n2, n3, c1, c2, c3, x1, x3, f2⟩ : Sb)⟩ rfl rfl R9.out.row DX.out HL1.out U9x.out.size ?_; intro v' w9 h1 h2 h3; have P9 := hid (R9.out.put C9.out OK2.out h1 h2 h3 U9x.out); clear h1 h2 h3)
      go_roundw
      case rel =>
       refine ⟨k + 1, L ++ [⟨rn, (⟨s1, s2, z, a1, a2, a3, n1, n2, n3, c1, c2, c3, x1, x3, f2⟩ : Sb)⟩], hlt, by simp; have := HLn.out; omega, by go_num, hid ⟨G7, P9.out.2.1, P9.out.1, P9.out.2.2, ?_⟩⟩
       rw [G7c.out]
       exact HDN.out
      case measure => simp [intOf]; omega
     ·have HGG := hid (HDec.out.1 hz)
      clear HDec
      have d1 : (rc == 0) = false := by simp [hz]
      go_wp2
      go_roundw
      case rel =>
       refine ⟨k + 1, L, hlt, by have := HLn.out; omega, by go_num, hid ⟨G7, C8.out, R8.out, UA8.out, ?_⟩⟩
       rw [G7c.out, HGG.out]
       exact H0.out.h
      case measure => simp [intOf]; omega
   ·obtain rfl : k = nn := by omega
    have HSf := hid H0.out.all
    have HGet := hid (show ∀ i, i < ln → ∃ gd, va = some ⟨gd, 0, none⟩ ∧ ∃ d ∈ L, d.s.Ok w ∧ ∀ W, Old wr W → DnIn W gd (i * 7) d from fun i hi => by
     have e := HLn.out
     subst e
     exact H0.out.r.get i hi)
    have UW := hid H0.out.u
    clear H0 HR2 HSnp HLn
    go_upto_region 15 with fail
    generalize wr = wa at *
    go_wp2
    go_loopw [62] (fun i wx => ∃ q : Nat, q ≤ ln ∧ i = .int .i64 (q : Nat) ∧ Hid (Old wa wx)) (fun i _ => ln - (intOf i).toNat)
    case atStart => exact ⟨0, Nat.zero_le _, rfl, hid (Old.refl _)⟩
    case round =>
     obtain ⟨qa, hqa, rfl, HA⟩ := hrel
     by_cases hal : qa < ln
     ·have m1 : (0 : Int) ≤ (qa : Int) := by omega
      have m2 : (qa : Int) < (ln : Int) := by omega
      obtain ⟨gd, rfl, da, ma, oka, ina⟩ := HGet.out qa hal
      obtain ⟨an, a1, a2, a3, ap1, ap2, ap3, an1, an2, an3, ac1, ac2, ac3, ax1, ax3, af2⟩ := da
      obtain ⟨t0, t1, t2, t3, t4, t5, t6⟩ := ina wr HA.out
      dsimp only at t0 t1 t2 t3 t4 t5 t6
      have MA := hid ma
      have OKA := hid oka
      clear ma oka ina
      go_upto_region 18 with fail
      have XA := hid (alloc_at wr (.cells #[.int .i64 an, .int .i64 a1, .int .i64 a2, .int .i64 a3, .slice ap1 an1 ac1, .slice ap2 an2 ac2, .slice ap3 an3 ac3] 45))
      have UA := hid (HA.out.trans ((Old.refl wr).alloc (.cells #[.int .i64 an, .int .i64 a1, .int .i64 a2, .int .i64 a3, .slice ap1 an1 ac1, .slice ap2 an2 ac2, .slice ap3 an3 ac3] 45)))
      clear t0 t1 t2 t3 t4 t5 t6 HA
      generalize wr.alloc (.cells #[.int .i64 an, .int .i64 a1, .int .i64 a2, .int .i64 a3, .slice ap1 an1 ac1, .slice ap2 an2 ac2, .slice ap3 an3 ac3] 45) = w1 at *
      generalize wr.heap.size = xa at *
      go_wp2
      go_loopw [68] (fun i wx => ∃ q : Nat, q ≤ ln ∧ i = .int .i64 (q : Nat) ∧ Hid (Old w1 wx)) (fun i _ => ln - (intOf i).toNat)
      case atStart => exact ⟨0, Nat.zero_le _, rfl, hid (Old.refl _)⟩
      case round =>
       obtain ⟨qb, hqb, rfl, HB⟩ := hrel
       by_cases hbl : qb < ln
       ·have m3 : (0 : Int) ≤ (qb : Int) := by omega
        have m4 : (qb : Int) < (ln : Int) := by omega
        obtain ⟨gd2, ev, db, mb, okb, inb⟩ := HGet.out qb hbl
        cases ev
        obtain ⟨bn, b1, b2, b3, bp1, bp2, bp3, bn1, bn2, bn3, bc1, bc2, bc3, bx1, bx3, bf2⟩ := db
        obtain ⟨t0, t1, t2, t3, t4, t5, t6⟩ := inb wr (UA.out.trans HB.out)
        dsimp only at t0 t1 t2 t3 t4 t5 t6
        have MB := hid mb
        have OKB := hid okb
        clear mb okb inb
        go_upto_region 21 with fail
        have XB := hid (alloc_at wr (.cells #[.int .i64 bn, .int .i64 b1, .int .i64 b2, .int .i64 b3, .slice bp1 bn1 bc1, .slice bp2 bn2 bc2, .slice bp3 bn3 bc3] 45))
        have UB := hid ((UA.out.trans HB.out).trans ((Old.refl wr).alloc (.cells #[.int .i64 bn, .int .i64 b1, .int .i64 b2, .int .i64 b3, .slice bp1 bn1 bc1, .slice bp2 bn2 bc2, .slice bp3 bn3 bc3] 45)))
        have VB1 := hid (HB.out.trans ((Old.refl wr).alloc (.cells #[.int .i64 bn, .int .i64 b1, .int .i64 b2, .int .i64 b3, .slice bp1 bn1 bc1, .slice bp2 bn2 bc2, .slice bp3 bn3 bc3] 45)))
        have XA2 := hid ((HB.out.trans ((Old.refl wr).alloc (.cells #[.int .i64 bn, .int .i64 b1, .int .i64 b2, .int .i64 b3, .slice bp1 bn1 bc1, .slice bp2 bn2 bc2, .slice bp3 bn3 bc3] 45))).block XA.out)
        clear t0 t1 t2 t3 t4 t5 t6 HB
        generalize wr.alloc (.cells #[.int .i64 bn, .int .i64 b1, .int .i64 b2, .int .i64 b3, .slice bp1 bn1 bc1, .slice bp2 bn2 bc2, .slice bp3 bn3 bc3] 45) = w2' at *
        generalize wr.heap.size = xb at *
        have HS2 := hid (HSf.out _ MA.out _ MB.out)
        have HNr := hid (fun (W : World) => near_any (⟨an, ⟨a1, a2, a3, ap1, ap2, ap3, an1, an2, an3, ac1, ac2, ac3, ax1, ax3, af2⟩⟩ : Dn) (⟨bn, ⟨b1, b2, b3, bp1, bp2, bp3, bn1, bn2, bn3, bc1, bc2, bc3, bx1, bx3, bf2⟩⟩ : Dn) W)
        dsimp only at HS2 HNr
        obtain ⟨nb, hnb⟩ : ∃ nb, nearB an a3 bn b3 = nb := ⟨_, rfl⟩
        rw [hnb] at HS2 HNr
        clear hnb
        obtain ⟨x0, x1, x2, x3, x4, x5, x6⟩ := box7D XA2.out
        obtain ⟨y0, y1, y2, y3, y4, y5, y6⟩ := box7D XB.out
        cases nb
        ·go_wp2_with (go_at_call 17; refine (HNr.out _).mono ?_; rintro e wn ⟨rfl, on⟩; have On := hid (VB1.out.trans on); clear on)
         go_roundw
         case rel => exact ⟨qb + 1, hbl, by go_num, On⟩
         case measure => simp [intOf]; omega
        ·have HS3 := hid (HS2.out (by first | rfl | trivial))
         clear HS2
         go_upto_region 22 with (go_at_call 17; refine (HNr.out _).mono ?_; rintro e wn ⟨rfl, on⟩; have On := hid (VB1.out.trans on); have Pn := hid (UB.out.trans on); have XAn := hid (on.block XA2.out); have XBn := hid (on.block XB.out); clear on)
         clear x0 x1 x2 x3 x4 x5 x6 y0 y1 y2 y3 y4 y5 y6 XA2 XB UB VB1 HNr
         obtain ⟨x0, x1, x2, x3, x4, x5, x6⟩ := box7D XAn.out
         go_upto_region 23 with fail
         clear x0 x1 x2 x3 x4 x5 x6
         have HFr := hid (fun (W : World) (u : Old w W) => (OKA.out.old u).h3)
         have HWr := hid (fun (k : Nat) (hk : Fl.W k) (W : World) (u : Old w W) => rwrites_any (⟨b1, b2, b3, bp1, bp2, bp3, bn1, bn2, bn3, bc1, bc2, bc3, bx1, bx3, bf2⟩ : Sb) k hk W (OKB.out.old u))
         have HMe := hid (fun (W : World) (u : Old w W) => rmeets_any (⟨a1, a2, a3, ap1, ap2, ap3, an1, an2, an3, ac1, ac2, ac3, ax1, ax3, af2⟩ : Sb) (⟨b1, b2, b3, bp1, bp2, bp3, bn1, bn2, bn3, bc1, bc2, bc3, bx1, bx3, bf2⟩ : Sb) W (OKA.out.old u) (OKB.out.old u))
         rw [meetU_pl] at HMe
         have HWU := hid (fun (i : Nat) (hi : i < an3) => show writeB (⟨b1, b2, b3, bp1, bp2, bp3, bn1, bn2, bn3, bc1, bc2, bc3, bx1, bx3, bf2⟩ : Sb) (ax3 i) = false from by
          rw [writeU_pl]
          have := HS3.out.1
          unfold bwU at this
          rw [List.any_eq_false] at this
          have h := this (ax3 i) (show ax3 i ∈ lsG ax3 an3 from by simp [lsG]; exact ⟨i, hi, rfl⟩)
          simpa using h)
         have HS4 := hid HS3.out.2
         clear HS3
         dsimp only at HFr HWr HMe HS4
         go_wp2
         go_loopw [80] (fun i wx => ∃ q : Nat, q ≤ an3 ∧ i = .int .i64 (q : Nat) ∧ Hid (Old wn wx)) (fun i _ => an3 - (intOf i).toNat)
         case atStart => exact ⟨0, Nat.zero_le _, rfl, hid (Old.refl _)⟩
         case round =>
          obtain ⟨qk, hqk, rfl, HK⟩ := hrel
          have Ur := hid (UW.out.trans (Pn.out.trans HK.out))
          by_cases hkl : qk < an3
          ·have m5 : (0 : Int) ≤ (qk : Int) := by omega
           have m6 : (qk : Int) < (an3 : Int) := by omega
           obtain ⟨hmx, pp, cc, ev, hcx⟩ := HFr.out wr Ur.out
           simp only [Value.slice.injEq, true_and] at ev
           obtain ⟨rfl, rfl⟩ := ev
           obtain ⟨gb, of2, rfl, hW, c0⟩ := hcx qk hkl
           have HWk := hid (HWr.out (ax3 qk) hW)
           rw [HWU.out qk hkl] at HWk
           clear hcx hW HFr HWU HWr
           generalize ax3 qk = X at *
           obtain ⟨y0, y1, y2, y3, y4, y5, y6⟩ := box7D (HK.out.block XBn.out)
           go_wp2_with (go_at_call 12; refine (HWk.out _ Ur.out).mono ?_; rintro e wv ⟨rfl, ov⟩; have Ov := hid (HK.out.trans ov); clear ov)
           go_roundw
           case rel => exact ⟨qk + 1, hkl, by go_num, Ov⟩
           case measure => simp [intOf]; omega
          ·obtain ⟨mab, hmab⟩ : ∃ m, meetU (Sb.pl (⟨a1, a2, a3, ap1, ap2, ap3, an1, an2, an3, ac1, ac2, ac3, ax1, ax3, af2⟩ : Sb)) (Sb.pl (⟨b1, b2, b3, bp1, bp2, bp3, bn1, bn2, bn3, bc1, bc2, bc3, bx1, bx3, bf2⟩ : Sb)) = m := ⟨_, rfl⟩
           rw [hmab] at HMe HS4
           clear hmab HFr HWU HWr
           have XAk := hid (HK.out.block XAn.out)
           have XBk := hid (HK.out.block XBn.out)
           have Pk := hid (Pn.out.trans HK.out)
           have Ok := hid (On.out.trans HK.out)
           clear XAn XBn Pn On HK
           obtain ⟨x0, x1, x2, x3, x4, x5, x6⟩ := box7D XAk.out
           obtain ⟨y0, y1, y2, y3, y4, y5, y6⟩ := box7D XBk.out
           cases mab
           ·go_wp2_with (go_at_call 13; refine (HMe.out _ Ur.out).mono ?_; rintro e wv ⟨rfl, ov⟩; have Ov := hid (Ok.out.trans ov); clear ov)
            go_roundw
            case rel => exact ⟨qb + 1, hbl, by go_num, Ov⟩
            case measure => simp [intOf]; omega
           ·have HS5 := hid (HS4.out (by first | rfl | trivial))
            clear HS4
            go_upto_region 29 with (go_at_call 13; refine (HMe.out _ Ur.out).mono ?_; rintro e wv ⟨rfl, ov⟩; have Ov := hid (Ok.out.trans ov); have Pv := hid (Pk.out.trans ov); have XAv := hid (ov.block XAk.out); have XBv := hid (ov.block XBk.out); clear ov)
            clear x0 x1 x2 x3 x4 x5 x6 y0 y1 y2 y3 y4 y5 y6 XAk XBk Pk Ok HMe Ur
            go_wp2
            go_loopw [97] (fun i wx => ∃ q : Nat, q ≤ ln ∧ i = .int .i64 (q : Nat) ∧ Hid (Old wv wx)) (fun i _ => ln - (intOf i).toNat)
            case atStart => exact ⟨0, Nat.zero_le _, rfl, hid (Old.refl _)⟩
            case round =>
             obtain ⟨qd, hqd, rfl, HD⟩ := hrel
             by_cases hdl : qd < ln
             ·have m7 : (0 : Int) ≤ (qd : Int) := by omega
              have m8 : (qd : Int) < (ln : Int) := by omega
              obtain ⟨gd3, ev, dd, md, okd, ind⟩ := HGet.out qd hdl
              cases ev
              obtain ⟨dn, d1, d2, d3, dp1, dp2, dp3, dn1, dn2, dn3, dc1, dc2, dc3, dx1, dx3, df2⟩ := dd
              obtain ⟨t0, t1, t2, t3, t4, t5, t6⟩ := ind wr (Pv.out.trans HD.out)
              dsimp only at t0 t1 t2 t3 t4 t5 t6
              have HS6 := hid (HS5.out _ md)
              have OKD := hid okd
              clear md okd ind
              go_upto_region 32 with fail
              have VD1 := hid (HD.out.trans ((Old.refl wr).alloc (.cells #[.int .i64 dn, .int .i64 d1, .int .i64 d2, .int .i64 d3, .slice dp1 dn1 dc1, .slice dp2 dn2 dc2, .slice dp3 dn3 dc3] 45)))
              have PD := hid (UW.out.trans ((Pv.out.trans HD.out).trans ((Old.refl wr).alloc (.cells #[.int .i64 dn, .int .i64 d1, .int .i64 d2, .int .i64 d3, .slice dp1 dn1 dc1, .slice dp2 dn2 dc2, .slice dp3 dn3 dc3] 45))))
              have XD := hid (alloc_at wr (.cells #[.int .i64 dn, .int .i64 d1, .int .i64 d2, .int .i64 d3, .slice dp1 dn1 dc1, .slice dp2 dn2 dc2, .slice dp3 dn3 dc3] 45))
              have XAd := hid ((HD.out.trans ((Old.refl wr).alloc (.cells #[.int .i64 dn, .int .i64 d1, .int .i64 d2, .int .i64 d3, .slice dp1 dn1 dc1, .slice dp2 dn2 dc2, .slice dp3 dn3 dc3] 45))).block XAv.out)
              have XBd := hid ((HD.out.trans ((Old.refl wr).alloc (.cells #[.int .i64 dn, .int .i64 d1, .int .i64 d2, .int .i64 d3, .slice dp1 dn1 dc1, .slice dp2 dn2 dc2, .slice dp3 dn3 dc3] 45))).block XBv.out)
              clear t0 t1 t2 t3 t4 t5 t6 HD
              generalize wr.alloc (.cells #[.int .i64 dn, .int .i64 d1, .int .i64 d2, .int .i64 d3, .slice dp1 dn1 dc1, .slice dp2 dn2 dc2, .slice dp3 dn3 dc3] 45) = w5 at *
              generalize wr.heap.size = xd at *
              have HNd := hid (fun (W : World) => near_any (⟨bn, ⟨b1, b2, b3, bp1, bp2, bp3, bn1, bn2, bn3, bc1, bc2, bc3, bx1, bx3, bf2⟩⟩ : Dn) (⟨dn, ⟨d1, d2, d3, dp1, dp2, dp3, dn1, dn2, dn3, dc1, dc2, dc3, dx1, dx3, df2⟩⟩ : Dn) W)
              have HMd := hid (fun (W : World) (u : Old w W) => rmeets_any (⟨b1, b2, b3, bp1, bp2, bp3, bn1, bn2, bn3, bc1, bc2, bc3, bx1, bx3, bf2⟩ : Sb) (⟨d1, d2, d3, dp1, dp2, dp3, dn1, dn2, dn3, dc1, dc2, dc3, dx1, dx3, df2⟩ : Sb) W (OKB.out.old u) (OKD.out.old u))
              rw [meetU_pl] at HMd
              dsimp only at HNd HMd HS6
              obtain ⟨nd, hnd⟩ : ∃ nd, nearB bn b3 dn d3 = nd := ⟨_, rfl⟩
              obtain ⟨md, hmd⟩ : ∃ m, meetU (Sb.pl (⟨b1, b2, b3, bp1, bp2, bp3, bn1, bn2, bn3, bc1, bc2, bc3, bx1, bx3, bf2⟩ : Sb)) (Sb.pl (⟨d1, d2, d3, dp1, dp2, dp3, dn1, dn2, dn3, dc1, dc2, dc3, dx1, dx3, df2⟩ : Sb)) = m := ⟨_, rfl⟩
              rw [hnd] at HNd HS6
              rw [hmd] at HMd HS6
              clear hnd hmd
              have hcase : (nd = false ∧ ¬ dn = an) ∨ ((nd = true ∨ dn = an) ∧ md = false) ∨ ((nd = true ∨ dn = an) ∧ md = true ∧ ¬ dn ≤ an) ∨ ((nd = true ∨ dn = an) ∧ md = true ∧ dn ≤ an ∧ ¬ dn < bn) := by
               have h6 := HS6.out
               by_cases e1 : nd = true
               ·by_cases e2 : md = true
                ·by_cases e3 : dn ≤ an
                 ·exact .inr (.inr (.inr ⟨.inl e1, e2, e3, by have := h6 (.inl e1) e2 e3; omega⟩))
                 ·exact .inr (.inr (.inl ⟨.inl e1, e2, e3⟩))
                ·exact .inr (.inl ⟨.inl e1, by simpa using e2⟩)
               ·by_cases e4 : dn = an
                ·by_cases e2 : md = true
                 ·exact .inr (.inr (.inr ⟨.inr e4, e2, by omega, by have := h6 (.inr e4) e2 (by omega); omega⟩))
                 ·exact .inr (.inl ⟨.inr e4, by simpa using e2⟩)
                ·exact .inl ⟨by simpa using e1, e4⟩
              clear HS6
              obtain ⟨x0, x1, x2, x3, x4, x5, x6⟩ := box7D XAd.out
              obtain ⟨y0, y1, y2, y3, y4, y5, y6⟩ := box7D XBd.out
              obtain ⟨z0, z1, z2, z3, z4, z5, z6⟩ := box7D XD.out
              obtain ⟨eb, heb⟩ : ∃ eb, (dn == an) = eb := ⟨_, rfl⟩
              obtain ⟨lb, hlb⟩ : ∃ lb, decide (dn ≤ an) = lb := ⟨_, rfl⟩
              obtain ⟨tb, htb⟩ : ∃ tb, decide (dn < bn) = tb := ⟨_, rfl⟩
              have hall : (nd = false ∧ eb = false) ∨ ((nd = true ∨ eb = true) ∧ md = false) ∨ ((nd = true ∨ eb = true) ∧ md = true ∧ lb = false) ∨ ((nd = true ∨ eb = true) ∧ md = true ∧ lb = true ∧ tb = false) := by
               subst heb hlb htb
               simpa using hcase
              clear hcase
              cases nd <;> cases eb <;> cases md <;> cases lb <;> cases tb <;> first
               | (exfalso; revert hall; decide)
               | (clear hall
                  go_wp2_with (first | (go_at_call 13; refine (HMd.out _ (PD.out.trans On1.out)).mono ?_; rintro e wm ⟨rfl, om⟩; have Om := hid (On1.out.trans om); clear om x0 x1 x2 x3 x4 x5 x6 y0 y1 y2 y3 y4 y5 y6 z0 z1 z2 z3 z4 z5 z6; obtain ⟨x0, x1, x2, x3, x4, x5, x6⟩ := box7D (Om.out.block XAd.out); obtain ⟨y0, y1, y2, y3, y4, y5, y6⟩ := box7D (Om.out.block XBd.out); obtain ⟨z0, z1, z2, z3, z4, z5, z6⟩ := box7D (Om.out.block XD.out)) | (go_at_call 17; refine (HNd.out w5).mono ?_; rintro e wn1 ⟨rfl, on1⟩; have On1 := hid on1; clear on1 x0 x1 x2 x3 x4 x5 x6 y0 y1 y2 y3 y4 y5 y6 z0 z1 z2 z3 z4 z5 z6; obtain ⟨x0, x1, x2, x3, x4, x5, x6⟩ := box7D (On1.out.block XAd.out); obtain ⟨y0, y1, y2, y3, y4, y5, y6⟩ := box7D (On1.out.block XBd.out); obtain ⟨z0, z1, z2, z3, z4, z5, z6⟩ := box7D (On1.out.block XD.out)))
                  go_roundw
                  case rel => first | exact ⟨qd + 1, hdl, by go_num, hid (VD1.out.trans Om.out)⟩ | exact ⟨qd + 1, hdl, by go_num, hid (VD1.out.trans On1.out)⟩
                  case measure => simp [intOf]; omega)
             ·have Ow := hid (Ov.out.trans HD.out)
              clear HS5 XAv XBv Pv
              go_wp2
              go_roundw
              case rel => exact ⟨qb + 1, hbl, by go_num, Ow⟩
              case measure => simp [intOf]; omega
       ·have Ow := hid (UA.out.trans HB.out)
        go_wp2
        go_roundw
        case rel => exact ⟨qa + 1, hal, by go_num, Ow⟩
        case measure => simp [intOf]; omega
     ·have HU := hid (UW.out.trans HA.out)
      go_wp2
      go_ret
      exact ⟨rfl, HU.out⟩
end Go.Proofs.YtfpadkgienjjpaaGreat
