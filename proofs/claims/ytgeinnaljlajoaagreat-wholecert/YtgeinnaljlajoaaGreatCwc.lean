/- The law WholeCert, walked; conditions: its row lies in memory. -/
import Derived.Test.YtgeinnaljlajoaaGreatSqa
import Derived.Test.YtgeinnaljlajoaaGreatCwb
namespace Go.Proofs.YtgeinnaljlajoaaGreat
abbrev oCwc0 : Oper := { dst := some 40, op := .move (.tmp 7), type := 26, pos := "top08.go:36", after := #[], guard := none }
abbrev oCwc1 : Oper := { dst := some 43, op := .fieldAddr 25 (.tmp 10) 2, type := 0, pos := "top08.go:36", after := #[], guard := none }
abbrev oCwc2 : Oper := { dst := some 41, op := .call { callee := Callee.value (.func 10), args := #[.tmp 40], argTypes := #[26] }, type := 2, pos := "top08.go:36", after := #[⟨0, .data⟩], guard := none }
abbrev oCwc3 : Oper := { dst := some 44, op := .load 2 (.tmp 43), type := 2, pos := "top08.go:36", after := #[⟨3, .data⟩], guard := none }
abbrev oCwc4 : Oper := { dst := some 42, op := .binOp .add 2 (.tmp 41) (.const (.int IntKind.i64 1)) 2, type := 2, pos := "top08.go:36", after := #[⟨1, .data⟩], guard := none }
abbrev oCwc5 : Oper := { dst := some 45, op := .binOp .add 2 (.tmp 42) (.tmp 44) 2, type := 2, pos := "top08.go:36", after := #[⟨2, .data⟩, ⟨4, .data⟩], guard := none }
abbrev oCwc6 : Oper := { dst := some 46, op := .call { callee := Callee.builtin Builtin.max, args := #[.tmp 45, .const (.int IntKind.i64 0)], argTypes := #[2, 2] }, type := 2, pos := "top08.go:36", after := #[⟨5, .data⟩], guard := none }
abbrev oCwc7 : Oper := { dst := some 47, op := .fieldAddr 25 (.tmp 10) 2, type := 0, pos := "top08.go:36", after := #[⟨0, .phase⟩, ⟨1, .phase⟩, ⟨2, .phase⟩, ⟨3, .phase⟩, ⟨4, .phase⟩, ⟨5, .phase⟩, ⟨6, .phase⟩], guard := none }
abbrev oCwc8 : Oper := { dst := none, op := .store 2 (.tmp 47) (.tmp 46), type := 0, pos := "top08.go:36", after := #[⟨7, .data⟩, ⟨6, .data⟩, ⟨1, .chain⟩, ⟨0, .phase⟩, ⟨1, .phase⟩, ⟨2, .phase⟩, ⟨3, .phase⟩, ⟨4, .phase⟩, ⟨5, .phase⟩, ⟨6, .phase⟩], guard := none }
open Go.RowKit Go.Lib
set_option linter.unusedVariables false
set_option linter.unusedSimpArgs false
set_option maxRecDepth 20000
attribute [local go_sem] run_bits run_frombits run_store_float eqF
theorem orL_len (L : List Dn) : (orL (atL L) L.length).length ≤ L.length := by
 by_cases h : orB (atL L) L.length = true
 ·exact Nat.le_of_eq (or_ord h).2
 ·unfold orL
  rw [if_neg h]
  exact Nat.zero_le _
theorem three' {P : Prop} (s : Int) (h1 : s < 0 → -50 < s → P) (h2 : s < 0 → ¬ -50 < s → P) (h3 : ¬ s < 0 → P) : P := by
 by_cases a : s < 0
 ·by_cases b : -50 < s
  ·exact h1 a b
  ·exact h2 a b
 ·exact h3 a
set_option maxHeartbeats 16000000 in
theorem certLaw (keep old : Int) (v : Value) (n : Nat) (f : Nat → Sb) (w : World) (hr : SubRow w v n f) :
    Calls Tryz.prog 5 #[.int .i64 keep, .int .i64 old, v] w fun e w' => e = .returned (.bool true) ∧ Old w w' := by
 obtain ⟨-, p, c, rfl, hc1, hc2, hc⟩ := hr
 have HNw := hid (fun (W : World) => cnew_any keep old W)
 have HSo := hid (fun (W : World) => sound_any W)
 have HR := hid hc
 clear hc
 go_enter Tryz.func5, Tryz.ntmps5
 go_upto_region 3 with (go_at_call 13; refine (HSo.out w).mono ?_; rintro e w1 ⟨rfl, o1⟩; have O1 := hid o1; clear o1)
 go_upto_region 6 with (go_at_call 6; refine (HNw.out w1).mono ?_; rintro e w2 ⟨cb, G, rfl, h1, o2, c1⟩; have H1 := hid h1; have O2 := hid o2; have C1 := hid c1; clear h1 o2 c1)
 go_upto_region 7 with fail
 have HC := hid (H1.out.mono O1.out.size)
 have HL := hid (show ∃ G, WcI w cb G (.slice (some ⟨w2.heap.size, 0, none⟩) 0 0) [] (w2.alloc (.cells #[] 44)) ∧ HsL [] G.c from ⟨G, ⟨HC.out.old ((Old.refl w2).alloc _), DnRow.empty (O1.out.trans O2.out).size HC.out, (O1.out.trans O2.out).trans ((Old.refl w2).alloc _)⟩, by rw [C1.out]; exact HsL.new keep old⟩)
 clear HC H1 O1 O2 C1 HSo
 generalize w2.alloc (.cells #[] 44) = wa at *
 generalize w2.heap.size = dr at *
 go_wp2
 go_loopw [8, 25] (fun vv i wx => ∃ (k : Nat) (L : List Dn), k ≤ n ∧ k ≤ 64 ∧ L.length ≤ k ∧ i = .int .i64 (k : Nat) ∧ Hid (∃ G, WcI w cb G vv L wx ∧ HsL L G.c)) (fun _ i _ => n - (intOf i).toNat)
 case atStart => exact ⟨0, [], Nat.zero_le _, Nat.zero_le _, Nat.le_refl _, rfl, HL⟩
 case round =>
  clear HL
  obtain ⟨k, L, hk, hk64, hL, rfl, HI⟩ := hrel
  obtain ⟨G, hI, hH⟩ := HI.out
  obtain ⟨va, vc, hvv⟩ := hI.r.len
  have H0 := hid hI
  have HH := hid hH
  obtain ⟨ln, hln⟩ : ∃ ln, L.length = ln := ⟨_, rfl⟩
  rw [hln] at hvv hL
  subst hvv
  have HLn := hid (show L.length = ln ∧ ln ≤ 64 ∧ ln ≤ k from ⟨hln, by omega, hL⟩)
  have OkG := hid hH.ok
  clear hI hH HI hln hL
  by_cases hlt : k < n
  ·obtain ⟨g, off, rfl, hin, hok⟩ := HR.out k hlt
   obtain ⟨q0, q1, q2, q3, q4, q5⟩ := hin.old H0.out.u
   have OK := hid hok
   clear hin hok
   generalize f k = s at *
   obtain ⟨s1, s2, s3, sa1, sa2, sa3, sn1, sn2, sn3, sc1, sc2, sc3, sx1, sx3, sf2⟩ := s
   dsimp only at q0 q1 q2 q3 q4 q5
   have l1' : (0 : Int) ≤ (k : Int) := by omega
   have l2' : (k : Int) < (n : Int) := by omega
   go_upto_region 10 with fail
   clear q0 q1 q2 q3 q4 q5
   have T3 := hid (H0.out.old ((Old.refl wr).alloc (.cells #[.int .i64 s1, .int .i64 s2, .int .i64 s3, .slice sa1 sn1 sc1, .slice sa2 sn2 sc2, .slice sa3 sn3 sc3] 25)))
   have A3 := hid (show SubB' wr.heap.size s1 s2 s3 (.slice sa1 sn1 sc1) (.slice sa2 sn2 sc2) (.slice sa3 sn3 sc3) (wr.alloc (.cells #[.int .i64 s1, .int .i64 s2, .int .i64 s3, .slice sa1 sn1 sc1, .slice sa2 sn2 sc2, .slice sa3 sn3 sc3] 25)) from alloc_at wr _)
   have NA := hid (H0.out.fresh (x := wr.heap.size) (Nat.le_refl _))
   clear H0
   generalize wr.alloc (.cells #[.int .i64 s1, .int .i64 s2, .int .i64 s3, .slice sa1 sn1 sc1, .slice sa2 sn2 sc2, .slice sa3 sn3 sc3] 25) = w3 at *
   generalize wr.heap.size = ab at *
   by_cases h64 : k = 64
   ·have d1 : decide ((k : Int) ≥ 64) = true := by simp; omega
    have d2 : decide ((64 : Int) ≤ (k : Int)) = true := by simp; omega
    go_upto_region 17 with fail
    clear A3 NA OK d1 d2 h64
    have U0 := hid T3.out.u
    have R0 := hid (T3.out.r.drow T3.out.u (by have := HLn.out; omega))
    obtain ⟨rt, ro, rd, rs⟩ := HH.out.all (by have := HLn.out; omega)
    have HOr := hid (fun (W : World) (u : Old w3 W) => order_any _ _ _ W (R0.out.old u))
    have HRt := hid (fun (W : World) (u : Old w3 W) => rightH_any _ _ _ W (R0.out.old u))
    have HSt := hid (fun (W : World) (u : Old w3 W) => stuck_any _ _ _ W (R0.out.old u))
    have HRd := hid (fun (vo : Value) (W W' : World) (u : Old w3 W') (h : OwnN W.heap.size W' vo (orL (atL L) L.length)) => readsH_any _ vo _ _ _ W' (R0.out.old u) (h.nrow (by have := orL_len L; have := HLn.out; omega)))
    rw [rt] at HRt
    rw [ro] at HOr
    rw [rs] at HSt
    rw [rd] at HRd
    rw [HLn.out.1] at HOr HRd
    clear T3 HH R0 rt ro rd rs HR HNw
    generalize orL (atL L) ln = OL at *
    go_upto_region 18 with (go_at_call 14; refine (HOr.out _ (Old.refl _)).mono ?_; rintro e wo ⟨vo, rfl, oo, uo⟩; have Oo := hid oo; have Uo := hid uo; clear oo uo)
    obtain ⟨oa, oc, rfl⟩ := Oo.out.len
    go_wp2_with (first | (go_at_call 15; refine (HRt.out _ Uo.out).mono ?_; rintro e wr1 ⟨rfl, ur1⟩; have Ur1 := hid (Uo.out.trans ur1); have Or1 := hid (Oo.out.up ur1); clear ur1) | (go_at_call 16; refine (HRd.out _ _ _ Ur1.out Or1.out).mono ?_; rintro e wr2 ⟨rfl, ur2⟩; have Ur2 := hid (Ur1.out.trans ur2); clear ur2) | (go_at_call 17; refine (HSt.out _ Ur2.out).mono ?_; rintro e wr3 ⟨vs, rfl, os, ur3⟩; have Ur3 := hid (Ur2.out.trans ur3); obtain ⟨sa, sc, rfl⟩ := os.len; clear os ur3))
    go_ret
    exact ⟨rfl, U0.out.trans Ur3.out⟩
   ·have d1 : decide ((k : Int) ≥ 64) = false := by simp; omega
    have d2 : decide ((64 : Int) ≤ (k : Int)) = false := by simp; omega
    go_upto_region 11 with fail
    clear d1 d2 HR
    have HCo := hid (fun (W : World) (u : Old w3 W) => show Calls Tryz.prog 10 #[.pointer (some ⟨cb, 0, none⟩)] W fun e w' => e = .returned (.int .i64 G.c.cnt) ∧ Old W w' from (count_any w.heap.size cb G W (T3.out.c.old u)).mono fun e w' q => ⟨q.1, q.2 ▸ Old.refl W⟩)
    have hc0 := OkG.out.n1
    have hc3 := OkG.out.n2
    obtain ⟨cn, hcn⟩ : ∃ cn : Int, G.c.cnt = cn := ⟨_, rfl⟩
    rw [hcn] at HCo hc0 hc3
    clear hcn
    obtain ⟨⟨y0, y1, y2, y3, y4, y5⟩, -⟩ := box6F A3.out
    refine three' s3 (fun ha hb => ?_) (fun ha hb => ?_) (fun ha => ?_)
    rotate_left
    focus
     have d1 : decide (s3 < 0) = true := by simp [ha]
     have d2 : decide (-50 < s3) = false := by simp; omega
     have d3 : decide (s3 > -50) = false := by simp; omega
     go_upto_region 13 with fail
     clear y0 y1 y2 y3 y4 y5 HCo
     obtain ⟨z, hz⟩ : ∃ z, z = s3 := ⟨_, rfl⟩
     have A4 := hid (show SubB' ab s1 s2 z (.slice sa1 sn1 sc1) (.slice sa2 sn2 sc2) (.slice sa3 sn3 sc3) w3 from hz ▸ A3.out)
     have T4 := T3
     clear hc0 hc3 hz d1 d2 d3 ha hb
     obtain ⟨w4, rfl⟩ : ∃ z, z = w3 := ⟨_, rfl⟩
    rotate_left
    focus
     have d1 : decide (s3 < 0) = false := by simp; omega
     go_upto_region 13 with fail
     clear y0 y1 y2 y3 y4 y5 HCo
     obtain ⟨z, hz⟩ : ∃ z, z = s3 := ⟨_, rfl⟩
     have A4 := hid (show SubB' ab s1 s2 z (.slice sa1 sn1 sc1) (.slice sa2 sn2 sc2) (.slice sa3 sn3 sc3) w3 from hz ▸ A3.out)
     have T4 := T3
     clear hc0 hc3 hz d1 ha
     obtain ⟨w4, rfl⟩ : ∃ z, z = w3 := ⟨_, rfl⟩
    rotate_left
    focus
     have d1 : decide (s3 < 0) = true := by simp [ha]
     have d2 : decide (-50 < s3) = true := by simp [hb]
     have d3 : decide (s3 > -50) = true := by simp; omega
     obtain ⟨z, hz⟩ : ∃ z, max (IntKind.i64.wrap (IntKind.i64.wrap (cn + 1) + s3)) 0 = z := ⟨_, rfl⟩
     go_upto_region 12 with fail
     clear y0 y1 y2 y3 y4 y5
     focus
      refine wp_region_noPanic ?_
      refine wp_region_held_drew (S := fun _ => True) (by kernel_rfl) ?_ (fun hHeld => ?_)
      ·exact trivial
      try simp only [Act.put, puA, puB, puC]
      clear hHeld
      all_goals
       refine atA [false, false, false, false, false, false, false, false, false] ?_
       refine tkA (i := 0) (oi := oCwc0) trivial ?_
       try simp only [Act.put, puA, puB, puC]
       refine tkA (i := 3) (oi := oCwc1) trivial ?_
       try simp only [Act.put, puA, puB, puC]
       refine rdA [1, 4] ?_
       refine AllReadyH.cons (o := oCwc2) rfl (fun K hK => ?_) (AllReadyH.cons (o := oCwc3) rfl (fun K hK => ?_) AllReadyH.nil)
       refine wantCall1 ?_ 10 (.tmp 40) #[26] ?_ (.pointer (some ⟨cb, 0, none⟩)) ?_ ?_ ((enters_of Tryz.func10 (by kernel_rfl) rfl) _ _) ?_
       iterate 4 rfl
       refine (HCo.out _ ((Old.refl w3).drew)).mono ?_
       rintro o x200n ⟨rfl, b200n⟩
       refine ⟨_, rfl, ?_⟩
       have U200n := ((Old.refl w3).drew).trans b200n
       refine hK.out _ _ trivial (fun _ => ?_)
       clear hK K
       try simp only [Act.put, puA, puB, puC]
       have UU_200 := U200n
       obtain ⟨xw_200, rfl⟩ : ∃ z, z = x200n := ⟨_, rfl⟩
       rotate_left
       refine Vx.stepLoadN ?_ (.tmp 43) ?_ ab 2 s3 ?_ (box6F (((Old.refl w3).drew).block A3.out)).1.2.2.1 ?_
       iterate 3 rfl
       refine hK.out _ _ trivial (fun _ => ?_)
       clear hK K
       try simp only [Act.put, puA, puB, puC]
       rotate_left
      all_goals first
       |refine atA [true, true, false, true, false, false, false, false, false] ?_
        refine tkA (i := 2) (oi := oCwc4) trivial ?_
        try simp only [Act.put, puA, puB, puC]
        refine rdA [4] ?_
        refine AllReadyH.cons (o := oCwc3) rfl (fun K hK => ?_) AllReadyH.nil
        refine Vx.stepLoadN ?_ (.tmp 43) ?_ ab 2 s3 ?_ (box6F (UU_200.block A3.out)).1.2.2.1 ?_
        iterate 3 rfl
        refine hK.out _ _ trivial (fun _ => ?_)
        clear hK K
        try simp only [Act.put, puA, puB, puC]
       |refine atA [true, false, false, true, true, false, false, false, false] ?_
        refine rdA [1] ?_
        refine AllReadyH.cons (o := oCwc2) rfl (fun K hK => ?_) AllReadyH.nil
        refine wantCall1 ?_ 10 (.tmp 40) #[26] ?_ (.pointer (some ⟨cb, 0, none⟩)) ?_ ?_ ((enters_of Tryz.func10 (by kernel_rfl) rfl) _ _) ?_
        iterate 4 rfl
        refine (HCo.out _ ((Old.refl w3).drew)).mono ?_
        rintro o x200n ⟨rfl, b200n⟩
        refine ⟨_, rfl, ?_⟩
        have U200n := ((Old.refl w3).drew).trans b200n
        refine hK.out _ _ trivial (fun _ => ?_)
        clear hK K
        try simp only [Act.put, puA, puB, puC]
        have UU_200 := U200n
        obtain ⟨xw_200, rfl⟩ : ∃ z, z = x200n := ⟨_, rfl⟩
      all_goals first
       |refine atA [true, true, true, true, true, false, false, false, false] ?_
        refine tkA (i := 5) (oi := oCwc5) trivial ?_
        try simp only [Act.put, puA, puB, puC]
        refine tkA (i := 6) (oi := oCwc6) trivial ?_
        try simp only [Act.put, puA, puB, puC]
        refine tkA (i := 7) (oi := oCwc7) trivial ?_
        try simp only [Act.put, puA, puB, puC]
        refine rdA [8] ?_
        refine AllReadyH.cons (o := oCwc8) rfl (fun K hK => ?_) AllReadyH.nil
        refine Vx.stepStoreN ?_ (.tmp 47) (.tmp 46) ?_ ab 2 z ?_ ?_ (box6F (UU_200.block A3.out)).1.2.2.1 ((box6F (UU_200.block A3.out)).2 2) ?_
        iterate 4 rfl
        refine hK.out _ _ trivial (fun _ => ?_)
        clear hK K
        try simp only [Act.put, puA, puB, puC]
       |refine atA [true, true, false, true, true, false, false, false, false] ?_
        refine tkA (i := 2) (oi := oCwc4) trivial ?_
        try simp only [Act.put, puA, puB, puC]
        refine tkA (i := 5) (oi := oCwc5) trivial ?_
        try simp only [Act.put, puA, puB, puC]
        refine tkA (i := 6) (oi := oCwc6) trivial ?_
        try simp only [Act.put, puA, puB, puC]
        refine tkA (i := 7) (oi := oCwc7) trivial ?_
        try simp only [Act.put, puA, puB, puC]
        refine rdA [8] ?_
        refine AllReadyH.cons (o := oCwc8) rfl (fun K hK => ?_) AllReadyH.nil
        refine Vx.stepStoreN ?_ (.tmp 47) (.tmp 46) ?_ ab 2 z ?_ ?_ (box6F (UU_200.block A3.out)).1.2.2.1 ((box6F (UU_200.block A3.out)).2 2) ?_
        iterate 4 rfl
        refine hK.out _ _ trivial (fun _ => ?_)
        clear hK K
        try simp only [Act.put, puA, puB, puC]
      all_goals
       refine atA [true, true, true, true, true, true, true, true, true] ?_
       refine wpAnyH_done (by kernel_rfl) ?_ _
       refine NoPanic.normal ?_
       have A4 := hid (show SubB' ab s1 s2 z (.slice sa1 sn1 sc1) (.slice sa2 sn2 sc2) (.slice sa3 sn3 sc3) (xw_200.setCell ⟨ab, 2, none⟩ (.int .i64 z)) from Go.Joins.block_setCell (UU_200.block A3.out) (.int .i64 z) (i := 2))
       have T4 := hid ((T3.out.old UU_200).own NA.out 2 (.int .i64 z))
       clear hc0 hc3 hz d1 d2 d3 ha hb HCo
       generalize xw_200.setCell ⟨ab, 2, none⟩ (.int .i64 z) = w4 at *
    all_goals clear A3 T3
    all_goals
     have OK2 := hid (show Sb.Ok (⟨s1, s2, z, sa1, sa2, sa3, sn1, sn2, sn3, sc1, sc2, sc3, sx1, sx3, sf2⟩ : Sb) w from ⟨OK.out.h1, OK.out.h2, OK.out.h3, OK.out.b1, OK.out.b2, OK.out.b3⟩)
     obtain ⟨rr, hrr⟩ : ∃ rr, decC G.c (Sb.pl (⟨s1, s2, z, sa1, sa2, sa3, sn1, sn2, sn3, sc1, sc2, sc3, sx1, sx3, sf2⟩ : Sb)) (Sb.chk (⟨s1, s2, z, sa1, sa2, sa3, sn1, sn2, sn3, sc1, sc2, sc3, sx1, sx3, sf2⟩ : Sb)) = rr := ⟨_, rfl⟩
     have HDec := hid (HH.out.dec (⟨s1, s2, z, sa1, sa2, sa3, sn1, sn2, sn3, sc1, sc2, sc3, sx1, sx3, sf2⟩ : Sb) (Sb.plF OK2.out) rr hrr)
     have DC := hid (T4.out.dec (⟨s1, s2, z, sa1, sa2, sa3, sn1, sn2, sn3, sc1, sc2, sc3, sx1, sx3, sf2⟩ : Sb) OK2.out OkG.out rr hrr)
     clear hrr
     obtain ⟨rc, rn, rp⟩ := rr
     dsimp only at DC HDec
     obtain ⟨⟨y0, y1, y2, y3, y4, y5⟩, -⟩ := box6F A4.out
     go_upto_region 14 with (go_at_call 8; refine DC.out.mono ?_; rintro e w7 ⟨G7, rfl, ⟨t7, c7⟩, m7⟩; have T7 := hid t7; have G7c := hid c7; have A7 := hid (m7.1.heapAt A4.out NA.out.1); clear t7 c7 m7)
     clear y0 y1 y2 y3 y4 y5 DC A4 T4
     have T8 := hid (T7.out.old ((Old.refl w7).alloc (.cells #[.int .i64 rc, .int .i64 rn] 33)))
     have A8 := hid (((Old.refl w7).alloc (.cells #[.int .i64 rc, .int .i64 rn] 33)).block A7.out)
     have X8 := hid (alloc_at w7 (.cells #[.int .i64 rc, .int .i64 rn] 33))
     clear T7 A7
     generalize w7.alloc (.cells #[.int .i64 rc, .int .i64 rn] 33) = w8 at *
     generalize w7.heap.size = xb at *
     obtain ⟨⟨v0, v1⟩, -⟩ := box2V X8.out
     by_cases hz : rc = 0
     ·subst hz
      have HDN := hid (HDec.out.2 rfl)
      clear HDec
      go_upto_region 15 with fail
      have T9 := hid (T8.out.old ((Old.refl w8).alloc (.cells #[.int .i64 rn, .int .i64 s1, .int .i64 s2, .int .i64 z, .slice sa1 sn1 sc1, .slice sa2 sn2 sc2, .slice sa3 sn3 sc3] 44)))
      have DX := hid (show DnIn (w8.alloc (.cells #[.int .i64 rn, .int .i64 s1, .int .i64 s2, .int .i64 z, .slice sa1 sn1 sc1, .slice sa2 sn2 sc2, .slice sa3 sn3 sc3] 44)) w8.heap.size 0 (⟨rn, ⟨s1, s2, z, sa1, sa2, sa3, sn1, sn2, sn3, sc1, sc2, sc3, sx1, sx3, sf2⟩⟩ : Dn) from box7J (alloc_at w8 (.cells #[.int .i64 rn, .int .i64 s1, .int .i64 s2, .int .i64 z, .slice sa1 sn1 sc1, .slice sa2 sn2 sc2, .slice sa3 sn3 sc3] 44)))
      have HL1 := hid (show L.length ≤ 1048576 from by have := HLn.out; omega)
      obtain ⟨⟨y0, y1, y2, y3, y4, y5⟩, -⟩ := box6F A8.out
      go_wp2_with (at_builtin; refine wp_appDn rfl (.tmp 54) (.tmp 59) rfl w.heap.size (.slice va ln vc) L w8.heap.size (⟨rn, ⟨s1, s2, z, sa1, sa2, sa3, sn1, sn2, sn3, sc1, sc2, sc3, sx1, sx3, sf2⟩⟩ : Dn) rfl rfl T9.out.r.row DX.out HL1.out T9.out.u.size ?_; intro v' w9 h1 h2 h3; have P9 := hid (T9.out.r.put T9.out.c OK2.out h1 h2 h3 T9.out.u); clear h1 h2 h3)
      go_roundw
      case rel =>
       refine ⟨k + 1, L ++ [(⟨rn, ⟨s1, s2, z, sa1, sa2, sa3, sn1, sn2, sn3, sc1, sc2, sc3, sx1, sx3, sf2⟩⟩ : Dn)], hlt, by omega, by simp; have := HLn.out; omega, by go_num, hid ⟨G7, ⟨P9.out.2.1, P9.out.1, P9.out.2.2⟩, ?_⟩⟩
       rw [G7c.out]
       exact HDN.out
      case measure => simp [intOf]; omega
     ·have HGG := hid (HDec.out.1 hz)
      clear HDec
      have d1 : (rc == 0) = false := by simp [hz]
      go_wp2
      go_roundw
      case rel =>
       refine ⟨k + 1, L, hlt, by omega, by have := HLn.out; omega, by go_num, hid ⟨G7, T8.out, ?_⟩⟩
       rw [G7c.out, HGG.out]
       exact HH.out
      case measure => simp [intOf]; omega
  ·obtain rfl : k = n := by omega
   clear hlt
   go_upto_region 17 with fail
   have U0 := hid H0.out.u
   have R0 := hid (H0.out.r.drow H0.out.u (by have := HLn.out; omega))
   obtain ⟨rt, ro, rd, rs⟩ := HH.out.all (by have := HLn.out; omega)
   have HOr := hid (fun (W : World) (u : Old wr W) => order_any _ _ _ W (R0.out.old u))
   have HRt := hid (fun (W : World) (u : Old wr W) => rightH_any _ _ _ W (R0.out.old u))
   have HSt := hid (fun (W : World) (u : Old wr W) => stuck_any _ _ _ W (R0.out.old u))
   have HRd := hid (fun (vo : Value) (W W' : World) (u : Old wr W') (h : OwnN W.heap.size W' vo (orL (atL L) L.length)) => readsH_any _ vo _ _ _ W' (R0.out.old u) (h.nrow (by have := orL_len L; have := HLn.out; omega)))
   rw [rt] at HRt
   rw [ro] at HOr
   rw [rs] at HSt
   rw [rd] at HRd
   rw [HLn.out.1] at HOr HRd
   clear H0 HH R0 rt ro rd rs HR HNw
   generalize orL (atL L) ln = OL at *
   go_upto_region 18 with (go_at_call 14; refine (HOr.out _ (Old.refl _)).mono ?_; rintro e wo ⟨vo, rfl, oo, uo⟩; have Oo := hid oo; have Uo := hid uo; clear oo uo)
   obtain ⟨oa, oc, rfl⟩ := Oo.out.len
   go_wp2_with (first | (go_at_call 15; refine (HRt.out _ Uo.out).mono ?_; rintro e wr1 ⟨rfl, ur1⟩; have Ur1 := hid (Uo.out.trans ur1); have Or1 := hid (Oo.out.up ur1); clear ur1) | (go_at_call 16; refine (HRd.out _ _ _ Ur1.out Or1.out).mono ?_; rintro e wr2 ⟨rfl, ur2⟩; have Ur2 := hid (Ur1.out.trans ur2); clear ur2) | (go_at_call 17; refine (HSt.out _ Ur2.out).mono ?_; rintro e wr3 ⟨vs, rfl, os, ur3⟩; have Ur3 := hid (Ur2.out.trans ur3); obtain ⟨sa, sc, rfl⟩ := os.len; clear os ur3))
   go_ret
   exact ⟨rfl, U0.out.trans Ur3.out⟩
end Go.Proofs.YtgeinnaljlajoaaGreat
