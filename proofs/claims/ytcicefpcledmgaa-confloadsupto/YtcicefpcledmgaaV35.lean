/- The law ConfLoads, where the bytes are no more than 1048576. -/
import Derived.Test.YtcicefpcledmgaaV34
namespace Go.Proofs.Ytcicefpcledmgaa
open Go.RowKit Go.Lib
set_option linter.unusedVariables false
set_option linter.unusedSimpArgs false
set_option maxRecDepth 20000
theorem byRow_list {w : World} {v : Value} {n : Nat} {x : Nat → Nat} (h : Pk.ByRow w v n x) : ∃ L : List Nat, L.length = n ∧ Pk.ByRow w v L.length (Pk.gd L) := by
  have hl : ((List.range n).map x).length = n := by simp
  refine ⟨(List.range n).map x, hl, ?_⟩
  rw [hl]
  rcases h with h | ⟨hn, hm, b, off, cap, hv, hc, hcp⟩
  · exact .inl h
  · refine .inr ⟨hn, hm, b, off, cap, hv, fun i hi => ?_, hcp⟩
    have e : Pk.gd ((List.range n).map x) i = x i := by
      unfold Pk.gd
      rw [List.getD_eq_getElem?_getD, List.getElem?_map, List.getElem?_range hi]
      rfl
    rw [e]
    exact hc i hi
set_option maxHeartbeats 8000000 in
set_option maxRecDepth 20000 in
theorem loadsLaw (v0 : Value) (n : Nat) (x : Nat → Nat) (w : World) (h0 : Pk.ByRow w v0 n x) (hn : n ≤ 1048576) :
    Calls Try.prog 7 #[v0] w fun e w' => e = .returned (.bool true) ∧ Old w w' := by
  obtain ⟨L, hL, hB⟩ := byRow_list h0
  have HL := hid (show L.length ≤ 1048576 by omega)
  have HB := hid hB
  obtain ⟨pa, ca, rfl⟩ := byRow_slice hB
  have HLo := hid (fun (W : World) (u : Old w W) => load_any L W _ (HB.out.up u))
  have HRl := hid (fun (W : World) (u : Old w W) => rLoad_any L W _ (HB.out.up u) HL.out)
  clear h0 hB hL hn
  generalize L.length = ln at *
  go_enter Try.func7, Try.ntmps7
  cases hd : ldConf L with
  | none =>
    have HL1 := hid (fun (W : World) (u : Old w W) => (HLo.out W u).mono (R' := fun e w' => e = .returned (.tuple #[.agg #[.slice none 0 0, .slice none 0 0], .int .i64 30]) ∧ Old W w') (fun e w' h => by
      obtain ⟨u', h⟩ := h
      rw [hd] at h
      rcases h with ⟨a, b, v1, v2, q, _⟩ | ⟨_, rfl⟩
      · cases q
      · exact ⟨rfl, u'⟩))
    have HR1 := hid (fun (W : World) (u : Old w W) => (HRl.out W u).mono (R' := fun e w' => (∃ t1 m1 z1 t2 m2 z2, e = .returned (.tuple #[.agg #[.slice t1 m1 z1, .slice t2 m2 z2], .bool false])) ∧ Old W w') (fun e w' h => by
      obtain ⟨u', h⟩ := h
      rw [hd] at h
      rcases h with ⟨a, b, v1, v2, z1, z2, q, _⟩ | ⟨_, q⟩
      · cases q
      · exact ⟨q, u'⟩))
    clear HLo HRl
    go_upto_region 4 with (first | (go_at_call 8; refine (alive_any _).mono ?_; rintro e w1 ⟨rfl, o1⟩; have O1 := hid o1; clear o1) | (go_at_call 22; refine (HL1.out _ O1.out).mono ?_; rintro e w2 ⟨rfl, o2⟩; have O2 := hid (O1.out.trans o2); clear o2))
    have y0 : (w2.alloc (.cells #[.slice none 0 0, .slice none 0 0] 24)).cell? ⟨w2.heap.size, 0, none⟩ = some (.slice none 0 0) := by simp
    have y1 : (w2.alloc (.cells #[.slice none 0 0, .slice none 0 0] 24)).cell? ⟨w2.heap.size, 1, none⟩ = some (.slice none 0 0) := by simp
    have O3 := hid (O2.out.alloc (.cells #[.slice none 0 0, .slice none 0 0] 24))
    generalize w2.alloc (.cells #[.slice none 0 0, .slice none 0 0] 24) = w3 at *
    generalize w2.heap.size = cb at *
    go_upto_region 5 with (go_at_call 27; refine (HR1.out _ O3.out).mono ?_; rintro e w4 ⟨⟨t1, m1, z1, t2, m2, z2, rfl⟩, o4⟩; have O4 := hid o4; clear o4)
    have U4 := hid (O4.out.alloc (.cells #[.slice t1 m1 z1, .slice t2 m2 z2] 24))
    have x0 := U4.out.keep y0
    have x1 := U4.out.keep y1
    generalize w4.alloc (.cells #[.slice t1 m1 z1, .slice t2 m2 z2] 24) = w5 at *
    clear y0 y1 HL1 HR1
    go_wp2
    go_ret
    exact ⟨rfl, O3.out.trans U4.out⟩
  | some p =>
    obtain ⟨a, c⟩ := p
    have hle : a.length ≤ 1000 ∧ c.length ≤ 1000 := by
      obtain ⟨_, hr⟩ := (ld_reads L a c).1 hd
      unfold rightL at hr
      have := rightB_parts hr
      have := riK_few _ _ this.2.1
      have := riK_few _ _ (rightB_parts hr).2.2.1
      omega
    have HL1 := hid (fun (W : World) (u : Old w W) => (HLo.out W u).mono (R' := fun e w' => ∃ t1 z1 t2 z2, e = .returned (.tuple #[.agg #[.slice t1 a.length z1, .slice t2 c.length z2], .int .i64 0]) ∧ NRowL w' (.slice t1 a.length z1) a.length (gI a) ∧ NRowL w' (.slice t2 c.length z2) c.length (gI c) ∧ Old W w') (fun e w' h => by
      obtain ⟨u', h⟩ := h
      rw [hd] at h
      rcases h with ⟨a', b, v1, v2, q, rfl, o1, o2⟩ | ⟨q, _⟩
      · cases q
        obtain ⟨t1, z1, rfl⟩ := o1.len
        obtain ⟨t2, z2, rfl⟩ := o2.len
        exact ⟨t1, z1, t2, z2, rfl, o1.rowG (by omega), o2.rowG (by omega), u'⟩
      · cases q))
    have HR1 := hid (fun (W : World) (u : Old w W) => (HRl.out W u).mono (R' := fun e w' => ∃ t1 z1 t2 z2, e = .returned (.tuple #[.agg #[.slice t1 a.length z1, .slice t2 c.length z2], .bool true]) ∧ NRowL w' (.slice t1 a.length z1) a.length (gI a) ∧ NRowL w' (.slice t2 c.length z2) c.length (gI c) ∧ Old W w') (fun e w' h => by
      obtain ⟨u', h⟩ := h
      rw [hd] at h
      rcases h with ⟨a', b, t1, t2, z1, z2, q, rfl, n1, n2⟩ | ⟨q, _⟩
      · cases q
        exact ⟨t1, z1, t2, z2, rfl, n1, n2, u'⟩
      · cases q))
    clear HLo HRl hd
    have HSm := hid (fun u1 u2 v1 v2 (W : World) h1 h2 h3 h4 => same_eq u1 u2 v1 v2 a.length c.length (gI a) (gI c) W h1 h2 h3 h4)
    generalize a.length = la at *
    generalize c.length = lc at *
    go_upto_region 4 with (first | (go_at_call 8; refine (alive_any _).mono ?_; rintro e w1 ⟨rfl, o1⟩; have O1 := hid o1; clear o1) | (go_at_call 22; refine (HL1.out _ O1.out).mono ?_; rintro e w2 ⟨t1, z1, t2, z2, rfl, n1, n2, o2⟩; have N1 := hid n1; have N2 := hid n2; have O2 := hid (O1.out.trans o2); clear o2 n1 n2))
    have y0 : (w2.alloc (.cells #[.slice t1 la z1, .slice t2 lc z2] 24)).cell? ⟨w2.heap.size, 0, none⟩ = some (.slice t1 la z1) := by simp
    have y1 : (w2.alloc (.cells #[.slice t1 la z1, .slice t2 lc z2] 24)).cell? ⟨w2.heap.size, 1, none⟩ = some (.slice t2 lc z2) := by simp
    have O3 := hid (O2.out.alloc (.cells #[.slice t1 la z1, .slice t2 lc z2] 24))
    have M1 := hid (N1.out.old ((Old.refl w2).alloc (.cells #[.slice t1 la z1, .slice t2 lc z2] 24)))
    have M2 := hid (N2.out.old ((Old.refl w2).alloc (.cells #[.slice t1 la z1, .slice t2 lc z2] 24)))
    generalize w2.alloc (.cells #[.slice t1 la z1, .slice t2 lc z2] 24) = w3 at *
    generalize w2.heap.size = cb at *
    go_upto_region 5 with (go_at_call 27; refine (HR1.out _ O3.out).mono ?_; rintro e w4 ⟨t3, z3, t4, z4, rfl, n3, n4, o4⟩; have N3 := hid n3; have N4 := hid n4; have O4 := hid o4; clear o4 n3 n4)
    have e0 : (w4.alloc (.cells #[.slice t3 la z3, .slice t4 lc z4] 24)).cell? ⟨w4.heap.size, 0, none⟩ = some (.slice t3 la z3) := by simp
    have e1 : (w4.alloc (.cells #[.slice t3 la z3, .slice t4 lc z4] 24)).cell? ⟨w4.heap.size, 1, none⟩ = some (.slice t4 lc z4) := by simp
    have U4 := hid (O4.out.alloc (.cells #[.slice t3 la z3, .slice t4 lc z4] 24))
    have M3 := hid (N3.out.old ((Old.refl w4).alloc (.cells #[.slice t3 la z3, .slice t4 lc z4] 24)))
    have M4 := hid (N4.out.old ((Old.refl w4).alloc (.cells #[.slice t3 la z3, .slice t4 lc z4] 24)))
    have x0 := U4.out.keep y0
    have x1 := U4.out.keep y1
    generalize w4.alloc (.cells #[.slice t3 la z3, .slice t4 lc z4] 24) = w5 at *
    generalize w4.heap.size = db at *
    have HSa := hid (HSm.out _ _ _ _ w5 (M1.out.old U4.out) (M2.out.old U4.out) M3.out M4.out)
    clear y0 y1 HL1 HR1 HSm N1 N2 N3 N4 M1 M2 M3 M4
    go_wp2_with (go_at_call 16; refine HSa.out.mono ?_; rintro e w6 ⟨rfl, u6⟩; have U6 := hid u6; clear u6)
    go_ret
    exact ⟨rfl, (O3.out.trans U4.out).trans U6.out⟩
end Go.Proofs.Ytcicefpcledmgaa
