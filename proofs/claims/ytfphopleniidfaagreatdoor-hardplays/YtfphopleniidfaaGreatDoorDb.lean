/- Bytes written over others, sectors, clones of rows, rows compared; conditions: the lengths fit. -/
import Derived.Test.YtfphopleniidfaaGreatDoorDa
namespace Go.Proofs.YtfphopleniidfaaGreatDoor
open Go.RowKit Go.Lib
set_option linter.unusedVariables false
set_option linter.unusedSimpArgs false
set_option maxRecDepth 20000
theorem overL_in {L M : List Nat} {k : Nat} (h : k + M.length ≤ L.length) : overL L k M = splice L k M := by
  unfold overL
  rw [show k + M.length - L.length = 0 by omega]
  simp
set_option maxHeartbeats 2000000 in
set_option maxRecDepth 20000 in
theorem overwrite_any (v u : Value) (L M : List Nat) (k : Nat) (w : World) (h : Own w v L) (hr : Rw w u M) (hn : M ≠ [] → ∀ g, v.ownBlock = some g → u.ownBlock ≠ some g) (hk : k ≤ 100000) (hL : L.length ≤ 100000) (hM : M.length ≤ 100000) :
    Calls Tryz.prog 68 #[v, .int .i64 (k : Nat), u] w fun e w' => ∃ v', e = .returned v' ∧ Own w' v' (overL L k M) ∧ Grow w v w' v' := by
  have HO := hid h
  have HR := hid hr
  have HNe := hid hn
  clear hn
  obtain ⟨va, vc, rfl⟩ := h.len
  obtain ⟨ua, uc, rfl⟩ := hr.len
  obtain ⟨n, hn⟩ : ∃ n, L.length = n := ⟨_, rfl⟩
  obtain ⟨m, hm⟩ : ∃ m, M.length = m := ⟨_, rfl⟩
  have HLl := hid hn
  have HMl := hid hm
  rw [hn] at hL HO HNe ⊢
  rw [hm] at hM HR HNe ⊢
  clear hn hm h hr
  obtain ⟨km, hkm⟩ : ∃ km, km = k + m := ⟨_, rfl⟩
  have lw1 : IntKind.i64.wrap ((k : Int) + (m : Int)) = (km : Int) := by rw [IntWalk.i64_in _ (by omega)]; omega
  by_cases hs : n < k + m
  · obtain ⟨z, hz⟩ : ∃ z : Nat, z = k + m - n := ⟨_, rfl⟩
    have lw2 : IntKind.i64.wrap ((km : Int) - (n : Int)) = (z : Int) := by rw [IntWalk.i64_in _ (by omega)]; omega
    have lz : (z : Int) > 0 := by omega
    have HZ := hid (show 0 < z ∧ n + z = km ∧ km = k + m from by omega)
    clear hz hkm hs
    go_enter Tryz.func68, Tryz.ntmps68
    go_upto_region 4 with (at_builtin; refine wp_zeros rfl (.tmp 17) (.tmp 18) rfl _ L z rfl rfl HO.out HZ.out.1 (by rw [HLl.out]; have := HZ.out; omega) ?_; intro v1 w1 o1 g1; have O1' := hid o1; have G1 := hid g1; clear o1 g1)
    obtain ⟨L1, hL1⟩ : ∃ L1, L1 = L ++ List.replicate z 0 := ⟨_, rfl⟩
    have HOv := hid (show overL L k M = splice L1 k M from by rw [hL1]; unfold overL; rw [HLl.out, HMl.out, show k + m - n = z from by have := HZ.out; omega])
    have HL1 := hid (show L1.length = km from by rw [hL1]; simp; rw [HLl.out]; have := HZ.out; omega)
    rw [← hL1] at O1'
    clear hL1
    obtain ⟨n1, hn1⟩ : ∃ n1, n1 = km := ⟨_, rfl⟩
    obtain ⟨g, cap, hv1, HLC⟩ : ∃ g cap, v1 = .slice (some ⟨g, 0, none⟩) n1 cap ∧ Hid (n1 ≤ cap ∧ cap ≤ 9223372036854775807 ∧ k ≤ n1) := by
      rcases O1'.out.cases with ⟨_, e⟩ | ⟨g, cap, cur, e, _, h1, h2, _⟩
      · have := HL1.out; rw [e] at this; have := HZ.out; simp at *; omega
      · rw [HL1.out] at e h1
        exact ⟨g, cap, by rw [hn1]; exact e, hid (by unfold maxLen at h2; have := HZ.out; omega)⟩
    subst hv1
    have O1 := hid O1'.out
    have R1 := hid (HR.out.chg G1.out.1 (fun h0 q e => by rw [Option.mem_toList]; exact fun e2 => HNe.out (fun e3 => by rw [e3] at h0; simp at h0) q e2 e))
    have HFit := hid (show k + M.length ≤ L1.length from by rw [HL1.out, HMl.out]; have := HZ.out; omega)
    have HLn := hid (show L1.length = n1 from by rw [hn1]; exact HL1.out)
    clear O1' lw1 lw2 lz HO HR HNe hn1
    have hlc := HLC.out
    have q1 : (0 : Int) ≤ (k : Int) := by omega
    have q2 : (k : Int) ≤ (n1 : Int) := by omega
    have q3 : (k : Int) ≤ (cap : Int) := by omega
    have q4 : (n1 : Int) ≤ (cap : Int) := by omega
    obtain ⟨o, hif, ho⟩ : ∃ o, (if cap = k then (some ⟨g, 0, none⟩ : Option Addr) else some ⟨g, 0 + k, none⟩) = some ⟨g, o, none⟩ ∧ (M = [] ∨ o = k) := by
      by_cases e : cap = k
      · exact ⟨0, by rw [if_pos e], .inl (List.length_eq_zero_iff.1 (by have := HFit.out; have := HLn.out; omega))⟩
      · exact ⟨k, by rw [if_neg e, Nat.zero_add], .inr rfl⟩
    rw [Nat.zero_add] at hif
    have HOo := hid ho
    clear ho hlc
    go_wp2_with (refine wp_copyB rfl (.tmp 22) (.tmp 23) rfl g n1 cap o k _ L1 M rfl rfl O1.out R1.out HFit.out HOo.out ?_; intro w2 o2 c2; have O2 := hid o2; have C2 := hid c2; clear o2 c2)
    go_ret
    exact ⟨_, rfl, by rw [HOv.out]; exact O2.out, G1.out.trans ⟨C2.out, fun z e => .inl e⟩⟩
  · have lw2 : IntKind.i64.wrap ((km : Int) - (n : Int)) = (km : Int) - (n : Int) := by rw [IntWalk.i64_in _ (by omega)]
    have lz : ¬ (km : Int) - (n : Int) > 0 := by omega
    have HKM := hid hkm
    clear hkm
    rcases HO.out.cases with ⟨e, e2⟩ | ⟨g, cap, cur, e, hg, h1, h2, _⟩
    · cases e
      subst e2
      obtain rfl : k = 0 := by omega
      obtain rfl : m = 0 := by omega
      obtain rfl : M = [] := List.length_eq_zero_iff.1 HMl.out
      have hsz : (Tryz.prog.info? 5).map (·.size) = some 1 := by
        obtain ⟨i0, hi, _, hz1, _⟩ := info_parts Pk.infoByte
        rw [hi]; simp [hz1]
      clear HNe hs HR
      go_enter Tryz.func68, Tryz.ntmps68
      go_wp2_with (refine wpList_copy_nothing rfl (.tmp 22) (.tmp 23) 49 49 rfl 5 Tryz.underlying49 hsz _ _ _ _ _ _ rfl rfl (Nat.zero_min _) ?_)
      go_ret
      exact ⟨_, rfl, by rw [overL_in (by simp)]; simpa [splice] using HO.out, Grow.refl _ _⟩
    · rw [HLl.out] at e h1
      injection e with e1 e2 e3
      have e3' := e3.symm
      subst e1 e3'
      clear e2 e3
      have HLC := hid (show n ≤ cap ∧ cap ≤ 9223372036854775807 ∧ k ≤ n from by unfold maxLen at h2; omega)
      have O1 := hid HO.out
      have R1 := hid HR.out
      have G1 := hid (Grow.refl w (.slice (some ⟨g, 0, none⟩) n cap))
      have HFit := hid (show k + M.length ≤ L.length from by rw [HLl.out, HMl.out]; omega)
      have HOv := hid (overL_in HFit.out)
      clear hg h1 h2 HO HR HNe hs
      obtain ⟨n1, hn1⟩ : ∃ n1, n1 = n := ⟨_, rfl⟩
      obtain ⟨L1, hL1⟩ : ∃ L1, L1 = L := ⟨_, rfl⟩
      subst hn1 hL1
      have HLn := hid HLl.out
      go_enter Tryz.func68, Tryz.ntmps68
      go_upto_region 4 with (fail)
      clear lw1 lw2 lz
      have hlc := HLC.out
      have q1 : (0 : Int) ≤ (k : Int) := by omega
      have q2 : (k : Int) ≤ (n1 : Int) := by omega
      have q3 : (k : Int) ≤ (cap : Int) := by omega
      have q4 : (n1 : Int) ≤ (cap : Int) := by omega
      obtain ⟨o, hif, ho⟩ : ∃ o, (if cap = k then (some ⟨g, 0, none⟩ : Option Addr) else some ⟨g, 0 + k, none⟩) = some ⟨g, o, none⟩ ∧ (M = [] ∨ o = k) := by
        by_cases e : cap = k
        · exact ⟨0, by rw [if_pos e], .inl (List.length_eq_zero_iff.1 (by have := HFit.out; have := HLn.out; omega))⟩
        · exact ⟨k, by rw [if_neg e, Nat.zero_add], .inr rfl⟩
      rw [Nat.zero_add] at hif
      have HOo := hid ho
      clear ho hlc
      go_wp2_with (refine wp_copyB rfl (.tmp 22) (.tmp 23) rfl g n1 cap o k _ L1 M rfl rfl O1.out R1.out HFit.out HOo.out ?_; intro w2 o2 c2; have O2 := hid o2; have C2 := hid c2; clear o2 c2)
      go_ret
      exact ⟨_, rfl, by rw [HOv.out]; exact O2.out, G1.out.trans ⟨C2.out, fun z e => .inl e⟩⟩
theorem clone_ok (v : Value) (L : List Nat) (w : World) (h : Rw w v L) (hb : L.length ≤ 1099511627776) : Calls Tryz.prog 69 #[v] w fun e w' => ∃ v', e = .returned v' ∧ Own w' v' L ∧ Old w w' ∧ ∀ g, v'.ownBlock = some g → w.heap.size ≤ g ∧ g < w'.heap.size :=
  (Pk.clone_any v L.length (gd L) w h (by omega)).mono fun e w' q => by
    obtain ⟨v', e1, o, u⟩ := q
    exact ⟨v', e1, Own.of o, u, fun g hg => o.own.lt g hg⟩
set_option maxHeartbeats 400000 in
set_option maxRecDepth 20000 in
theorem cloneS_ok (v : Value) (L : List Nat) (w : World) (hv : Rw w v L) (hb : L.length ≤ 1099511627776) :
    Calls Tryz.prog 39 #[v] w fun e w' => ∃ v', e = .returned v' ∧ Own w' v' L ∧ Old w w' ∧ ∀ g, v'.ownBlock = some g → w.heap.size ≤ g ∧ g < w'.heap.size := by
  have hval : ∃ a c, v = .slice a L.length c ∧ (a = none → L.length = 0) := by
    rcases hv with ⟨h0, a, c, rfl, _⟩ | ⟨_, _, b, off, cap, rfl, _⟩
    · exact ⟨a, c, by rw [h0], fun _ => h0⟩
    · exact ⟨_, _, rfl, fun h => by cases h⟩
  obtain ⟨a, c, rfl, hnone⟩ := hval
  have HV := hid (show Pk.ByRow w (.slice a L.length c) L.length (gd L) from hv)
  have HZ := hid (show L.length = 0 → L = [] from List.length_eq_zero_iff.1)
  have HOf := hid (fun (W : World) (v' : Value) (h : Pk.OwnB w.heap.size W v' L.length (gd L)) => show Own W v' L from Own.of h)
  clear hv
  generalize L.length = n at *
  have heq := fun w => Lib.run_eql_slice_nil (P := Tryz.prog) w 49 5 a n c 0 0 Tryz.underlying49
  cases a with
  | none =>
    obtain rfl := hnone rfl
    obtain rfl := HZ.out rfl
    go_enter Tryz.func39, Tryz.ntmps39
    go_wp2
    go_ret
    exact ⟨_, rfl, Own.nil _, Old.refl _, fun g e => by cases e⟩
  | some ad =>
    clear hnone
    go_enter Tryz.func39, Tryz.ntmps39
    go_wp2_with (at_builtin; refine Pk.wp_app rfl (.tmp 5) (.tmp 6) rfl w.heap.size _ _ 0 n (fun _ => 0) (gd L) rfl rfl (Pk.OwnB.empty (Nat.le_refl _) rfl) (HV.out.up ((Old.refl w).alloc _)) (by omega) (by simp) ?_; intro v' w1 hown hgr hbel)
    go_ret
    have ho : Pk.OwnB w.heap.size w1 v' n (gd L) := by rw [Nat.zero_add] at hown; exact hown.congr (fun i _ => by simp [Pk.cat])
    exact ⟨_, rfl, HOf.out _ _ ho, Below.trans ((Old.refl w).alloc _) hbel, fun g e => ho.own.lt g e⟩
/-- What there is of a sector. -/
def sec (L : List Nat) (k : Nat) : List Nat := (L.drop k).take 32
theorem sec_len (L : List Nat) (k : Nat) : (sec L k).length = min 32 (L.length - k) := by simp [sec]
set_option maxHeartbeats 1000000 in
set_option maxRecDepth 20000 in
theorem sector_any (v : Value) (L : List Nat) (k : Nat) (w : World) (h : Own w v L) (hk : k ≤ 1000000) (hL : L.length ≤ 1000000) :
    Calls Tryz.prog 67 #[v, .int .i64 (k : Nat)] w fun e w' => ∃ v', e = .returned v' ∧ Rw w v' (sec L k) ∧ (∀ g, v'.ownBlock = some g → v.ownBlock = some g) ∧ w' = w := by
  rcases h.cases with ⟨rfl, rfl⟩ | ⟨g, cap, cur, rfl, hg, h1, h2, h3, h4⟩
  · have m1 : min (k : Int) 0 = 0 := by omega
    have lw : IntKind.i64.wrap ((k : Int) + 32) = (k : Int) + 32 := by rw [IntWalk.i64_in _ (by omega)]
    have m2 : min ((k : Int) + 32) 0 = 0 := by omega
    go_enter Tryz.func67, Tryz.ntmps67
    go_wp2
    go_ret
    exact ⟨_, rfl, .inl ⟨by simp [sec], none, 0, by simp [sec], fun _ => rfl⟩, fun g e => by (cases e), rfl⟩
  · have hby := h.byt
    obtain ⟨n, hn⟩ : ∃ n, L.length = n := ⟨_, rfl⟩
    obtain ⟨lo, hlo⟩ : ∃ lo, lo = min k n := ⟨_, rfl⟩
    obtain ⟨hi, hhi⟩ : ∃ hi, hi = min (k + 32) n := ⟨_, rfl⟩
    obtain ⟨k2, hk2⟩ : ∃ k2, k2 = k + 32 := ⟨_, rfl⟩
    have m1 : min (k : Int) (n : Int) = (lo : Int) := by omega
    have lw : IntKind.i64.wrap ((k : Int) + 32) = (k2 : Int) := by rw [IntWalk.i64_in _ (by omega)]; omega
    have m2 : min (k2 : Int) (n : Int) = (hi : Int) := by omega
    have l1 : (0 : Int) ≤ (lo : Int) := by omega
    have l2 : (lo : Int) ≤ (hi : Int) := by omega
    have l3 : (hi : Int) ≤ (cap : Int) := by omega
    have l4 : (lo : Int) ≤ (cap : Int) := by omega
    have l5 : (n : Int) ≤ (cap : Int) := by omega
    obtain ⟨o, hif, ho⟩ : ∃ o, (if cap = lo then (some ⟨g, 0, none⟩ : Option Addr) else some ⟨g, lo, none⟩) = some ⟨g, o, none⟩ ∧ (hi = lo ∨ o = lo) := by
      by_cases e : cap = lo
      · exact ⟨0, by rw [if_pos e], .inl (by omega)⟩
      · exact ⟨lo, by rw [if_neg e], .inr rfl⟩
    have HQ := hid (show Rw w (.slice (some ⟨g, o, none⟩) (hi - lo) (cap - lo)) (sec L k) from by
      have hs := sec_len L k
      by_cases e : hi = lo
      · exact .inl ⟨by omega, _, _, by rw [show hi - lo = 0 by omega], fun q => by cases q⟩
      · obtain rfl : o = lo := by rcases ho with q | q; exact absurd q e; exact q
        refine .inr ⟨by omega, by unfold maxLen; omega, g, o, cap - o, by rw [show (sec L k).length = hi - o by omega], fun i hi' => ?_, by omega, by omega⟩
        have hik : i < (sec L k).length := hi'
        have e1 : gd (sec L k) i = gd L (o + i) := by
          have hj : o + i < L.length := by omega
          rw [gd_at _ i hik, gd_at _ _ hj]
          have ho2 : o = k := by omega
          subst ho2
          simp [sec]
        rw [e1]
        have hj : o + i < L.length := by omega
        refine ⟨gd_byt hby _ hj, ?_⟩
        rw [Go.Joins.cell_of_block hg, ← Array.getElem?_toList]
        have q : (cur.toList.take L.length)[o + i]? = cur.toList[o + i]? := by rw [List.getElem?_take, if_pos hj]
        rw [← q, h4, gd_at _ _ hj]
        simp [bv, hj])
    rw [hn]
    clear hg h3 h4 h hby hlo hhi hk2 ho hn
    go_enter Tryz.func67, Tryz.ntmps67
    go_wp2
    go_ret
    exact ⟨_, rfl, HQ.out, fun z e => e, rfl⟩
def ba (L : List Nat) : ByteArray := ⟨(L.map UInt8.ofNat).toArray⟩
theorem ba_size (L : List Nat) : (ba L).size = L.length := by simp [ba, ByteArray.size]
theorem ba_at (L : List Nat) (hL : Byt L) (i : Nat) (hi : i < (ba L).size) : ((ba L)[i]).toNat = gd L i := by
  have hi' : i < L.length := by rw [ba_size] at hi; exact hi
  have e : (ba L)[i] = UInt8.ofNat L[i] := by
    show (ba L).data[i] = _
    simp [ba]
  rw [e]
  have h2 := hL _ (List.getElem_mem hi')
  rw [gd_at L i hi']
  simp
  omega
theorem ba_inj {L M : List Nat} (hL : Byt L) (hM : Byt M) (h : ba L = ba M) : L = M := by
  have hs : L.length = M.length := by rw [← ba_size, ← ba_size, h]
  apply List.ext_getElem hs
  intro i h1 h2
  have e1 := ba_at L hL i (by rw [ba_size]; exact h1)
  have e2 := ba_at M hM i (by rw [ba_size]; exact h2)
  rw [← gd_at L i h1, ← gd_at M i h2, ← e1, ← e2]
  congr 1
  simp only [h]
theorem row_conv (w : World) (v : Value) (L : List Nat) (h : Rw w v L) : (convert 49 9 v).run Tryz.prog w = .ok (.string (ba L)) w := by
  have hb := h.byt
  rcases h with ⟨h0, a, c, rfl, hn⟩ | ⟨hp, hm, b, off, cap, rfl, hc, _⟩
  · obtain rfl : L = [] := List.length_eq_zero_iff.1 h0
    cases a with
    | none => simp [convert, run_underlying Tryz.underlying49, run_underlying Tryz.underlying5, run_underlying Tryz.underlying9, Conv.bytesToString, loadCells, loadCellsFrom, ba, Result.andThen]; rfl
    | some ad => simp [convert, run_underlying Tryz.underlying49, run_underlying Tryz.underlying5, run_underlying Tryz.underlying9, Conv.bytesToString, loadCells, loadCellsFrom, ba, Result.andThen]; rfl
  · have q := Go.Lib.run_convert_whole (P := Tryz.prog) w 49 5 9 Tryz.underlying49 Tryz.underlying5 Tryz.underlying9 b off (ba L) (fun i hi => by rw [(hc i (by rw [ba_size] at hi; exact hi)).2, ba_at L hb i hi]) cap
    rw [ba_size] at q
    exact q
set_option maxHeartbeats 1000000 in
set_option maxRecDepth 20000 in
theorem bytesEq_any (v u : Value) (L M : List Nat) (w : World) (hL : Rw w v L) (hM : Rw w u M) : Calls Tryz.prog 66 #[v, u] w fun e w' => e = .returned (.bool (decide (L = M))) ∧ w' = w := by
  have q1 := row_conv w v L hL
  have q2 := row_conv w u M hM
  have hI := hid (fun (h : ba L = ba M) => ba_inj hL.byt hM.byt h)
  obtain ⟨a, c, rfl⟩ := hL.len
  obtain ⟨a', c', rfl⟩ := hM.len
  clear hL hM
  generalize L.length = n at *
  generalize M.length = m at *
  by_cases e : L = M
  · subst e
    rw [decide_eq_true rfl]
    generalize ba L = S1 at *
    clear hI
    go_enter Tryz.func66, Tryz.ntmps66
    go_wp2
    go_ret
    exact ⟨ret_b (by simp), rfl⟩
  · have hne : ba L ≠ ba M := fun q => e (hI.out q)
    have hb : ((ba L).toList == (ba M).toList) = false := by
      rw [beq_eq_false_iff_ne]
      intro q
      rw [Go.Lib.toList_data, Go.Lib.toList_data] at q
      exact hne (ByteArray.ext (Array.toList_inj.1 q))
    rw [decide_eq_false e]
    generalize ba L = S1 at *
    generalize ba M = S2 at *
    clear e hI
    go_enter Tryz.func66, Tryz.ntmps66
    go_wp2
    go_ret
    exact ⟨rfl, rfl⟩
end Go.Proofs.YtfphopleniidfaaGreatDoor
