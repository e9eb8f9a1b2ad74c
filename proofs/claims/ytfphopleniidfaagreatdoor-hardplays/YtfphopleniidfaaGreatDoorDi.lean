/- disk's steps on a file, Read, Fail, Down, New at every disk; conditions: the disk lies in memory, and what is written is no longer than may be. -/
import Derived.Test.YtfphopleniidfaaGreatDoorDh
namespace Go.Proofs.YtfphopleniidfaaGreatDoor
open Go.RowKit Go.Lib
set_option linter.unusedVariables false
set_option linter.unusedSimpArgs false
set_option maxRecDepth 20000
def removeC (p : PD) (s : ByteArray) : Int := onE p [s]
def removeP (p : PD) (s : ByteArray) : PD := if removeC p s = 0 then { p.stepd with fs := delP p.fs s } else p.stepd
def fileAt (p : PD) (s : ByteArray) : PF := (getP p.fs s).getD ⟨[], []⟩
def renameC (p : PD) (s t : ByteArray) : Int := onE p [s, t]
def renameP (p : PD) (s t : ByteArray) : PD := if renameC p s t = 0 then { p.stepd with fs := putP (delP p.fs s) t (fileAt p s) } else p.stepd
def syncC (p : PD) (s : ByteArray) : Int := onE p [s]
def syncP (p : PD) (s : ByteArray) : PD := if syncC p s = 0 then { p.stepd with fs := setP p.fs s ⟨(fileAt p s).now, (fileAt p s).now⟩ } else p.stepd
def cutC (p : PD) (s : ByteArray) (n : Int) : Int := if onE p [s] = 0 then (if beyB (fileAt p s).now n = true then 1 else 0) else onE p [s]
def cutP (p : PD) (s : ByteArray) (n : Int) : PD := if cutC p s n = 0 then { p.stepd with fs := setP p.fs s ⟨(fileAt p s).now.take n.toNat, (fileAt p s).safe.take n.toNat⟩ } else p.stepd
def writeC (p : PD) (s : ByteArray) (n : Int) (b : List Nat) : Int := if onE p [s] = 0 then (if beyB (fileAt p s).now n = true then 1 else if 65536 - n < (b.length : Int) then 51 else 0) else onE p [s]
def writeP (p : PD) (s : ByteArray) (n : Int) (b : List Nat) : PD := if writeC p s n b = 0 then { p.stepd with fs := setP p.fs s ⟨overL (fileAt p s).now n.toNat b, (fileAt p s).safe⟩ } else p.stepd
theorem file_at {d : Dk} {s : ByteArray} {f : Fl} (h : getF d.M s = some f) : fileAt d.p s = f.p := by
  unfold fileAt
  rw [show d.p.fs = d.M.map pf from rfl, getP_of, h]
  rfl
set_option maxHeartbeats 2000000 in
set_option maxRecDepth 20000 in
theorem remove_any (d : Dk) (s : ByteArray) (w : World) (h : DkAt w d) :
    Calls Tryz.prog 19 #[.pointer (some ⟨d.db, 0, none⟩), .string s] w fun e w' => e = .returned (.int .i64 (removeC d.p s)) ∧ Res w d (removeP d.p s) w' := by
  have HSt := hid (stepOn_any d (.slice (some ⟨w.heap.size, 0, none⟩) 1 1) [s] (w.alloc (.cells #[.string s] 9)) (h.old ((Old.refl w).alloc _)) (SRow.one w s _ rfl) (by simp) (fun g e => by cases e; exact mv_alloc_far h _ (Nat.le_refl _)))
  have HM0 := hid (show Mv w d (w.alloc (.cells #[.string s] 9)) d from Mv.old ((Old.refl w).alloc _))
  have hE : onC d [s] = onE d.p [s] := onE_of d [s]
  clear h
  by_cases hz : onC d [s] = 0
  · obtain ⟨f, q1, q2, q3⟩ := on_some hz
    have hsz : SZ s := by
      have := (fault_zero q3).2 s (by simp)
      unfold SZ maxLen; omega
    have e1 : removeC d.p s = 0 := by unfold removeC; rw [← hE]; exact hz
    have e2 : removeP d.p s = { d.p.stepd with fs := delP d.p.fs s } := by unfold removeP; rw [e1, if_pos rfl]
    rw [e1, e2]
    rw [hz, q1] at HSt
    simp only [fPtr] at HSt
    have HDl := hid (fun (W : World) (k : DkAt W d.stepd) => show ∃ w', (Builtin.delete_ #[56, 9] 0 #[.map (some d.mb), .string s]).run Tryz.prog W = .ok (.tuple #[]) w' ∧ ∃ d', DkAt w' d' ∧ d'.p = { d.p.stepd with fs := delP d.p.fs s } ∧ Mv W d.stepd w' d' from by
      obtain ⟨w', z1, z2, z3, z4⟩ := k.map.del hsz 0
      obtain ⟨r1, r2⟩ := k.remove s z2 z3
      refine ⟨w', z1, _, r1, ?_, r2⟩
      show (⟨(delF d.M s).map pf, d.stepd.down, d.stepd.fail⟩ : PD) = _
      rw [delF_pf]
      rfl)
    have HCe := hid (fun (W : World) (k : DkAt W d.stepd) => k.cells)
    clear hE e1 e2 hz q1 q2 q3
    generalize f.fb = fb at *
    go_enter Tryz.func19, Tryz.ntmps19
    go_upto_region 4 with (go_at_call 41; refine HSt.out.mono ?_; rintro e w1 ⟨rfl, k1, m1⟩; have K1 := hid k1; have M1 := hid m1; clear k1 m1)
    obtain ⟨⟨c0, c1, c2⟩, _⟩ := HCe.out w1 K1.out
    obtain ⟨w2, hdl, d', r1, r2, r3⟩ := HDl.out w1 K1.out
    have HR := hid (show Res w d _ w2 from ⟨d', r1, r2, (HM0.out.trans M1.out).trans r3⟩)
    clear HSt HCe HM0 K1 M1 HDl r1 r2 r3
    rw [show d.stepd.db = d.db from rfl, show d.stepd.mb = d.mb from rfl] at *
    generalize d.db = db at *
    generalize d.mb = mb at *
    go_wp2
    go_ret
    exact ⟨rfl, HR.out⟩
  · have e1 : removeC d.p s = onC d [s] := by unfold removeC; rw [← hE]
    have e2 : removeP d.p s = d.stepd.p := by unfold removeP; rw [e1, if_neg hz]; rfl
    rw [e1, e2]
    rw [on_none hz] at HSt
    simp only [fPtr] at HSt
    clear hE e1 e2
    have k1 : (onC d [s] != 0) = true := by rw [bne_iff_ne]; exact hz
    have k2 : (onC d [s] == 0) = false := by rw [beq_eq_false_iff_ne]; exact hz
    generalize onC d [s] = fc at *
    go_enter Tryz.func19, Tryz.ntmps19
    go_wp2_with (go_at_call 41; refine HSt.out.mono ?_; rintro e w1 ⟨rfl, k1, m1⟩; have K1 := hid k1; have M1 := hid m1; clear k1 m1)
    go_ret
    exact ⟨rfl, d.stepd, K1.out, rfl, HM0.out.trans M1.out⟩
set_option maxHeartbeats 2000000 in
set_option maxRecDepth 20000 in
theorem rename_any (d : Dk) (s t : ByteArray) (w : World) (h : DkAt w d) :
    Calls Tryz.prog 63 #[.pointer (some ⟨d.db, 0, none⟩), .string s, .string t] w fun e w' => e = .returned (.int .i64 (renameC d.p s t)) ∧ Res w d (renameP d.p s t) w' := by
  have HSt := hid (stepOn_any d (.slice (some ⟨w.heap.size, 0, none⟩) 2 2) [s, t] (w.alloc (.cells #[.string s, .string t] 9)) (h.old ((Old.refl w).alloc _)) (SRow.two w s t _ rfl) (by simp) (fun g e => by cases e; exact mv_alloc_far h _ (Nat.le_refl _)))
  have HM0 := hid (show Mv w d (w.alloc (.cells #[.string s, .string t] 9)) d from Mv.old ((Old.refl w).alloc _))
  have hE : onC d [s, t] = onE d.p [s, t] := onE_of d [s, t]
  clear h
  by_cases hz : onC d [s, t] = 0
  · obtain ⟨f, q1, q2, q3⟩ := on_some hz
    have hsz : SZ s ∧ SZ t := by
      have h1 := (fault_zero q3).2 s (by simp)
      have h2 := (fault_zero q3).2 t (by simp)
      unfold SZ maxLen; omega
    have q2' : getF d.M s = some f := q2
    have e1 : renameC d.p s t = 0 := by unfold renameC; rw [← hE]; exact hz
    have e2 : renameP d.p s t = { d.p.stepd with fs := putP (delP d.p.fs s) t f.p } := by unfold renameP; rw [e1, if_pos rfl, file_at q2']
    rw [e1, e2]
    rw [hz, q1] at HSt
    simp only [fPtr] at HSt
    have HDl := hid (fun (W : World) (k : DkAt W d.stepd) => show ∃ w' w'', (Builtin.delete_ #[56, 9] 0 #[.map (some d.mb), .string s]).run Tryz.prog W = .ok (.tuple #[]) w' ∧ (Instr.mapUpdate 56 (.map (some d.mb)) (.string t) (.pointer (some ⟨f.fb, 0, none⟩))).run Tryz.prog w' = .ok () w'' ∧ w'.cell? ⟨d.db, 0, none⟩ = some (.map (some d.mb)) ∧ ∃ d', DkAt w'' d' ∧ d'.p = { d.p.stepd with fs := putP (delP d.p.fs s) t f.p } ∧ Mv W d.stepd w'' d' from by
      obtain ⟨w', z1, z2, z3, z4⟩ := k.map.del hsz.1 0
      obtain ⟨w'', y1, y2, y3, y4⟩ := z2.put hsz.2 (.pointer (some ⟨f.fb, 0, none⟩))
      obtain ⟨r1, r2⟩ := k.rename s t f (getF_mem q2') y2 (z3.trans y3)
      refine ⟨w', w'', z1, y1, ?_, _, r1, ?_, r2⟩
      · exact z3.cell k.cells.1.1 (fun e => k.ne (List.mem_singleton.1 e))
      · show (⟨(putF (delF d.M s) t f).map pf, d.stepd.down, d.stepd.fail⟩ : PD) = _
        rw [putF_pf, delF_pf]
        rfl)
    have HCe := hid (fun (W : World) (k : DkAt W d.stepd) => k.cells)
    clear hE e1 e2 hz q1 q2 q3 q2'
    generalize f.fb = fb at *
    generalize f.p = fp at *
    go_enter Tryz.func63, Tryz.ntmps63
    go_upto_region 4 with (go_at_call 41; refine HSt.out.mono ?_; rintro e w1 ⟨rfl, k1, m1⟩; have K1 := hid k1; have M1 := hid m1; clear k1 m1)
    obtain ⟨⟨c0, c1, c2⟩, _⟩ := HCe.out w1 K1.out
    obtain ⟨w2, w3, hdl, hup, c0', d', r1, r2, r3⟩ := HDl.out w1 K1.out
    have HR := hid (show Res w d _ w3 from ⟨d', r1, r2, (HM0.out.trans M1.out).trans r3⟩)
    clear HSt HCe HM0 K1 M1 HDl r1 r2 r3
    rw [show d.stepd.db = d.db from rfl, show d.stepd.mb = d.mb from rfl] at *
    generalize d.db = db at *
    generalize d.mb = mb at *
    go_wp2
    go_ret
    exact ⟨rfl, HR.out⟩
  · have e1 : renameC d.p s t = onC d [s, t] := by unfold renameC; rw [← hE]
    have e2 : renameP d.p s t = d.stepd.p := by unfold renameP; rw [e1, if_neg hz]; rfl
    rw [e1, e2]
    rw [on_none hz] at HSt
    simp only [fPtr] at HSt
    clear hE e1 e2
    have k1 : (onC d [s, t] != 0) = true := by rw [bne_iff_ne]; exact hz
    have k2 : (onC d [s, t] == 0) = false := by rw [beq_eq_false_iff_ne]; exact hz
    generalize onC d [s, t] = fc at *
    go_enter Tryz.func63, Tryz.ntmps63
    go_wp2_with (go_at_call 41; refine HSt.out.mono ?_; rintro e w1 ⟨rfl, k1, m1⟩; have K1 := hid k1; have M1 := hid m1; clear k1 m1)
    go_ret
    exact ⟨rfl, d.stepd, K1.out, rfl, HM0.out.trans M1.out⟩
set_option maxHeartbeats 2000000 in
set_option maxRecDepth 20000 in
theorem dsync_any (d : Dk) (s : ByteArray) (w : World) (h : DkAt w d) :
    Calls Tryz.prog 61 #[.pointer (some ⟨d.db, 0, none⟩), .string s] w fun e w' => e = .returned (.int .i64 (syncC d.p s)) ∧ Res w d (syncP d.p s) w' := by
  have HSt := hid (stepOn_any d (.slice (some ⟨w.heap.size, 0, none⟩) 1 1) [s] (w.alloc (.cells #[.string s] 9)) (h.old ((Old.refl w).alloc _)) (SRow.one w s _ rfl) (by simp) (fun g e => by cases e; exact mv_alloc_far h _ (Nat.le_refl _)))
  have HM0 := hid (show Mv w d (w.alloc (.cells #[.string s] 9)) d from Mv.old ((Old.refl w).alloc _))
  have hE : onC d [s] = onE d.p [s] := onE_of d [s]
  clear h
  by_cases hz : onC d [s] = 0
  · obtain ⟨f, q1, q2, q3⟩ := on_some hz
    have q2' : getF d.M s = some f := q2
    have e1 : syncC d.p s = 0 := by unfold syncC; rw [← hE]; exact hz
    have e2 : syncP d.p s = { d.p.stepd with fs := setP d.p.fs s ⟨f.now, f.now⟩ } := by unfold syncP; rw [e1, if_pos rfl, file_at q2']; rfl
    rw [e1, e2]
    rw [hz, q1] at HSt
    simp only [fPtr] at HSt
    have HFi := hid (fun (W : World) (k : DkAt W d.stepd) => (sync_any f W (k.files _ (getF_mem q2'))).mono (R' := fun e w' => e = .returned (.tuple #[]) ∧ ∃ d', DkAt w' d' ∧ d'.p = { d.p.stepd with fs := setP d.p.fs s ⟨f.now, f.now⟩ } ∧ Mv W d.stepd w' d') (fun e w' q => by
      obtain ⟨f', rfl, z1, z2, z3, z4⟩ := q
      obtain ⟨r1, r2⟩ := k.file (getF_mem q2') z1 z4
      refine ⟨rfl, _, r1, ?_, r2⟩
      show (⟨(setF d.M s f').map pf, d.stepd.down, d.stepd.fail⟩ : PD) = _
      rw [setP_of, show f'.p = ⟨f.now, f.now⟩ from by unfold Fl.p; rw [z2, z3]]
      rfl))
    clear hE e1 e2 hz q1 q2 q3 q2'
    generalize f.fb = fb at *
    generalize f.now = fnow at *
    go_enter Tryz.func61, Tryz.ntmps61
    go_wp2_with (first | (go_at_call 41; refine HSt.out.mono ?_; rintro e w1 ⟨rfl, k1, m1⟩; have K1 := hid k1; have M1 := hid m1; clear k1 m1) | (go_at_call 90; refine (HFi.out _ K1.out).mono ?_; rintro e w2 ⟨rfl, d', r1, r2, r3⟩; have HR := hid (show Res w d _ w2 from ⟨d', r1, r2, (HM0.out.trans M1.out).trans r3⟩); clear r1 r2 r3))
    go_ret
    exact ⟨rfl, HR.out⟩
  · have e1 : syncC d.p s = onC d [s] := by unfold syncC; rw [← hE]
    have e2 : syncP d.p s = d.stepd.p := by unfold syncP; rw [e1, if_neg hz]; rfl
    rw [e1, e2]
    rw [on_none hz] at HSt
    simp only [fPtr] at HSt
    clear hE e1 e2
    have k1 : (onC d [s] != 0) = true := by rw [bne_iff_ne]; exact hz
    have k2 : (onC d [s] == 0) = false := by rw [beq_eq_false_iff_ne]; exact hz
    generalize onC d [s] = fc at *
    go_enter Tryz.func61, Tryz.ntmps61
    go_wp2_with (go_at_call 41; refine HSt.out.mono ?_; rintro e w1 ⟨rfl, k1, m1⟩; have K1 := hid k1; have M1 := hid m1; clear k1 m1)
    go_ret
    exact ⟨rfl, d.stepd, K1.out, rfl, HM0.out.trans M1.out⟩
set_option maxHeartbeats 2000000 in
set_option maxRecDepth 20000 in
theorem dwrite_any (d : Dk) (s : ByteArray) (n : Int) (u : Value) (b : List Nat) (w : World) (h : DkAt w d) (hr : Rw w u b) (hu : b ≠ [] → ∀ g, u.ownBlock = some g → ¬ d.inB g) (hN : -9223372036854775808 ≤ n ∧ n ≤ 9223372036854775807) :
    Calls Tryz.prog 58 #[.pointer (some ⟨d.db, 0, none⟩), .string s, .int .i64 n, u] w fun e w' => e = .returned (.int .i64 (writeC d.p s n b)) ∧ Res w d (writeP d.p s n b) w' := by
  have HSt := hid (stepOn_any d (.slice (some ⟨w.heap.size, 0, none⟩) 1 1) [s] (w.alloc (.cells #[.string s] 9)) (h.old ((Old.refl w).alloc _)) (SRow.one w s _ rfl) (by simp) (fun g e => by cases e; exact mv_alloc_far h _ (Nat.le_refl _)))
  have HM0 := hid (show Mv w d (w.alloc (.cells #[.string s] 9)) d from Mv.old ((Old.refl w).alloc _))
  have hE : onC d [s] = onE d.p [s] := onE_of d [s]
  have HR0 := hid (fun (W : World) (m : Mv w d W d.stepd) => show Rw W u b from by
    rcases hr with q | ⟨q0, q1, bb, off, cap, rfl, qc, q2⟩
    · exact .inl q
    · exact .inr ⟨q0, q1, bb, off, cap, rfl, fun i hi => ⟨(qc i hi).1, m.chg.to bb (World.block_lt_of_cell? w _ (qc i hi).2) (hu (fun e => by rw [e] at q0; simp at q0) bb rfl) _ _ (qc i hi).2⟩, q2⟩)
  have HU := hid hu
  clear hu h
  obtain ⟨ua, uc, rfl⟩ := hr.len
  clear hr
  by_cases hz : onC d [s] = 0
  · obtain ⟨f, q1, q2, q3⟩ := on_some hz
    have q2' : getF d.M s = some f := q2
    have e0 : writeC d.p s n b = if beyB f.now n = true then 1 else if 65536 - n < (b.length : Int) then 51 else 0 := by unfold writeC; rw [← hE, if_pos hz, file_at q2']; rfl
    rw [hz, q1] at HSt
    simp only [fPtr] at HSt
    have HBe := hid (fun (W : World) (k : DkAt W d.stepd) => beyond_any f n W (k.files _ (getF_mem q2')))
    cases hb : beyB f.now n with
    | true =>
      rw [hb] at HBe
      have e1 : writeC d.p s n b = 1 := by rw [e0, hb]; rfl
      have e2 : writeP d.p s n b = d.stepd.p := by unfold writeP; rw [e1]; rfl
      rw [e1, e2]
      clear hE e0 e1 e2 hz q1 q2 q3 q2' hb HR0 HU
      generalize f.fb = fb at *
      generalize b.length = bn at *
      go_enter Tryz.func58, Tryz.ntmps58
      go_wp2_with (first | (go_at_call 41; refine HSt.out.mono ?_; rintro e w1 ⟨rfl, k1, m1⟩; have K1 := hid k1; have M1 := hid m1; clear k1 m1) | (go_at_call 86; refine (HBe.out _ K1.out).mono ?_; rintro e w2 ⟨rfl, hw⟩; have hw2 := hw.symm; subst hw2))
      go_ret
      exact ⟨rfl, d.stepd, K1.out, rfl, HM0.out.trans M1.out⟩
    | false =>
      rw [hb] at HBe
      have hn : 0 ≤ n ∧ n ≤ (f.now.length : Int) := by unfold beyB at hb; simp only [Bool.or_eq_false_iff, decide_eq_false_iff_not] at hb; omega
      obtain ⟨k, hk⟩ : ∃ k : Nat, n = (k : Int) := ⟨n.toNat, by omega⟩
      subst hk
      have lw : IntKind.i64.wrap (65536 - (k : Int)) = 65536 - (k : Int) := IntWalk.i64_in _ (by omega)
      by_cases hc : 65536 - (k : Int) < (b.length : Int)
      · have e1 : writeC d.p s k b = 51 := by rw [e0, hb, if_neg (by simp), if_pos hc]
        have e2 : writeP d.p s k b = d.stepd.p := by unfold writeP; rw [e1]; rfl
        rw [e1, e2]
        have hc2 : (b.length : Int) > 65536 - (k : Int) := hc
        clear hE e0 e1 e2 hz q1 q2 q3 q2' hb HR0 HU hc
        generalize f.fb = fb at *
        generalize b.length = bn at *
        go_enter Tryz.func58, Tryz.ntmps58
        go_wp2_with (first | (go_at_call 41; refine HSt.out.mono ?_; rintro e w1 ⟨rfl, k1, m1⟩; have K1 := hid k1; have M1 := hid m1; clear k1 m1) | (go_at_call 86; refine (HBe.out _ K1.out).mono ?_; rintro e w2 ⟨rfl, hw⟩; have hw2 := hw.symm; subst hw2))
        go_ret
        exact ⟨rfl, d.stepd, K1.out, rfl, HM0.out.trans M1.out⟩
      · have e1 : writeC d.p s k b = 0 := by rw [e0, hb, if_neg (by simp), if_neg hc]
        have e2 : writeP d.p s (k : Int) b = { d.p.stepd with fs := setP d.p.fs s ⟨overL f.now k b, f.safe⟩ } := by unfold writeP; rw [e1, if_pos rfl, file_at q2']; rfl
        rw [e1, e2]
        have HFi := hid (fun (W : World) (kk : DkAt W d.stepd) (m : Mv w d W d.stepd) => (write_any f k (.slice ua b.length uc) b W (kk.files _ (getF_mem q2')) (HR0.out W m) (fun h0 g e e2 => HU.out h0 g e (.inr (.inr ⟨_, getF_mem q2', e2⟩))) (by omega)).mono (R' := fun e w' => e = .returned (.tuple #[]) ∧ ∃ d', DkAt w' d' ∧ d'.p = { d.p.stepd with fs := setP d.p.fs s ⟨overL f.now k b, f.safe⟩ } ∧ Mv W d.stepd w' d') (fun e w' q => by
          obtain ⟨f', rfl, z1, z2, z3, z4⟩ := q
          obtain ⟨r1, r2⟩ := kk.file (getF_mem q2') z1 z4
          refine ⟨rfl, _, r1, ?_, r2⟩
          show (⟨(setF d.M s f').map pf, d.stepd.down, d.stepd.fail⟩ : PD) = _
          rw [setP_of, show f'.p = ⟨overL f.now k b, f.safe⟩ from by unfold Fl.p; rw [z2, z3]]
          rfl))
        have hc2 : ¬ (b.length : Int) > 65536 - (k : Int) := by omega
        clear hE e0 e1 e2 hz q1 q2 q3 q2' hb hn HR0 HU hc
        generalize hT : { d.p.stepd with fs := setP d.p.fs s ⟨overL f.now k b, f.safe⟩ } = pT at *
        clear hT
        generalize f.fb = fb at *
        generalize b.length = bn at *
        go_enter Tryz.func58, Tryz.ntmps58
        go_wp2_with (first | (go_at_call 41; refine HSt.out.mono ?_; rintro e w1 ⟨rfl, k1, m1⟩; have K1 := hid k1; have M1 := hid m1; clear k1 m1) | (go_at_call 86; refine (HBe.out _ K1.out).mono ?_; rintro e w2 ⟨rfl, hw⟩; have hw2 := hw.symm; subst hw2) | (go_at_call 87; refine (HFi.out _ K1.out (HM0.out.trans M1.out)).mono ?_; rintro e w2 ⟨rfl, d', r1, r2, r3⟩; have HR := hid (show Res w d _ w2 from ⟨d', r1, r2, (HM0.out.trans M1.out).trans r3⟩); clear r1 r2 r3))
        go_ret
        exact ⟨rfl, HR.out⟩
  · have e1 : writeC d.p s n b = onC d [s] := by unfold writeC; rw [← hE, if_neg hz]
    have e2 : writeP d.p s n b = d.stepd.p := by unfold writeP; rw [e1, if_neg hz]; rfl
    rw [e1, e2]
    rw [on_none hz] at HSt
    simp only [fPtr] at HSt
    clear hE e1 e2
    have k1 : (onC d [s] != 0) = true := by rw [bne_iff_ne]; exact hz
    have k2 : (onC d [s] == 0) = false := by rw [beq_eq_false_iff_ne]; exact hz
    generalize onC d [s] = fc at *
    generalize b.length = bn at *
    go_enter Tryz.func58, Tryz.ntmps58
    go_wp2_with (go_at_call 41; refine HSt.out.mono ?_; rintro e w1 ⟨rfl, k1, m1⟩; have K1 := hid k1; have M1 := hid m1; clear k1 m1)
    go_ret
    exact ⟨rfl, d.stepd, K1.out, rfl, HM0.out.trans M1.out⟩
end Go.Proofs.YtfphopleniidfaaGreatDoor
