/- disk's steps, Read, Fail, Down, New at every disk; conditions: the disk lies in memory, and what is written is no longer than may be. -/
import Derived.Test.YtfphopleniidfaaGreatDoorDg
namespace Go.Proofs.YtfphopleniidfaaGreatDoor
open Go.RowKit Go.Lib
set_option linter.unusedVariables false
set_option linter.unusedSimpArgs false
set_option maxRecDepth 20000
def PD.stepd (p : PD) : PD := { p with down := p.down || decide (p.fail = 1), fail := max 0 (p.fail - 1) }
theorem stepd_p (d : Dk) : d.stepd.p = d.p.stepd := rfl
/-- The error of a step's beginning, and of its file. -/
def onE (p : PD) (Ns : List ByteArray) : Int := if faultC p.stepd.down Ns = 0 then (match getP p.fs (Ns.getD 0 ByteArray.empty) with | some _ => 0 | none => 4) else faultC p.stepd.down Ns
theorem onE_of (d : Dk) (Ns : List ByteArray) : onC d Ns = onE d.p Ns := by
  unfold onC onE
  show (if faultC d.stepd.down Ns = 0 then _ else _) = if faultC d.stepd.down Ns = 0 then _ else _
  split
  · rw [show d.p.fs = d.M.map pf from rfl, getP_of]
    cases getF d.M (Ns.getD 0 ByteArray.empty) <;> rfl
  · rfl
theorem on_some {d : Dk} {Ns : List ByteArray} (h : onC d Ns = 0) : ∃ f, onF d Ns = some f ∧ getF d.M (Ns.getD 0 ByteArray.empty) = some f ∧ faultC d.stepd.down Ns = 0 := by
  unfold onC at h
  unfold onF
  split at h
  · rename_i q
    rw [if_pos q]
    cases e : getF d.M (Ns.getD 0 ByteArray.empty) with
    | none => rw [e] at h; cases h
    | some f => exact ⟨f, rfl, rfl, q⟩
  · rename_i q; exact absurd h q
theorem on_none {d : Dk} {Ns : List ByteArray} (h : onC d Ns ≠ 0) : onF d Ns = none := by
  unfold onC at h
  unfold onF
  split at h
  · rename_i q
    rw [if_pos q]
    cases e : getF d.M (Ns.getD 0 ByteArray.empty) with
    | none => rfl
    | some f => rw [e] at h; exact absurd rfl h
  · rename_i q; rw [if_neg q]
/-- What becomes of a disk. -/
def Res (w : World) (d : Dk) (p' : PD) (w' : World) : Prop := ∃ d', DkAt w' d' ∧ d'.p = p' ∧ Mv w d w' d'
def createC (p : PD) (s : ByteArray) : Int := if faultC p.stepd.down [s] = 0 then (match getP p.fs s with | some _ => 5 | none => if 256 ≤ p.fs.length then 3 else 0) else faultC p.stepd.down [s]
def createP (p : PD) (s : ByteArray) : PD := if createC p s = 0 then { p.stepd with fs := p.fs ++ [(s, ⟨[], []⟩)] } else p.stepd
theorem mv_alloc_far {w : World} {d : Dk} (h : DkAt w d) (g : Nat) (hg : w.heap.size ≤ g) : ¬ d.inB g := fun e => by have := h.lt g e; omega
set_option maxHeartbeats 2000000 in
set_option maxRecDepth 20000 in
theorem create_any (d : Dk) (s : ByteArray) (w : World) (h : DkAt w d) :
    Calls Tryz.prog 56 #[.pointer (some ⟨d.db, 0, none⟩), .string s] w fun e w' => e = .returned (.int .i64 (createC d.p s)) ∧ Res w d (createP d.p s) w' := by
  have HSt := hid (step_any d (.slice (some ⟨w.heap.size, 0, none⟩) 1 1) [s] (w.alloc (.cells #[.string s] 9)) (h.old ((Old.refl w).alloc _)) (SRow.one w s _ rfl) (fun g e => by cases e; exact mv_alloc_far h _ (Nat.le_refl _)))
  have HM0 := hid (show Mv w d (w.alloc (.cells #[.string s] 9)) d from Mv.old ((Old.refl w).alloc _))
  have hG : getP d.p.fs s = (getF d.M s).map Fl.p := getP_of d.M s
  have hL : d.p.fs.length = d.M.length := by simp [Dk.p]
  have hD : d.p.stepd.down = d.stepd.down := rfl
  clear h
  by_cases hz : faultC d.stepd.down [s] = 0
  · have hsz : SZ s := by
      have := (fault_zero hz).2 s (by simp)
      unfold SZ maxLen; omega
    rw [hz] at HSt
    have HLk := hid (fun (W : World) (k : DkAt W d.stepd) => show (Instr.lookup 56 (.map (some d.mb)) (.string s) false).run Tryz.prog W = .ok (fPtr (getF d.M s)) W from by
      have q := k.map.look false hsz
      simp only [if_false, Bool.false_eq_true] at q
      rw [mget_pof] at q
      rw [show d.stepd.M = d.M from rfl, show d.stepd.mb = d.mb from rfl] at q
      rw [q]
      cases getF d.M s <;> rfl)
    have HLn := hid (fun (W : World) (k : DkAt W d.stepd) => show (Builtin.len_ #[56] 3 #[.map (some d.mb)]).run Tryz.prog W = .ok (.int .i64 (d.M.length : Nat)) W from by
      have q := k.map.len 3
      rw [List.length_map] at q
      exact q)
    have HCe := hid (fun (W : World) (k : DkAt W d.stepd) => k.cells)
    cases hg : getF d.M s with
    | some f =>
      have e1 : createC d.p s = 5 := by unfold createC; rw [hD, if_pos hz, hG, hg]; rfl
      have e2 : createP d.p s = d.stepd.p := by unfold createP; rw [e1]; rfl
      rw [e1, e2]
      rw [hg] at HLk
      simp only [fPtr] at HLk
      clear hG hL hD e1 e2 hz hg
      go_enter Tryz.func56, Tryz.ntmps56
      go_upto_region 4 with (go_at_call 75; refine HSt.out.mono ?_; rintro e w1 ⟨rfl, k1, m1⟩; have K1 := hid k1; have M1 := hid m1; clear k1 m1)
      obtain ⟨⟨c0, c1, c2⟩, _⟩ := HCe.out w1 K1.out
      have hlk := HLk.out w1 K1.out
      have HR := hid (show Res w d d.stepd.p w1 from ⟨d.stepd, K1.out, rfl, HM0.out.trans M1.out⟩)
      clear HSt HLk HLn HCe HM0 K1 M1
      rw [show d.stepd.db = d.db from rfl, show d.stepd.mb = d.mb from rfl] at *
      generalize d.db = db at *
      generalize d.mb = mb at *
      go_wp2
      go_ret
      exact ⟨rfl, HR.out⟩
    | none =>
      rw [hg] at HLk
      simp only [fPtr] at HLk
      by_cases hl : 256 ≤ d.M.length
      · have e1 : createC d.p s = 3 := by unfold createC; rw [hD, if_pos hz, hG, hg]; simp [hL, hl]
        have e2 : createP d.p s = d.stepd.p := by unfold createP; rw [e1]; rfl
        rw [e1, e2]
        have l1 : (d.M.length : Int) ≥ 256 := by omega
        clear hG hL hD e1 e2 hz hg
        go_enter Tryz.func56, Tryz.ntmps56
        go_upto_region 4 with (go_at_call 75; refine HSt.out.mono ?_; rintro e w1 ⟨rfl, k1, m1⟩; have K1 := hid k1; have M1 := hid m1; clear k1 m1)
        obtain ⟨⟨c0, c1, c2⟩, _⟩ := HCe.out w1 K1.out
        have hlk := HLk.out w1 K1.out
        have hln := HLn.out w1 K1.out
        have HR := hid (show Res w d d.stepd.p w1 from ⟨d.stepd, K1.out, rfl, HM0.out.trans M1.out⟩)
        clear HSt HLk HLn HCe HM0 K1 M1
        rw [show d.stepd.db = d.db from rfl, show d.stepd.mb = d.mb from rfl] at *
        generalize d.db = db at *
        generalize d.mb = mb at *
        go_wp2
        go_ret
        exact ⟨rfl, HR.out⟩
      · have e1 : createC d.p s = 0 := by unfold createC; rw [hD, if_pos hz, hG, hg]; simp [hL, hl]
        have e2 : createP d.p s = { d.p.stepd with fs := d.p.fs ++ [(s, ⟨[], []⟩)] } := by unfold createP; rw [e1, if_pos rfl]
        rw [e1, e2]
        have l1 : ¬ (d.M.length : Int) ≥ 256 := by omega
        have HUp := hid (fun (W : World) (k : DkAt W d.stepd) => show ∃ w', (Instr.mapUpdate 56 (.map (some d.mb)) (.string s) (.pointer (some ⟨W.heap.size, 0, none⟩))).run Tryz.prog (W.alloc (.cells #[.slice none 0 0, .slice none 0 0] 103)) = .ok () w' ∧ ∃ d', DkAt w' d' ∧ d'.p = { d.p.stepd with fs := d.p.fs ++ [(s, ⟨[], []⟩)] } ∧ Mv W d.stepd w' d' from by
          obtain ⟨w', q1, q2, q3, q4⟩ := (k.old ((Old.refl W).alloc (.cells #[.slice none 0 0, .slice none 0 0] 103))).map.put hsz (.pointer (some ⟨W.heap.size, 0, none⟩))
          obtain ⟨r1, r2⟩ := k.create s hg (show d.M.length < 256 by omega) q2 q3
          refine ⟨w', q1, _, r1, ?_, r2⟩
          unfold Dk.p PD.stepd
          simp [Dk.stepd, pf, nFl, Fl.p])
        clear hG hL hD e1 e2 hz hg hl
        go_enter Tryz.func56, Tryz.ntmps56
        go_upto_region 4 with (go_at_call 75; refine HSt.out.mono ?_; rintro e w1 ⟨rfl, k1, m1⟩; have K1 := hid k1; have M1 := hid m1; clear k1 m1)
        obtain ⟨⟨c0, c1, c2⟩, _⟩ := HCe.out w1 K1.out
        have hlk := HLk.out w1 K1.out
        have hln := HLn.out w1 K1.out
        obtain ⟨w2, hup, d', r1, r2, r3⟩ := HUp.out w1 K1.out
        have HR := hid (show Res w d _ w2 from ⟨d', r1, r2, (HM0.out.trans M1.out).trans r3⟩)
        clear HSt HLk HLn HCe HM0 K1 M1 HUp r1 r2 r3
        rw [show d.stepd.db = d.db from rfl, show d.stepd.mb = d.mb from rfl] at *
        generalize d.db = db at *
        generalize d.mb = mb at *
        go_wp2
        go_ret
        exact ⟨rfl, HR.out⟩
  · have e1 : createC d.p s = faultC d.stepd.down [s] := by unfold createC; rw [hD, if_neg hz]
    have e2 : createP d.p s = d.stepd.p := by unfold createP; rw [e1, if_neg hz]; rfl
    rw [e1, e2]
    clear hG hL hD e1 e2
    have k1 : (faultC d.stepd.down [s] != 0) = true := by rw [bne_iff_ne]; exact hz
    have k2 : (faultC d.stepd.down [s] == 0) = false := by rw [beq_eq_false_iff_ne]; exact hz
    generalize faultC d.stepd.down [s] = fc at *
    go_enter Tryz.func56, Tryz.ntmps56
    go_wp2_with (go_at_call 75; refine HSt.out.mono ?_; rintro e w1 ⟨rfl, k1, m1⟩; have K1 := hid k1; have M1 := hid m1; clear k1 m1)
    go_ret
    exact ⟨rfl, d.stepd, K1.out, rfl, HM0.out.trans M1.out⟩
end Go.Proofs.YtfphopleniidfaaGreatDoor
