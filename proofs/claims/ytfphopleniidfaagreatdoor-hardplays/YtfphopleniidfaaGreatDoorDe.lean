/- disk: find, stepOn; a disk without what of memory it lies in; conditions: the disk lies in memory. -/
import Derived.Test.YtfphopleniidfaaGreatDoorDd
namespace Go.Proofs.YtfphopleniidfaaGreatDoor
open Go.RowKit Go.Lib
set_option linter.unusedVariables false
set_option linter.unusedSimpArgs false
set_option maxRecDepth 20000
def getF (M : List (ByteArray × Fl)) (s : ByteArray) : Option Fl :=
  match M with
  | [] => none
  | p :: t => if p.1 = s then some p.2 else getF t s
theorem getF_mem : ∀ {M : List (ByteArray × Fl)} {s : ByteArray} {f : Fl}, getF M s = some f → (s, f) ∈ M
  | [], s, f, h => by cases h
  | p :: t, s, f, h => by
    unfold getF at h
    split at h
    · rename_i q; cases h; rw [← q]; exact List.mem_cons_self ..
    · exact List.mem_cons_of_mem _ (getF_mem h)
theorem getF_none : ∀ {M : List (ByteArray × Fl)} {s : ByteArray}, getF M s = none → ∀ p ∈ M, p.1 ≠ s
  | [], s, h => fun p hp => by cases hp
  | q :: t, s, h => fun p hp => by
    unfold getF at h
    split at h
    · cases h
    · rename_i z
      rcases List.mem_cons.1 hp with rfl | hp
      · exact z
      · exact getF_none h p hp
theorem mget_pof : ∀ (M : List (ByteArray × Fl)) (s : ByteArray), mget s (M.map pof) = (getF M s).map fun f => .pointer (some ⟨f.fb, 0, none⟩)
  | [], s => rfl
  | p :: t, s => by
    show mget s (pof p :: t.map pof) = _
    unfold mget getF
    by_cases q : p.1 = s
    · rw [if_pos (show (pof p).1 = s from q), if_pos q]; rfl
    · rw [if_neg (show ¬ (pof p).1 = s from q), if_neg q]; exact mget_pof t s
/-- What find answers. -/
def fPtr (o : Option Fl) : Value := match o with | some f => .pointer (some ⟨f.fb, 0, none⟩) | none => .pointer none
def fC (o : Option Fl) : Int := match o with | some _ => 0 | none => 4
set_option maxHeartbeats 1000000 in
set_option maxRecDepth 20000 in
theorem find_any (d : Dk) (s : ByteArray) (w : World) (h : DkAt w d) (hs : SZ s) :
    Calls Tryz.prog 38 #[.pointer (some ⟨d.db, 0, none⟩), .string s] w fun e w' => e = .returned (.tuple #[fPtr (getF d.M s), .int .i64 (fC (getF d.M s))]) ∧ w' = w := by
  have hlk := h.map.look false hs
  simp only [if_false, Bool.false_eq_true] at hlk
  rw [mget_pof] at hlk
  obtain ⟨⟨c0, c1, c2⟩, _⟩ := h.cells
  clear h
  generalize d.db = db at *
  generalize d.mb = mb at *
  cases hg : getF d.M s with
  | none =>
    rw [hg] at hlk
    simp only [Option.map_none, Option.getD_none] at hlk
    simp only [fPtr, fC]
    go_enter Tryz.func38, Tryz.ntmps38
    go_wp2
    go_ret2
    exact ⟨rfl, rfl⟩
  | some f =>
    rw [hg] at hlk
    simp only [Option.map_some, Option.getD_some] at hlk
    simp only [fPtr, fC]
    clear hg
    generalize f.fb = fb at *
    go_enter Tryz.func38, Tryz.ntmps38
    go_wp2
    go_ret2
    exact ⟨rfl, rfl⟩
/-- What stepOn answers: the file of the first name, and the error. -/
def onF (d : Dk) (Ns : List ByteArray) : Option Fl := if faultC d.stepd.down Ns = 0 then getF d.M (Ns.getD 0 ByteArray.empty) else none
def onC (d : Dk) (Ns : List ByteArray) : Int := if faultC d.stepd.down Ns = 0 then fC (getF d.M (Ns.getD 0 ByteArray.empty)) else faultC d.stepd.down Ns
theorem fault_zero {dn : Bool} {Ns : List ByteArray} (h : faultC dn Ns = 0) : dn = false ∧ ∀ s ∈ Ns, 0 < s.size ∧ s.size ≤ 16 := by
  unfold faultC at h
  split at h
  · cases h
  · rename_i q
    split at h
    · cases h
    · rename_i z
      refine ⟨by simpa using q, fun s hs => ?_⟩
      have : misN s = false := by
        cases e : misN s with
        | false => rfl
        | true => exact absurd (List.any_eq_true.2 ⟨s, hs, e⟩) z
      unfold misN at this
      simp only [Bool.or_eq_false_iff, decide_eq_false_iff_not] at this
      omega
set_option maxHeartbeats 1000000 in
set_option maxRecDepth 20000 in
theorem stepOn_any (d : Dk) (v : Value) (Ns : List ByteArray) (w : World) (h : DkAt w d) (hv : SRow w v Ns) (h0 : 0 < Ns.length) (hg : ∀ g, v.ownBlock = some g → ¬ d.inB g) :
    Calls Tryz.prog 41 #[.pointer (some ⟨d.db, 0, none⟩), v] w fun e w' => e = .returned (.tuple #[fPtr (onF d Ns), .int .i64 (onC d Ns)]) ∧ DkAt w' d.stepd ∧ Mv w d w' d.stepd := by
  have HS := hid (step_any d v Ns w h hv hg)
  have HV := hid hv
  have HG := hid hg
  have hlt := h.lt
  obtain ⟨hn, g, off, c, rfl, hc⟩ := hv
  have HX := hid (fun (W : World) (m : Mv w d W d.stepd) => show W.cell? ⟨g, off, none⟩ = some (.string (Ns.getD 0 ByteArray.empty)) from m.chg.to g (World.block_lt_of_cell? w ⟨g, off, none⟩ (by have := hc 0 h0; rw [Nat.add_zero] at this; exact this)) (HG.out g rfl) off _ (by have := hc 0 h0; rw [Nat.add_zero] at this; exact this))
  clear hc hlt h hg
  by_cases hz : faultC d.stepd.down Ns = 0
  · have HF := hid (fun (W : World) (k : DkAt W d.stepd) => find_any d.stepd (Ns.getD 0 ByteArray.empty) W k (by
      have := (fault_zero hz).2 (Ns.getD 0 ByteArray.empty) (by rw [List.getD_eq_getElem?_getD, List.getElem?_eq_getElem h0]; exact List.getElem_mem h0)
      unfold SZ maxLen; omega))
    have e1 : onF d Ns = getF d.M (Ns.getD 0 ByteArray.empty) := by unfold onF; rw [if_pos hz]
    have e2 : onC d Ns = fC (getF d.M (Ns.getD 0 ByteArray.empty)) := by unfold onC; rw [if_pos hz]
    rw [hz] at HS
    rw [e1, e2]
    clear e1 e2 hz HG HV
    have k1 : (0 : Int) < (Ns.length : Int) := by omega
    generalize Ns.length = n at *
    generalize Ns.getD 0 ByteArray.empty = s at *
    have HM : Hid (d.stepd.M = d.M ∧ d.stepd.db = d.db) := hid ⟨rfl, rfl⟩
    rw [HM.out.1, HM.out.2] at HF
    generalize hR : getF d.M s = R at *
    generalize d.stepd = d1 at *
    generalize d.db = db at *
    clear hR HM
    go_enter Tryz.func41, Tryz.ntmps41
    go_wp2_with (first | (go_at_call 75; refine HS.out.mono ?_; rintro e w1 ⟨rfl, k1', m1⟩; have K1 := hid k1'; have M1 := hid m1; have cx := HX.out w1 m1; clear k1' m1) | (go_at_call 38; refine (HF.out _ K1.out).mono ?_; rintro e w2 ⟨rfl, hw⟩; have hw2 := hw.symm; subst hw2))
    go_ret2
    exact ⟨rfl, K1.out, M1.out⟩
  · have e1 : onF d Ns = none := by unfold onF; rw [if_neg hz]
    have e2 : onC d Ns = faultC d.stepd.down Ns := by unfold onC; rw [if_neg hz]
    rw [e1, e2]
    clear e1 e2 HX HG HV
    generalize Ns.length = n at *
    generalize faultC d.stepd.down Ns = fc at *
    generalize d.stepd = d1 at *
    generalize d.db = db at *
    have k1 : (fc != 0) = true := by rw [bne_iff_ne]; exact hz
    have k2 : (fc == 0) = false := by rw [beq_eq_false_iff_ne]; exact hz
    simp only [fPtr]
    go_enter Tryz.func41, Tryz.ntmps41
    go_wp2_with (go_at_call 75; refine HS.out.mono ?_; rintro e w1 ⟨rfl, k1', m1⟩; have K1 := hid k1'; have M1 := hid m1; clear k1' m1)
    go_ret2
    exact ⟨rfl, K1.out, M1.out⟩
end Go.Proofs.YtfphopleniidfaaGreatDoor
