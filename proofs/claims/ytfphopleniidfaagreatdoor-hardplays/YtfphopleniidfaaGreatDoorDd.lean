/- disk: misnamed, fault, step, find, stepOn; conditions: the disk lies in memory. -/
import Derived.Test.YtfphopleniidfaaGreatDoorDc
namespace Go.Proofs.YtfphopleniidfaaGreatDoor
open Go.RowKit Go.Lib
set_option linter.unusedVariables false
set_option linter.unusedSimpArgs false
set_option maxRecDepth 20000
def misN (s : ByteArray) : Bool := decide (s.size = 0) || decide (16 < s.size)
/-- A row of names. -/
def SRow (w : World) (v : Value) (Ns : List ByteArray) : Prop := Ns.length ≤ 1000 ∧ ∃ g off c, v = .slice (some ⟨g, off, none⟩) Ns.length c ∧ ∀ i, i < Ns.length → w.cell? ⟨g, off + i, none⟩ = some (.string (Ns.getD i ByteArray.empty))
theorem SRow.old {w w' : World} {v : Value} {Ns : List ByteArray} (h : SRow w v Ns) (u : Old w w') : SRow w' v Ns := by
  obtain ⟨h1, g, off, c, e, hc⟩ := h
  exact ⟨h1, g, off, c, e, fun i hi => u.keep (hc i hi)⟩
theorem SRow.one (w : World) (s : ByteArray) (g : Nat) (hg : w.heap.size = g) : SRow (w.alloc (.cells #[.string s] 9)) (.slice (some ⟨g, 0, none⟩) 1 1) [s] := by
  subst hg
  refine ⟨by simp, _, 0, 1, rfl, fun i hi => ?_⟩
  obtain rfl : i = 0 := by simpa using hi
  simp
theorem SRow.two (w : World) (s t : ByteArray) (g : Nat) (hg : w.heap.size = g) : SRow (w.alloc (.cells #[.string s, .string t] 9)) (.slice (some ⟨g, 0, none⟩) 2 2) [s, t] := by
  subst hg
  refine ⟨by simp, _, 0, 2, rfl, fun i hi => ?_⟩
  match i, hi with
  | 0, _ => simp
  | 1, _ => simp
set_option maxHeartbeats 400000 in
set_option maxRecDepth 20000 in
theorem misnamed_any (s : ByteArray) (w : World) : Calls Tryz.prog 74 #[.string s] w fun e w' => e = .returned (.bool (misN s)) ∧ w' = w := by
  by_cases h0 : s.size = 0
  · have hne2 : s.toList = [] := by
      rw [Go.Lib.toList_data]
      cases s with
      | mk d => simp [ByteArray.size] at h0; subst h0; rfl
    have hm : misN s = true := by unfold misN; simp [h0]
    have hne : s.toList.isEmpty = true := by simp [hne2]
    rw [hm]
    clear h0 hm
    go_enter Tryz.func74, Tryz.ntmps74
    go_wp2
    go_ret
    exact ⟨rfl, rfl⟩
  · have hne2 : ¬ s.toList = [] := by
      intro q
      rw [Go.Lib.toList_data] at q
      apply h0
      show s.data.size = 0
      rw [← Array.length_toList, q]
      rfl
    have hne : s.toList.isEmpty = false := by simp [hne2]
    by_cases h1 : 16 < s.size
    · have k1 : (s.size : Int) > 16 := by omega
      have hm : misN s = true := by unfold misN; simp [h1]
      rw [hm]
      go_enter Tryz.func74, Tryz.ntmps74
      go_wp2
      go_ret
      exact ⟨rfl, rfl⟩
    · have k1 : ¬ (s.size : Int) > 16 := by omega
      have hm : misN s = false := by unfold misN; simp [h1, h0]
      rw [hm]
      go_enter Tryz.func74, Tryz.ntmps74
      go_wp2
      go_ret
      exact ⟨rfl, rfl⟩
def anyN (Ns : List ByteArray) (k : Nat) : Bool := (Ns.take k).any misN
theorem anyN_step (Ns : List ByteArray) (k : Nat) (h : k < Ns.length) : anyN Ns (k + 1) = (anyN Ns k || misN (Ns.getD k ByteArray.empty)) := by
  unfold anyN
  rw [List.take_succ_eq_append_getElem h, List.any_append, List.getD_eq_getElem?_getD, List.getElem?_eq_getElem h]
  simp
theorem anyN_at (Ns : List ByteArray) (k : Nat) (h : k < Ns.length) (q : misN (Ns.getD k ByteArray.empty) = true) : Ns.any misN = true := by
  rw [List.getD_eq_getElem?_getD, List.getElem?_eq_getElem h] at q
  exact List.any_eq_true.2 ⟨_, List.getElem_mem h, q⟩
set_option maxHeartbeats 1000000 in
set_option maxRecDepth 20000 in
theorem indexN_any (v : Value) (Ns : List ByteArray) (w : World) (h : SRow w v Ns) :
    Calls Tryz.prog 95 #[v, .func (.func 74) #[] #[]] w fun e w' => ∃ r : Int, e = .returned (.int .i64 r) ∧ decide (0 ≤ r) = Ns.any misN ∧ Old w w' := by
  obtain ⟨hn, g, off, c, rfl, hc⟩ := h
  have HX := hid hc
  have HE := hid (show anyN Ns Ns.length = Ns.any misN from by unfold anyN; rw [List.take_length])
  have HS := hid (fun k hk => anyN_step Ns k hk)
  have HA := hid (fun k hk => anyN_at Ns k hk)
  clear hc
  generalize Ns.length = n at *
  have hmm : (n : Int) ≤ 1000 := by omega
  go_enter Tryz.func95, Tryz.ntmps95
  go_wp2
  go_loopw [8] (fun i wx => ∃ k : Nat, k ≤ n ∧ i = .int .i64 k ∧ anyN Ns k = false ∧ Old w wx) (fun i _ => n - (intOf i).toNat)
  case atStart => exact ⟨0, Nat.zero_le _, rfl, rfl, Old.refl _⟩
  case round =>
    obtain ⟨k, hk, rfl, hz, hup⟩ := hrel
    by_cases hlt : k < n
    · have cx := hup.keep (HX.out k hlt)
      have l1 : (0 : Int) ≤ (k : Int) := by omega
      have l2 : (k : Int) < (n : Int) := by omega
      have HS1 := hid (HS.out k hlt)
      have HA1 := hid (HA.out k hlt)
      generalize Ns.getD k ByteArray.empty = s at *
      have HM := hid (fun W => misnamed_any s W)
      cases hms : misN s with
      | true =>
        rw [hms] at HM HA1
        have HT := hid (HA1.out rfl)
        clear HA1 HS1 HX HE HS HA hms hz
        go_wp2_with (go_at_call 74; refine (HM.out _).mono ?_; rintro e w3 ⟨rfl, hw⟩; have hw2 := hw.symm; subst hw2)
        go_ret
        exact ⟨_, rfl, by rw [HT.out]; simp, hup⟩
      | false =>
        rw [hms] at HM HS1
        rw [hz] at HS1
        clear HA1 HX HE HS HA hms hz
        go_wp2_with (go_at_call 74; refine (HM.out _).mono ?_; rintro e w3 ⟨rfl, hw⟩; have hw2 := hw.symm; subst hw2)
        exact ⟨⟨k + 1, hlt, by go_num, HS1.out, hup⟩, by simp [intOf]; omega⟩
    · obtain rfl : n = k := by omega
      have HZ := hid hz
      clear hz
      go_wp2
      go_ret
      exact ⟨_, rfl, by rw [← HE.out, HZ.out]; decide, hup⟩
set_option maxHeartbeats 1000000 in
set_option maxRecDepth 20000 in
theorem containsN_any (v : Value) (Ns : List ByteArray) (w : World) (h : SRow w v Ns) :
    Calls Tryz.prog 73 #[v, .func (.func 74) #[] #[]] w fun e w' => e = .returned (.bool (Ns.any misN)) ∧ Old w w' := by
  have HI := hid (indexN_any v Ns w h)
  obtain ⟨hn, g, off, c, rfl, hc⟩ := h
  clear hc
  go_enter Tryz.func73, Tryz.ntmps73
  go_wp2_with (go_at_call 95; refine HI.out.mono ?_; rintro e w1 ⟨r, rfl, hr, u1⟩; have HR := hid hr; clear hr)
  go_ret
  exact ⟨ret_b (by rw [← HR.out]), u1⟩
def faultC (dn : Bool) (Ns : List ByteArray) : Int := if dn = true then 50 else if Ns.any misN = true then 1 else 0
set_option maxHeartbeats 1000000 in
set_option maxRecDepth 20000 in
theorem fault_any (d : Dk) (v : Value) (Ns : List ByteArray) (w : World) (h : DkAt w d) (hv : SRow w v Ns) :
    Calls Tryz.prog 37 #[.pointer (some ⟨d.db, 0, none⟩), v] w fun e w' => e = .returned (.int .i64 (faultC d.down Ns)) ∧ Old w w' := by
  have HC := hid (containsN_any v Ns w hv)
  obtain ⟨⟨c0, c1, c2⟩, _⟩ := h.cells
  have hmf : ∀ (fn : Fn) (first cap : Array Value) (w : World), (Instr.makeFunc fn first cap).run Tryz.prog w = .ok (.func fn first cap) w := fun _ _ _ _ => rfl
  obtain ⟨hn, g, off, c, rfl, hc⟩ := hv
  clear hc h
  unfold faultC
  generalize d.down = dn at *
  generalize d.db = db at *
  cases dn with
  | true =>
    clear HC
    go_enter Tryz.func37, Tryz.ntmps37
    go_wp2
    go_ret
    exact ⟨rfl, Old.refl _⟩
  | false =>
    cases ha : Ns.any misN with
    | true =>
      rw [ha] at HC
      clear ha
      go_enter Tryz.func37, Tryz.ntmps37
      go_wp2_with (go_at_call 73; refine HC.out.mono ?_; rintro e w1 ⟨rfl, u1⟩)
      go_ret
      exact ⟨rfl, u1⟩
    | false =>
      rw [ha] at HC
      clear ha
      go_enter Tryz.func37, Tryz.ntmps37
      go_wp2_with (go_at_call 73; refine HC.out.mono ?_; rintro e w1 ⟨rfl, u1⟩)
      go_ret
      exact ⟨rfl, u1⟩
/-- What a step's beginning makes of a disk. -/
def Dk.stepd (d : Dk) : Dk := { d with down := d.down || decide (d.fail = 1), fail := max 0 (d.fail - 1) }
set_option maxHeartbeats 1000000 in
set_option maxRecDepth 20000 in
theorem step_any (d : Dk) (v : Value) (Ns : List ByteArray) (w : World) (h : DkAt w d) (hv : SRow w v Ns) (hg : ∀ g, v.ownBlock = some g → ¬ d.inB g) :
    Calls Tryz.prog 75 #[.pointer (some ⟨d.db, 0, none⟩), v] w fun e w' => e = .returned (.int .i64 (faultC d.stepd.down Ns)) ∧ DkAt w' d.stepd ∧ Mv w d w' d.stepd := by
  have hfl := h.fl
  have HD := hid h
  have HV := hid hv
  obtain ⟨⟨c0, c1, c2⟩, hfz⟩ := h.cells
  have f1 := hfz 1
  have f2 := hfz 2
  have HG := hid (show ∀ g off n c, v = .slice (some ⟨g, off, none⟩) n c → g ≠ d.db from fun g off n c e z => hg g (by rw [e]; rfl) (.inl z))
  obtain ⟨hn, g, off, c, rfl, hc⟩ := hv
  clear h hc hfz hg
  have lw : IntKind.i64.wrap (d.fail - 1) = d.fail - 1 := IntWalk.i64_in _ (by omega)
  have HS := hid (fun (W : World) (u : Chg [d.db] w W) => show SRow W (.slice (some ⟨g, off, none⟩) Ns.length c) Ns from ⟨hn, g, off, c, rfl, fun i hi => by
    obtain ⟨_, g', off', c', e, q⟩ := HV.out
    cases e
    exact u.cell (q i hi) (fun z => HG.out g off _ _ rfl (by simpa using z))⟩)
  by_cases hf : d.fail = 1
  · have k1 : (d.fail == 1) = true := by rw [hf]; rfl
    have hst : d.stepd = { d with down := true, fail := 0 } := by unfold Dk.stepd; rw [hf]; simp
    rw [hst]
    have hmx : max (0 : Int) (d.fail - 1) = 0 := by omega
    have HW := hid (show DkAt ((w.setCell ⟨d.db, 1, none⟩ (.bool true)).setCell ⟨d.db, 2, none⟩ (.int .i64 0)) { d with down := true, fail := 0 } ∧ Mv w d ((w.setCell ⟨d.db, 1, none⟩ (.bool true)).setCell ⟨d.db, 2, none⟩ (.int .i64 0)) { d with down := true, fail := 0 } from HD.out.cell true 0 ⟨by omega, by omega⟩ ((Chg.set w ⟨d.db, 1, none⟩ (.bool true) (by simp)).trans (Chg.set _ ⟨d.db, 2, none⟩ (.int .i64 0) (by simp))) (by
      rw [Go.Joins.block_setCell (Go.Joins.block_setCell HD.out.disk _)]
      rfl))
    have HU := hid (show Chg [d.db] w ((w.setCell ⟨d.db, 1, none⟩ (.bool true)).setCell ⟨d.db, 2, none⟩ (.int .i64 0)) from (Chg.set w ⟨d.db, 1, none⟩ (.bool true) (by simp)).trans (Chg.set _ ⟨d.db, 2, none⟩ (.int .i64 0) (by simp)))
    have HF := hid (fault_any { d with down := true, fail := 0 } _ Ns _ HW.out.1 (HS.out _ HU.out))
    have c2' : (w.setCell ⟨d.db, 1, none⟩ (.bool true)).cell? ⟨d.db, 2, none⟩ = some (.int .i64 d.fail) := by
      rw [World.cell?_setCell_other _ _ _ _ (by intro q; cases q)]; exact c2
    have f2' : (w.setCell ⟨d.db, 1, none⟩ (.bool true)).frozen? ⟨d.db, 2, none⟩ = false := by rw [World.frozen?_setCell]; exact f2
    clear HS HD HV HG hst
    go_enter Tryz.func75, Tryz.ntmps75
    go_wp2_with (go_at_call 37; refine HF.out.mono ?_; rintro e w1 ⟨rfl, u1⟩; have U1 := hid u1; clear u1)
    go_ret
    exact ⟨rfl, HW.out.1.old U1.out, HW.out.2.trans (Mv.old U1.out)⟩
  · have k1 : (d.fail == 1) = false := by rw [beq_eq_false_iff_ne]; exact hf
    obtain ⟨f', hf'⟩ : ∃ f', f' = max 0 (d.fail - 1) := ⟨_, rfl⟩
    have hst : d.stepd = { d with down := d.down, fail := f' } := by unfold Dk.stepd; rw [hf']; simp [hf]
    rw [hst]
    have hmx : max (0 : Int) (d.fail - 1) = f' := hf'.symm
    have HW := hid (HD.out.cell d.down f' ⟨by omega, by omega⟩ (Chg.set w ⟨d.db, 2, none⟩ (.int .i64 f') (by simp)) (by
      rw [Go.Joins.block_setCell HD.out.disk]
      rfl))
    have HU := hid (show Chg [d.db] w (w.setCell ⟨d.db, 2, none⟩ (.int .i64 f')) from Chg.set w ⟨d.db, 2, none⟩ (.int .i64 f') (by simp))
    have HF := hid (fault_any { d with down := d.down, fail := f' } _ Ns _ HW.out.1 (HS.out _ HU.out))
    clear HS HD HV HG hst hf'
    go_enter Tryz.func75, Tryz.ntmps75
    go_wp2_with (go_at_call 37; refine HF.out.mono ?_; rintro e w1 ⟨rfl, u1⟩; have U1 := hid u1; clear u1)
    go_ret
    exact ⟨rfl, HW.out.1.old U1.out, HW.out.2.trans (Mv.old U1.out)⟩
end Go.Proofs.YtfphopleniidfaaGreatDoor
