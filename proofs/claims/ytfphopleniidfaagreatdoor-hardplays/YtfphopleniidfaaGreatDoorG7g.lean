/- A loss of power, and Open behind it; plain. -/
import Derived.Test.YtfphopleniidfaaGreatDoorG7f
namespace Go.Proofs.YtfphopleniidfaaGreatDoor
open Go.RowKit Go.Lib
set_option linter.unusedVariables false
set_option linter.unusedSimpArgs false
set_option maxRecDepth 20000
theorem looK_self (L : List Nat) : ∀ i, looK L L i = []
  | 0 => rfl
  | i + 1 => by rw [looK, if_pos rfl]; exact looK_self L i
theorem getP_del (fs : PFs) (s u : ByteArray) (h : u ≠ s) : getP (delP fs s) u = getP fs u := by
  induction fs with
  | nil => rfl
  | cons q t ih =>
    unfold delP at ih ⊢
    rw [List.filter_cons]
    by_cases c : q.1 = s
    · rw [if_neg (by simp [c]), ih]
      conv => rhs; unfold getP
      rw [if_neg (fun e => h (by rw [← e, c]))]
    · rw [if_pos (by simp [c])]
      unfold getP
      by_cases c2 : q.1 = u
      · rw [if_pos c2, if_pos c2]
      · rw [if_neg c2, if_neg c2, ih]
theorem getP_set (fs : PFs) (s u : ByteArray) (x : PF) (h : u ≠ s) : getP (setP fs s x) u = getP fs u := by
  induction fs with
  | nil => rfl
  | cons q t ih =>
    unfold setP at ih ⊢
    rw [List.map_cons]
    unfold getP
    by_cases c : q.1 = s
    · rw [if_pos c, if_neg (fun e => h (by rw [← e, c])), if_neg (fun e => h (by rw [← e, c])), ih]
    · rw [if_neg c]
      by_cases c2 : q.1 = u
      · rw [if_pos c2, if_pos c2]
      · rw [if_neg c2, if_neg c2, ih]
theorem getP_set_self (fs : PFs) (s : ByteArray) (x y : PF) : getP fs s = some y → getP (setP fs s x) s = some x := by
  induction fs with
  | nil => intro h; cases h
  | cons q t ih =>
    intro h
    unfold setP at ih ⊢
    rw [List.map_cons]
    unfold getP at h ⊢
    by_cases c : q.1 = s
    · rw [if_pos c, if_pos c]
    · rw [if_neg c] at h ⊢
      rw [if_neg c]
      exact ih h
theorem crash1_self (L : List Nat) (kp : List Bool) : (crash1 ⟨L, L⟩ kp).1 = ⟨L, L⟩ := by
  have e : looL L L = [] := by unfold looL; exact looK_self L _
  unfold crash1
  simp [e, craK]
theorem setP_keys (fs : PFs) (s : ByteArray) (x : PF) : keysP (setP fs s x) = keysP fs := by
  unfold keysP setP
  rw [List.map_map]
  exact List.map_congr_left fun q _ => by show (if q.1 = s then (q.1, x) else q).1 = q.1; split <;> rfl
theorem getP_mem {fs : PFs} (hn : (fs.map (·.1)).Nodup) {q : ByteArray × PF} (h : q ∈ fs) : getP fs q.1 = some q.2 := by
  induction fs with
  | nil => cases h
  | cons p t ih =>
    rw [List.map_cons, List.nodup_cons] at hn
    unfold getP
    rcases List.mem_cons.1 h with e | e
    · rw [if_pos (by rw [e]), e]
    · rw [if_neg (fun c => hn.1 (by rw [c]; exact List.mem_map_of_mem e)), ih hn.2 e]
theorem crS_get (S : List ByteArray) (s : ByteArray) (L : List Nat) (x : PFs × List Bool) (h : getP x.1 s = some ⟨L, L⟩) : ∀ j, getP (crS S j x).1 s = some ⟨L, L⟩
  | 0 => h
  | j + 1 => by
    have ih := crS_get S s L x h j
    unfold crS
    by_cases c : S.getD j ByteArray.empty = s
    · rw [c]
      have e : filP (crS S j x).1 s = ⟨L, L⟩ := by unfold filP; rw [ih]; rfl
      rw [e, crash1_self]
      exact getP_set_self _ _ _ _ ih
    · rw [getP_set _ _ _ _ (Ne.symm c)]; exact ih
theorem keys_getP {fs : PFs} {s : ByteArray} : getP fs s = none ↔ s ∉ keysP fs := by
  constructor
  · intro h hm
    obtain ⟨q, hq, e⟩ := List.mem_map.1 hm
    exact getP_of_none h q hq e
  · intro h
    exact getP_none fun q hq e => h (List.mem_map.2 ⟨q, hq, e⟩)
theorem crS_keys (S : List ByteArray) (x : PFs × List Bool) : ∀ j, keysP (crS S j x).1 = keysP x.1
  | 0 => rfl
  | j + 1 => by
    unfold crS
    rw [setP_keys, crS_keys S x j]
theorem crash1_eq (x : PF) (kp : List Bool) : ∃ y, (crash1 x kp).1 = ⟨y, y⟩ := ⟨_, rfl⟩
theorem crS_done (S : List ByteArray) (s : ByteArray) (x : PFs × List Bool) (h : s ∈ keysP x.1) : ∀ j, s ∈ S.take j → ∃ y, getP (crS S j x).1 s = some ⟨y, y⟩
  | 0, hm => by simp at hm
  | j + 1, hm => by
    have hk : s ∈ keysP (crS S j x).1 := by rw [crS_keys]; exact h
    unfold crS
    by_cases c : S.getD j ByteArray.empty = s
    · rw [c]
      cases e : getP (crS S j x).1 s with
      | none => exact absurd hk (keys_getP.1 e)
      | some z =>
        obtain ⟨y, hy⟩ := crash1_eq (filP (crS S j x).1 s) (crS S j x).2
        rw [hy]
        exact ⟨y, getP_set_self _ _ _ _ e⟩
    · rw [getP_set _ _ _ _ (Ne.symm c)]
      refine crS_done S s x h j ?_
      rw [List.take_add_one] at hm
      rcases List.mem_append.1 hm with z | z
      · exact z
      · exfalso
        apply c
        rw [List.getD_eq_getElem?_getD]
        cases e : S[j]? with
        | none => rw [e] at z; simp at z
        | some q => rw [e] at z; simp at z; rw [z]; rfl
def nowOf (o : Option PF) : List Nat := match o with | some x => x.now | none => []
theorem op_ok (q : PD) (hd : q.down = false) (hf : q.fail = 0) : opE q = 0 ∧ (opP q).down = false ∧ (opP q).fail = 0 ∧ getP (opP q).fs sH = getP q.fs sH ∧ keysP (opP q).fs = (keysP q.fs).filter (fun s => decide (s ≠ sT)) ∧ opV q = rdP (nowOf (getP q.fs sH)) := by
  have sd : q.stepd = q := by
    obtain ⟨fs, d, f⟩ := q
    simp at hd hf
    subst hd hf
    rfl
  have key : (hasS (keysP q.fs) sT = true → removeC q sT = 0) ∧ (opP q).down = false ∧ (opP q).fail = 0 ∧ getP (opP q).fs sH = getP q.fs sH ∧ keysP (opP q).fs = (keysP q.fs).filter (fun s => decide (s ≠ sT)) := by
    by_cases hs : sT ∈ keysP q.fs
    · have hso : (getP q.fs sT).isSome = true := by
        cases e : getP q.fs sT with
        | none => exact absurd hs (keys_getP.1 e)
        | some x => rfl
      have hc : removeC q sT = 0 := by
        unfold removeC
        rw [onE1, sd, hd, mT, hso]
        simp
      have hp : opP q = { q with fs := delP q.fs sT } := by
        unfold opP
        rw [if_pos (hasS_true hs)]
        unfold removeP
        rw [if_pos hc, sd]
      refine ⟨fun _ => hc, ?_⟩
      rw [hp]
      refine ⟨hd, hf, getP_del _ _ _ (Ne.symm ne_TH), ?_⟩
      unfold keysP delP
      rw [List.filter_map]
      rfl
    · have hp : opP q = q := by
        unfold opP
        rw [if_neg (by rw [hasS_false hs]; decide)]
      refine ⟨fun h => (by rw [hasS_false hs] at h; cases h), ?_⟩
      rw [hp]
      exact ⟨hd, hf, rfl, (List.filter_eq_self.2 fun s h => by simpa using fun e : s = sT => hs (e ▸ h)).symm⟩
  obtain ⟨k1, k2, k3, k4, k5⟩ := key
  have rc : readC (opP q) sH = if (getP q.fs sH).isSome = true then 0 else 4 := by
    rw [readC1, k2, mH, k4]
    simp
  refine ⟨?_, k2, k3, k4, k5, ?_⟩
  · unfold opE
    rw [if_neg (fun h => h.2 (k1 h.1)), rc, if_neg]
    split <;> simp
  · unfold opV readL
    rw [rc]
    unfold fileAt nowOf
    rw [k4]
    cases getP q.fs sH <;> simp
theorem crash_op (p : PD) (S : List ByteArray) (kp : List Bool) : (crashP p S kp).down = false ∧ (crashP p S kp).fail = 0 ∧ keysP (crashP p S kp).fs = keysP p.fs := ⟨rfl, rfl, crS_keys S (p.fs, kp) _⟩
theorem crash_get (p : PD) (S : List ByteArray) (kp : List Bool) (s : ByteArray) (L : List Nat) (h : getP p.fs s = some ⟨L, L⟩) : getP (crashP p S kp).fs s = some ⟨L, L⟩ := crS_get S s L (p.fs, kp) h _
theorem crash_no (p : PD) (S : List ByteArray) (kp : List Bool) (s : ByteArray) (h : getP p.fs s = none) : getP (crashP p S kp).fs s = none := by
  rw [keys_getP] at h ⊢
  rw [(crash_op p S kp).2.2]
  exact h
theorem crash_some (p : PD) (S : List ByteArray) (kp : List Bool) (s : ByteArray) (h : s ∈ keysP p.fs) (hS : S.Perm (keysP p.fs)) : ∃ y, getP (crashP p S kp).fs s = some ⟨y, y⟩ := crS_done S s (p.fs, kp) h S.length (by rw [List.take_length]; exact hS.mem_iff.2 h)
end Go.Proofs.YtfphopleniidfaaGreatDoor
