/- The law DiskApart's walk; no condition. -/
import Derived.Test.YtibeeamenhcngaaEe
namespace Go.Proofs.Ytibeeamenhcngaa
open Go.RowKit Go.Lib Go.ChangeShapes Go.WideShapes
set_option linter.unusedVariables false
set_option linter.unusedSimpArgs false
set_option maxRecDepth 20000
theorem getP_app (fs gs : PFs) (s : ByteArray) (x : PF) : getP fs s = some x → getP (fs ++ gs) s = some x := by
  induction fs with
  | nil => intro h; cases h
  | cons q t ih =>
    intro h
    rw [List.cons_append]
    unfold getP at h ⊢
    by_cases c : q.1 = s
    · rw [if_pos c] at h ⊢; exact h
    · rw [if_neg c] at h ⊢; exact ih h
theorem getP_del (fs : PFs) (s u : ByteArray) (h : u ≠ s) : getP (delP fs s) u = getP fs u := by
  induction fs with
  | nil => rfl
  | cons q t ih =>
    unfold delP at ih ⊢
    rw [List.filter_cons]
    by_cases c : q.1 = s
    · rw [if_neg (by simp [c]), ih]
      conv => rhs; unfold getP
      rw [if_neg (fun e => h (by rw [← e, c]))]
    · rw [if_pos (by simp [c])]
      unfold getP
      by_cases c2 : q.1 = u
      · rw [if_pos c2, if_pos c2]
      · rw [if_neg c2, if_neg c2, ih]
theorem getP_put (fs : PFs) (s u : ByteArray) (x : PF) (h : u ≠ s) : getP (putP fs s x) u = getP fs u := by
  induction fs with
  | nil => simp [putP, getP, Ne.symm h]
  | cons q t ih =>
    unfold putP
    by_cases c : q.1 = s
    · rw [if_pos c]
      unfold getP
      rw [if_neg (Ne.symm h), if_neg (fun e => h (by rw [← e, c]))]
    · rw [if_neg c]
      unfold getP
      by_cases c2 : q.1 = u
      · rw [if_pos c2, if_pos c2]
      · rw [if_neg c2, if_neg c2, ih]
theorem getP_set (fs : PFs) (s u : ByteArray) (x : PF) (h : u ≠ s) : getP (setP fs s x) u = getP fs u := by
  induction fs with
  | nil => rfl
  | cons q t ih =>
    unfold setP at ih ⊢
    rw [List.map_cons]
    unfold getP
    by_cases c : q.1 = s
    · rw [if_pos c, if_neg (fun e => h (by rw [← e, c])), if_neg (fun e => h (by rw [← e, c])), ih]
    · rw [if_neg c]
      by_cases c2 : q.1 = u
      · rw [if_pos c2, if_pos c2]
      · rw [if_neg c2, if_neg c2, ih]
theorem getP_set_self (fs : PFs) (s : ByteArray) (x y : PF) : getP fs s = some y → getP (setP fs s x) s = some x := by
  induction fs with
  | nil => intro h; cases h
  | cons q t ih =>
    intro h
    unfold setP at ih ⊢
    rw [List.map_cons]
    unfold getP at h ⊢
    by_cases c : q.1 = s
    · rw [if_pos c, if_pos c]
    · rw [if_neg c] at h ⊢
      rw [if_neg c]
      exact ih h
def sK : ByteArray := ⟨#[107, 101, 112, 116]⟩
theorem sK_list : sK.toList = [107, 101, 112, 116] := by kernel_rfl
theorem misK : [sK].any misN = false := by kernel_rfl
def KP (L : List Nat) (p : PD) : Prop := getP p.fs sK = some ⟨L, L⟩ ∧ p.down = false ∧ p.fail = 0
theorem KP.stepd {L : List Nat} {p : PD} (h : KP L p) : p.stepd = p := by
  obtain ⟨fs, dn, fl⟩ := p
  obtain ⟨h1, h2, h3⟩ := h
  dsimp only at h2 h3
  subst h2 h3
  rfl
theorem KP.fs {L : List Nat} {p : PD} (h : KP L p) (gs : PFs) (hg : getP gs sK = some ⟨L, L⟩) : KP L { p with fs := gs } := ⟨hg, h.2.1, h.2.2⟩
theorem KP.step {L : List Nat} {p : PD} (h : KP L p) (o : Opd) (ha : o.a ≠ sK) (hz : o.k = 3 → o.z ≠ sK) : KP L (stepP p o) := by
  unfold stepP
  split
  · unfold createP; split
    · rw [h.stepd]; exact h.fs _ (getP_app _ _ _ _ h.1)
    · rw [h.stepd]; exact h
  · split
    · unfold removeP; split
      · rw [h.stepd]; exact h.fs _ (by rw [getP_del _ _ _ ha.symm]; exact h.1)
      · rw [h.stepd]; exact h
    · split
      · rename_i c3
        unfold renameP; split
        · rw [h.stepd]; exact h.fs _ (by rw [getP_put _ _ _ _ (hz c3).symm, getP_del _ _ _ ha.symm]; exact h.1)
        · rw [h.stepd]; exact h
      · split
        · unfold writeP; split
          · rw [h.stepd]; exact h.fs _ (by rw [getP_set _ _ _ _ ha.symm]; exact h.1)
          · rw [h.stepd]; exact h
        · split
          · unfold cutP; split
            · rw [h.stepd]; exact h.fs _ (by rw [getP_set _ _ _ _ ha.symm]; exact h.1)
            · rw [h.stepd]; exact h
          · unfold syncP; split
            · rw [h.stepd]; exact h.fs _ (by rw [getP_set _ _ _ _ ha.symm]; exact h.1)
            · rw [h.stepd]; exact h
theorem crash1_self (L : List Nat) (kp : List Bool) : (crash1 ⟨L, L⟩ kp).1 = ⟨L, L⟩ := by
  have e : looL L L = [] := by unfold looL; exact looK_self L _
  unfold crash1
  simp [e, craK]
theorem crS_keeps (S : List ByteArray) (L : List Nat) (x : PFs × List Bool) (h : getP x.1 sK = some ⟨L, L⟩) : ∀ j, getP (crS S j x).1 sK = some ⟨L, L⟩
  | 0 => h
  | j + 1 => by
    have ih := crS_keeps S L x h j
    show getP (setP (crS S j x).1 (S.getD j ByteArray.empty) (crash1 (filP (crS S j x).1 (S.getD j ByteArray.empty)) (crS S j x).2).1) sK = _
    by_cases c : S.getD j ByteArray.empty = sK
    · rw [c, getP_set_self _ _ _ _ ih]
      have e : filP (crS S j x).1 sK = ⟨L, L⟩ := by unfold filP; rw [ih]; rfl
      rw [e, crash1_self]
    · rw [getP_set _ _ _ _ (Ne.symm c)]; exact ih
theorem KP.crash {L : List Nat} {p : PD} (h : KP L p) (S : List ByteArray) (kp : List Bool) : KP L (crashP p S kp) := ⟨crS_keeps S L (p.fs, kp) h.1 _, rfl, rfl⟩
theorem KP.read {L : List Nat} {p : PD} (h : KP L p) : readC p sK = 0 ∧ readL p sK = L := by
  have c : readC p sK = 0 := by
    unfold readC faultC
    rw [h.2.1, misK, h.1]
    rfl
  refine ⟨c, ?_⟩
  unfold readL fileAt
  rw [if_pos c, h.1]
  rfl
theorem k_create : createP pd0 sK = qn sK [] := by kernel_rfl
theorem k_write (L : List Nat) (h : L.length ≤ 1000) : writeP (qn sK []) sK 0 L = qn sK L := by
  have c : writeC (qn sK []) sK 0 L = 0 := by
    unfold writeC
    rw [qn_on sK [] misK, if_pos rfl, qn_at, if_neg (by simp [beyB]), if_neg (by omega)]
  unfold writeP
  rw [if_pos c, qn_at, qn_down]
  show PD.mk (setP (qn sK []).fs sK ⟨overL [] 0 L, []⟩) false 0 = _
  rw [over0 [] L (.inl rfl)]
  simp [qn, setP]
theorem k_sync (L : List Nat) : KP L (syncP (qn sK L) sK) := by
  have c : syncC (qn sK L) sK = 0 := by unfold syncC; exact qn_on sK L misK
  unfold syncP
  rw [if_pos c, qn_at, qn_down]
  exact ⟨by simp [qn, setP, getP], rfl, rfl⟩

end Go.Proofs.Ytibeeamenhcngaa
