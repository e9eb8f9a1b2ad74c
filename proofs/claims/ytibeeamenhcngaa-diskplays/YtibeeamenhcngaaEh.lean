/- Facts of plain disks for the law DiskKeeps: a loss of power with all loose sectors kept, or none; plain. -/
import Derived.Test.YtibeeamenhcngaaEg
namespace Go.Proofs.Ytibeeamenhcngaa
open Go.RowKit Go.Lib
set_option linter.unusedVariables false
set_option linter.unusedSimpArgs false
set_option maxRecDepth 20000
theorem all_same (now safe : List Nat) (i : Nat) (h : sec now (32 * i) = sec safe (32 * i)) : now.take (32 * i) ++ safe.drop (32 * i) = now.take (32 * (i + 1)) ++ safe.drop (32 * (i + 1)) := by
  have e1 : now.take (32 * (i + 1)) = now.take (32 * i) ++ sec now (32 * i) := by
    unfold sec
    rw [show 32 * (i + 1) = 32 * i + 32 from by omega, List.take_add]
  have e2 : safe.drop (32 * i) = sec safe (32 * i) ++ safe.drop (32 * (i + 1)) := by
    unfold sec
    rw [show 32 * (i + 1) = 32 * i + 32 from by omega, ← List.drop_drop, List.take_append_drop]
  rw [e1, e2, h, List.append_assoc]
theorem all_step (now safe : List Nat) (i : Nat) (hs : safe.length ≤ now.length) (hi : 32 * i < now.length) : overL (now.take (32 * i) ++ safe.drop (32 * i)) (32 * i) (sec now (32 * i)) = now.take (32 * (i + 1)) ++ safe.drop (32 * (i + 1)) := by
  have e1 : now.take (32 * (i + 1)) = now.take (32 * i) ++ sec now (32 * i) := by
    unfold sec
    rw [show 32 * (i + 1) = 32 * i + 32 from by omega, List.take_add]
  have lt : (now.take (32 * i)).length = 32 * i := by rw [List.length_take]; omega
  rw [overL_eq _ _ _ (by rw [List.length_append, lt]; omega), e1, List.append_assoc]
  have f1 : (now.take (32 * i) ++ safe.drop (32 * i)).take (32 * i) = now.take (32 * i) := by
    rw [List.take_append_of_le_length (by omega), List.take_of_length_le (by omega)]
  have f2 : (now.take (32 * i) ++ safe.drop (32 * i)).drop (32 * i + (sec now (32 * i)).length) = safe.drop (32 * (i + 1)) := by
    have := sec_len now (32 * i)
    rw [List.drop_append, List.drop_of_length_le (by omega), List.nil_append, List.drop_drop, lt]
    by_cases c : 32 ≤ now.length - 32 * i
    · congr 1; omega
    · rw [List.drop_of_length_le (by omega), List.drop_of_length_le (by omega)]
  rw [f1, f2]
theorem craK_all (now safe : List Nat) (kp : List Bool) (hs : safe.length ≤ now.length) : ∀ m, 32 * m ≤ now.length + 31 → (∀ j, j < (looK now safe m).length → kp.getD j false = true) → ∀ ext, craK now (looK now safe m ++ ext) kp (looK now safe m).length safe = now.take (32 * m) ++ safe.drop (32 * m)
  | 0, _, _, ext => by simp [looK, craK]
  | m + 1, h1, h2, ext => by
    by_cases c : sec now (32 * m) = sec safe (32 * m)
    · have e : looK now safe (m + 1) = looK now safe m := by show (if _ then _ else _) = _; rw [if_pos c]
      rw [e] at h2 ⊢
      rw [craK_all now safe kp hs m (by omega) h2 ext, all_same now safe m c]
    · have e : looK now safe (m + 1) = looK now safe m ++ [32 * m] := by show (if _ then _ else _) = _; rw [if_neg c]
      rw [e] at h2 ⊢
      rw [List.length_append, List.append_assoc]
      have h3 := h2 (looK now safe m).length (by simp)
      have ih := craK_all now safe kp hs m (by omega) (fun j hj => h2 j (by simp; omega)) ([32 * m] ++ ext)
      show (if kp.getD (looK now safe m).length false = true then overL (craK now (looK now safe m ++ ([32 * m] ++ ext)) kp (looK now safe m).length safe) ((looK now safe m ++ ([32 * m] ++ ext)).getD (looK now safe m).length 0) (sec now ((looK now safe m ++ ([32 * m] ++ ext)).getD (looK now safe m).length 0)) else _) = _
      rw [if_pos h3, ih]
      have e2 : (looK now safe m ++ ([32 * m] ++ ext)).getD (looK now safe m).length 0 = 32 * m := by simp
      rw [e2]
      exact all_step now safe m hs (by omega)
def nn (x : PF) : PF := ⟨x.now, x.now⟩
theorem crash1_all (x : PF) (c : Nat) (hs : x.safe.length ≤ x.now.length) (hc : (looL x.now x.safe).length ≤ c) : crash1 x (List.replicate c true) = (nn x, List.replicate (c - (looL x.now x.safe).length) true) := by
  have e1 : min (looL x.now x.safe).length (List.replicate c true).length = (looL x.now x.safe).length := by rw [List.length_replicate]; omega
  have e2 : craK x.now (looL x.now x.safe) ((List.replicate c true).take (looL x.now x.safe).length) (looL x.now x.safe).length x.safe = x.now := by
    have := craK_all x.now x.safe ((List.replicate c true).take (looL x.now x.safe).length) hs (nSec x.now) (by unfold nSec; omega) (fun j hj => by
      have hj2 : j < (looL x.now x.safe).length := hj
      have hj3 : j < min (looL x.now x.safe).length c := by omega
      simp [List.getD_eq_getElem?_getD, List.getElem?_take, List.getElem?_replicate, hj3]) []
    rw [List.append_nil] at this
    refine Eq.trans this ?_
    rw [List.take_of_length_le (by unfold nSec; omega), List.drop_of_length_le (by unfold nSec; omega), List.append_nil]
  unfold crash1
  rw [e1, e2, List.drop_replicate]
  rfl
theorem crash1_none (x : PF) : crash1 x [] = (⟨x.safe, x.safe⟩, []) := by unfold crash1; simp [craK]
theorem getP_mem {fs : PFs} (hn : (fs.map (·.1)).Nodup) {q : ByteArray × PF} (h : q ∈ fs) : getP fs q.1 = some q.2 := by
  induction fs with
  | nil => cases h
  | cons p t ih =>
    rw [List.map_cons, List.nodup_cons] at hn
    unfold getP
    rcases List.mem_cons.1 h with e | e
    · rw [if_pos (by rw [e]), e]
    · rw [if_neg (fun c => hn.1 (by rw [c]; exact List.mem_map_of_mem e)), ih hn.2 e]
theorem mem_getP : ∀ {fs : PFs} {s : ByteArray} {x : PF}, getP fs s = some x → (s, x) ∈ fs
  | [], _, _, h => by cases h
  | p :: t, s, x, h => by
    unfold getP at h
    by_cases c : p.1 = s
    · rw [if_pos c] at h; cases h; subst c; exact List.mem_cons_self
    · rw [if_neg c] at h; exact List.mem_cons_of_mem _ (mem_getP h)
theorem loo_self (L : List Nat) : (looL L L).length = 0 := by unfold looL; rw [looK_self]; rfl
theorem looN_set {fs : PFs} (hn : (fs.map (·.1)).Nodup) {q : ByteArray × PF} (h : q ∈ fs) (n : List Nat) : looN (setP fs q.1 ⟨n, n⟩) + (looL q.2.now q.2.safe).length = looN fs := by
  induction fs with
  | nil => cases h
  | cons p t ih =>
    rw [List.map_cons, List.nodup_cons] at hn
    have e0 : ∀ (z : ByteArray × PF) (u : PFs), looN (z :: u) = (looL z.2.now z.2.safe).length + looN u := fun _ _ => rfl
    unfold setP at ih ⊢
    rw [List.map_cons, e0, e0]
    rcases List.mem_cons.1 h with e | e
    · subst e
      rw [if_pos rfl, loo_self]
      have : List.map (fun z : ByteArray × PF => if z.1 = q.1 then (z.1, (⟨n, n⟩ : PF)) else z) t = t := by
        rw [List.map_congr_left (g := id) (fun z hz => by rw [if_neg (fun c => hn.1 (by rw [← c]; exact List.mem_map_of_mem hz))]; rfl), List.map_id]
      rw [this]; omega
    · have hne : p.1 ≠ q.1 := fun c => hn.1 (by rw [c]; exact List.mem_map_of_mem e)
      rw [if_neg hne]
      have := ih hn.2 e
      omega
open Classical in
noncomputable def hT (T : List ByteArray) (q : ByteArray × PF) : ByteArray × PF := if q.1 ∈ T then (q.1, nn q.2) else q
theorem hT_fst (T : List ByteArray) (q : ByteArray × PF) : (hT T q).1 = q.1 := by unfold hT; split <;> rfl
theorem hT_now (T : List ByteArray) (q : ByteArray × PF) : (hT T q).2.now = q.2.now := by unfold hT; split <;> rfl
theorem hT_le (T : List ByteArray) (q : ByteArray × PF) (h : q.2.safe.length ≤ q.2.now.length) : (hT T q).2.safe.length ≤ (hT T q).2.now.length := by
  unfold hT
  split
  · exact Nat.le_refl _
  · exact h
theorem hT_keys (T : List ByteArray) (fs : PFs) : (fs.map (hT T)).map (·.1) = fs.map (·.1) := by
  rw [List.map_map]; exact List.map_congr_left fun q _ => hT_fst T q
theorem crS_all (fs : PFs) (hn : (fs.map (·.1)).Nodup) (hl : ∀ q ∈ fs, q.2.safe.length ≤ q.2.now.length) (S : List ByteArray) (hS : ∀ s ∈ S, s ∈ fs.map (·.1)) : ∀ j, j ≤ S.length → crS S j (fs, List.replicate (looN fs) true) = (fs.map (hT (S.take j)), List.replicate (looN (fs.map (hT (S.take j)))) true)
  | 0, _ => by
    have : fs.map (hT (S.take 0)) = fs := by rw [List.map_congr_left (g := id) (fun q _ => by simp [hT]), List.map_id]
    rw [this]; rfl
  | j + 1, h => by
    have hj : j < S.length := by omega
    show (setP (crS S j (fs, List.replicate (looN fs) true)).1 (S.getD j ByteArray.empty) (crash1 (filP (crS S j (fs, List.replicate (looN fs) true)).1 (S.getD j ByteArray.empty)) (crS S j (fs, List.replicate (looN fs) true)).2).1, (crash1 (filP (crS S j (fs, List.replicate (looN fs) true)).1 (S.getD j ByteArray.empty)) (crS S j (fs, List.replicate (looN fs) true)).2).2) = _
    rw [crS_all fs hn hl S hS j (by omega)]
    have eS : S.getD j ByteArray.empty = S[j] := by rw [List.getD_eq_getElem?_getD, List.getElem?_eq_getElem hj]; rfl
    rw [eS]
    obtain ⟨q, hq, eq⟩ := List.mem_map.1 (hS S[j] (List.getElem_mem hj))
    have hT1 : S.take (j + 1) = S.take j ++ [S[j]] := (List.take_append_getElem hj).symm
    rw [hT1]
    generalize S[j] = s at *
    generalize S.take j = T at *
    subst eq
    have hn2 : ((fs.map (hT T)).map (·.1)).Nodup := by rw [hT_keys]; exact hn
    have hm : hT T q ∈ fs.map (hT T) := List.mem_map_of_mem hq
    have hg : filP (fs.map (hT T)) q.1 = (hT T q).2 := by
      have := getP_mem hn2 hm
      rw [hT_fst] at this
      unfold filP; rw [this]; rfl
    have hN := looN_set hn2 hm (hT T q).2.now
    rw [hT_fst] at hN
    dsimp only
    rw [hg, crash1_all _ _ (hT_le T q (hl q hq)) (by omega)]
    have e1 : setP (fs.map (hT T)) q.1 (nn (hT T q).2) = fs.map (hT (T ++ [q.1])) := by
      unfold setP
      rw [List.map_map]
      apply List.map_congr_left
      intro z hz
      show (if (hT T z).1 = q.1 then ((hT T z).1, nn (hT T q).2) else hT T z) = hT (T ++ [q.1]) z
      rw [hT_fst]
      by_cases c : z.1 = q.1
      · have ez : z.2 = q.2 := by
          have a1 := getP_mem hn hz
          have a2 := getP_mem hn hq
          rw [c, a2] at a1
          exact (Option.some.inj a1).symm
        rw [if_pos c]
        unfold hT
        rw [if_pos (show z.1 ∈ T ++ [q.1] from by simp [c])]
        split <;> simp [nn, ez]
      · rw [if_neg c]
        unfold hT
        by_cases d : z.1 ∈ T
        · rw [if_pos d, if_pos (by simp [d])]
        · rw [if_neg d, if_neg (by simp [d, c])]
    have e2 : looN (setP (fs.map (hT T)) q.1 (nn (hT T q).2)) + (looL (hT T q).2.now (hT T q).2.safe).length = looN (fs.map (hT T)) := hN
    rw [e1] at e2 ⊢
    refine Prod.ext rfl ?_
    show List.replicate _ true = List.replicate _ true
    congr 1
    omega
def allN (fs : PFs) : PFs := fs.map fun q => (q.1, nn q.2)
theorem crash_all (p : PD) (S : List ByteArray) (hn : (p.fs.map (·.1)).Nodup) (hl : ∀ q ∈ p.fs, q.2.safe.length ≤ q.2.now.length) (hS : S.Perm (keysP p.fs)) : crashP p S (List.replicate (looN p.fs) true) = ⟨allN p.fs, false, 0⟩ := by
  unfold crashP
  rw [crS_all p.fs hn hl S (fun s hs => hS.mem_iff.1 hs) S.length (Nat.le_refl _), List.take_length]
  have : p.fs.map (hT S) = allN p.fs := List.map_congr_left fun q hq => by
    unfold hT
    rw [if_pos (hS.mem_iff.2 (List.mem_map_of_mem hq))]
  rw [this]
theorem allN_keys (fs : PFs) : keysP (allN fs) = keysP fs := by unfold keysP allN; rw [List.map_map]; rfl
theorem allN_loo : ∀ fs : PFs, looN (allN fs) = 0
  | [] => rfl
  | q :: t => by
    show (looL q.2.now q.2.now).length + looN (allN t) = 0
    rw [loo_self, allN_loo t]
theorem allN_get : ∀ (fs : PFs) (s : ByteArray), getP (allN fs) s = (getP fs s).map nn
  | [], s => rfl
  | q :: t, s => by
    show getP ((q.1, nn q.2) :: allN t) s = _
    unfold getP
    by_cases c : q.1 = s
    · rw [if_pos c, if_pos c]; rfl
    · rw [if_neg c, if_neg c, allN_get t s]
theorem allN_read (p : PD) (s : ByteArray) (hd : p.down = false) : readL ⟨allN p.fs, false, 0⟩ s = readL p s := by
  have e1 : readC ⟨allN p.fs, false, 0⟩ s = readC p s := by
    unfold readC
    dsimp only
    rw [hd, allN_get]
    cases getP p.fs s <;> rfl
  unfold readL
  rw [e1]
  unfold fileAt
  dsimp only
  rw [allN_get]
  cases getP p.fs s <;> rfl
/-- What the steps keep. -/
def KN (p : PD) : Prop := p.down = false ∧ p.fail = 0 ∧ ∀ q ∈ p.fs, q.2.safe.length ≤ q.2.now.length
theorem KN.zero : KN pd0 := ⟨rfl, rfl, fun q h => by cases h⟩
theorem KN.stepd {p : PD} (h : KN p) : p.stepd = p := by
  obtain ⟨fs, dn, fl⟩ := p
  obtain ⟨h1, h2, _⟩ := h
  dsimp only at h1 h2
  subst h1 h2
  rfl
theorem KN.fs {p : PD} (h : KN p) (gs : PFs) (hg : ∀ q ∈ gs, q.2.safe.length ≤ q.2.now.length) : KN { p with fs := gs } := ⟨h.1, h.2.1, hg⟩
theorem KN.at {p : PD} (h : KN p) (s : ByteArray) : (fileAt p s).safe.length ≤ (fileAt p s).now.length := by
  unfold fileAt
  cases e : getP p.fs s with
  | none => exact Nat.le_refl _
  | some x => exact h.2.2 _ (mem_getP e)
theorem KN.set {p : PD} (h : KN p) (s : ByteArray) (x : PF) (hx : x.safe.length ≤ x.now.length) : KN { p with fs := setP p.fs s x } := h.fs _ fun q hq => by
  obtain ⟨z, hz, e⟩ := List.mem_map.1 hq
  by_cases c : z.1 = s
  · rw [if_pos c] at e; subst e; exact hx
  · rw [if_neg c] at e; subst e; exact h.2.2 z hz
theorem putP_mem : ∀ {fs : PFs} {s : ByteArray} {x : PF} {q : ByteArray × PF}, q ∈ putP fs s x → q = (s, x) ∨ q ∈ fs
  | [], s, x, q, h => by simp [putP] at h; exact .inl h
  | p :: t, s, x, q, h => by
    unfold putP at h
    by_cases c : p.1 = s
    · rw [if_pos c] at h
      rcases List.mem_cons.1 h with e | e
      · exact .inl e
      · exact .inr (List.mem_cons_of_mem _ e)
    · rw [if_neg c] at h
      rcases List.mem_cons.1 h with e | e
      · exact .inr (by rw [e]; exact List.mem_cons_self)
      · rcases putP_mem e with z | z
        · exact .inl z
        · exact .inr (List.mem_cons_of_mem _ z)
theorem KN.step {p : PD} (h : KN p) (o : Opd) : KN (stepP p o) := by
  unfold stepP
  split
  · unfold createP; split
    · rw [h.stepd]; exact h.fs _ fun q hq => by
        rcases List.mem_append.1 hq with z | z
        · exact h.2.2 q z
        · rw [List.mem_singleton.1 z]; exact Nat.le_refl _
    · rw [h.stepd]; exact h
  · split
    · unfold removeP; split
      · rw [h.stepd]; exact h.fs _ fun q hq => h.2.2 q (List.mem_filter.1 hq).1
      · rw [h.stepd]; exact h
    · split
      · unfold renameP; split
        · rw [h.stepd]; exact h.fs _ fun q hq => by
            rcases putP_mem hq with z | z
            · rw [z]; exact h.at _
            · exact h.2.2 q (List.mem_filter.1 z).1
        · rw [h.stepd]; exact h
      · split
        · unfold writeP; split
          · rw [h.stepd]; exact h.set _ _ (by have := h.at o.a; rw [overL_len]; dsimp only; omega)
          · rw [h.stepd]; exact h
        · split
          · unfold cutP; split
            · rw [h.stepd]; exact h.set _ _ (by have := h.at o.a; simp only [List.length_take]; omega)
            · rw [h.stepd]; exact h
          · unfold syncP; split
            · rw [h.stepd]; exact h.set _ _ (Nat.le_refl _)
            · rw [h.stepd]; exact h
/-- A file that is synced, and written again; nothing of that is kept. -/
theorem fault_off {d : Bool} {Ns : List ByteArray} (h : faultC d Ns = 0) : faultC false Ns = 0 := by
  cases d
  · exact h
  · exact absurd h (by unfold faultC; simp)
theorem crS_none (S : List ByteArray) (s : ByteArray) (L : List Nat) (fs : PFs) (h : ∃ y, getP fs s = some ⟨y, L⟩) : ∀ j, ∃ y, getP (crS S j (fs, [])).1 s = some ⟨y, L⟩ ∧ (crS S j (fs, [])).2 = [] ∧ (s ∈ S.take j → y = L)
  | 0 => by obtain ⟨y, e⟩ := h; exact ⟨y, e, rfl, fun z => by simp at z⟩
  | j + 1 => by
    obtain ⟨y, e1, e2, e3⟩ := crS_none S s L fs h j
    show ∃ y, getP (setP (crS S j (fs, [])).1 (S.getD j ByteArray.empty) (crash1 (filP (crS S j (fs, [])).1 (S.getD j ByteArray.empty)) (crS S j (fs, [])).2).1) s = some ⟨y, L⟩ ∧ (crash1 (filP (crS S j (fs, [])).1 (S.getD j ByteArray.empty)) (crS S j (fs, [])).2).2 = [] ∧ _
    rw [e2, crash1_none]
    dsimp only
    by_cases c : S.getD j ByteArray.empty = s
    · refine ⟨L, ?_, rfl, fun _ => rfl⟩
      rw [c, getP_set_self _ _ _ _ e1]
      unfold filP; rw [e1]; rfl
    · refine ⟨y, by rw [getP_set _ _ _ _ (Ne.symm c)]; exact e1, rfl, fun z => ?_⟩
      by_cases hj : j < S.length
      · rw [(List.take_append_getElem hj).symm] at z
        rcases List.mem_append.1 z with q | q
        · exact e3 q
        · refine absurd ?_ c
          rw [List.getD_eq_getElem?_getD, List.getElem?_eq_getElem hj]
          exact (List.mem_singleton.1 q).symm
      · rw [List.take_of_length_le (by omega)] at z
        exact e3 (by rw [List.take_of_length_le (by omega)]; exact z)
theorem setP_keys (fs : PFs) (s : ByteArray) (x : PF) : keysP (setP fs s x) = keysP fs := by
  unfold keysP setP
  rw [List.map_map]
  exact List.map_congr_left fun q _ => by show (if q.1 = s then (q.1, x) else q).1 = q.1; split <;> rfl
theorem keeps_end (p : PD) (s : ByteArray) (n : Int) (M : List Nat) (hc : syncC p s = 0) : readC (syncP p s) s = 0 ∧ ∀ S : List ByteArray, S.Perm (keysP (writeP (syncP p s) s n M).fs) → readC (crashP (writeP (syncP p s) s n M) S []) s = 0 ∧ readL (crashP (writeP (syncP p s) s n M) S []) s = readL (syncP p s) s := by
  have ho : onE p [s] = 0 := hc
  have hf : faultC p.stepd.down [s] = 0 := by
    unfold onE at ho
    split at ho
    · assumption
    · exact absurd ho (by assumption)
  obtain ⟨x, hx⟩ : ∃ x, getP p.fs s = some x := by
    unfold onE at ho
    rw [if_pos hf] at ho
    cases e : getP p.fs s with
    | some x => exact ⟨x, rfl⟩
    | none => exact absurd ho (by rw [show [s].getD 0 ByteArray.empty = s from rfl, e]; decide)
  have e3 : syncP p s = { p.stepd with fs := setP p.fs s ⟨x.now, x.now⟩ } := by
    unfold syncP
    rw [if_pos hc]
    unfold fileAt
    rw [hx]; rfl
  have g3 : getP (syncP p s).fs s = some ⟨x.now, x.now⟩ := by rw [e3]; exact getP_set_self _ _ _ _ hx
  have c3 : readC (syncP p s) s = 0 := by
    unfold readC
    rw [g3, e3]
    dsimp only
    rw [if_pos hf]
  have l3 : readL (syncP p s) s = x.now := by
    unfold readL fileAt
    rw [if_pos c3, g3]; rfl
  refine ⟨c3, fun S hS => ?_⟩
  rw [l3]
  generalize syncP p s = q at *
  have g4 : ∃ y, getP (writeP q s n M).fs s = some ⟨y, x.now⟩ := by
    unfold writeP
    split
    · refine ⟨overL (fileAt q s).now n.toNat M, ?_⟩
      show getP (setP q.fs s _) s = _
      rw [getP_set_self _ _ _ _ g3]
      unfold fileAt
      rw [g3]; rfl
    · exact ⟨x.now, g3⟩
  have hm : s ∈ S := hS.mem_iff.2 (by obtain ⟨y, e⟩ := g4; exact List.mem_map_of_mem (mem_getP e))
  obtain ⟨y, e1, e2, e5⟩ := crS_none S s x.now _ g4 S.length
  rw [e5 (by rw [List.take_length]; exact hm)] at e1
  have c5 : readC (crashP (writeP q s n M) S []) s = 0 := by
    unfold readC crashP
    dsimp only
    rw [if_pos (fault_off hf), e1]
  refine ⟨c5, ?_⟩
  unfold readL fileAt
  rw [if_pos c5]
  unfold crashP
  dsimp only
  rw [e1]; rfl
end Go.Proofs.Ytibeeamenhcngaa
