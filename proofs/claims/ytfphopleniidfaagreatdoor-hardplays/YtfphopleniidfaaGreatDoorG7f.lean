/- Save, a loss of power and Open; plain. -/
import Derived.Test.YtfphopleniidfaaGreatDoorG7e
namespace Go.Proofs.YtfphopleniidfaaGreatDoor
open Go.RowKit Go.Lib
set_option linter.unusedVariables false
set_option linter.unusedSimpArgs false
set_option maxRecDepth 20000
theorem run_congr (x y : Nat → Nat) : ∀ k, (∀ i, i < k → x i = y i) → Crc.run x k = Crc.run y k
  | 0, _ => rfl
  | k + 1, h => by
    show Crc.step (Crc.run x k) (x k) = Crc.step (Crc.run y k) (y k)
    rw [run_congr x y k (fun i hi => h i (by omega)), h k (by omega)]
theorem fr_drop (M : List Nat) : (frB M).drop 8 = M := by
  apply List.ext_getElem?
  intro i
  rw [List.getElem?_drop]
  by_cases h : i < M.length
  · unfold frB
    rw [List.getElem?_map, List.getElem?_range (by omega), List.getElem?_eq_getElem h]
    show some (Pk.frm _ _ _ (8 + i)) = _
    unfold Pk.frm
    rw [if_neg (by omega), if_neg (by omega), show 8 + i - 8 = i by omega, gd_at M i h]
  · rw [List.getElem?_eq_none (by rw [frB_len]; omega), List.getElem?_eq_none (by omega)]
theorem fr_unf (M : List Nat) (h : M.length ≤ 4096) : Pk.unfE (frB M).length (gd (frB M)) = 0 ∧ Pk.w32 (gd (frB M)) = M.length := by
  have hy := frB_gd M
  have h4 : Pk.w32 (gd (frB M)) = M.length := by
    have e : ∀ i, i < 4 → gd (frB M) i = Pk.wd M.length i := fun i hi => by rw [hy i (by omega)]; unfold Pk.frm; rw [if_pos hi]
    have q := Pk.w32_wd M.length (by omega)
    unfold Pk.w32 at q ⊢
    rw [e 0 (by omega), e 1 (by omega), e 2 (by omega), e 3 (by omega)]
    exact q
  have h8 : Pk.w32 (Pk.sh 4 (gd (frB M))) = Crc.sum (gd M) M.length := by
    have e : ∀ i, i < 4 → Pk.sh 4 (gd (frB M)) i = Pk.wd (Crc.sum (gd M) M.length) i := fun i hi => by unfold Pk.sh; rw [hy (4 + i) (by omega)]; unfold Pk.frm; rw [if_neg (by omega), if_pos (by omega), show 4 + i - 4 = i by omega]
    have q := Pk.w32_wd (Crc.sum (gd M) M.length) (Pk.sum_lt _ _)
    unfold Pk.w32 at q ⊢
    rw [e 0 (by omega), e 1 (by omega), e 2 (by omega), e 3 (by omega)]
    exact q
  have hs : Crc.sum (Pk.sh 8 (gd (frB M))) M.length = Crc.sum (gd M) M.length := by
    unfold Crc.sum
    rw [run_congr _ (gd M) M.length (fun i hi => by unfold Pk.sh; rw [hy (8 + i) (by omega)]; unfold Pk.frm; rw [if_neg (by omega), if_neg (by omega), show 8 + i - 8 = i by omega])]
  refine ⟨?_, h4⟩
  unfold Pk.unfE
  rw [frB_len, h4, hs, h8, if_neg (by omega), if_neg (by omega), if_neg (by omega), if_pos rfl]
theorem tkN_head (z : Int) (h1 : -9223372036854775808 ≤ z) (h2 : z ≤ 9223372036854775807) (M : List Nat) : tkN (Pk.numL z ++ M) = some (z, M) := by
  obtain ⟨e1, e2⟩ := Pk.num_at_head z h1 h2 (gd (Pk.numL z ++ M)) (Pk.numL z ++ M).length (by simp) (fun i hi => Pk.gd_left _ _ i hi)
  unfold tkN
  rw [e1, e2, if_neg (by have := Pk.grp_pos 10 (Pk.fold z); show ¬ (Pk.grp 10 (Pk.fold z)).length = 0; omega), List.drop_left]
theorem rd_fr (t v : Int) (h : rgt t v = true) : rdP (frB (payL t v)) = (t, v) := by
  obtain ⟨a, b, c, d⟩ := rgt_iff.1 h
  obtain ⟨e1, e2⟩ := fr_unf (payL t v) (by have := payL_le t v; omega)
  have e3 : tkP (payL t v) = some (t, v, []) := by
    unfold tkP payL
    have q := tkN_head v (by omega) (by omega) []
    rw [List.append_nil] at q
    rw [tkN_head t (by omega) (by omega)]
    simp only
    rw [q]
    simp only
    rw [if_pos ⟨c, d⟩]
  unfold rdP
  rw [if_pos ⟨e1, by rw [e2, frB_len]⟩, fr_drop, e3]
  simp only
  rw [if_pos h]
theorem rd_right (L : List Nat) : rgt (rdP L).1 (rdP L).2 = true := by
  unfold rdP
  split
  · split
    · split
      · assumption
      · rfl
    · rfl
  · rfl
theorem rd_nil : rdP [] = (0, 0) := by
  unfold rdP
  rw [if_neg]
  rintro ⟨h, _⟩
  unfold Pk.unfE at h
  simp at h
theorem any1 (s : ByteArray) : [s].any misN = misN s := by simp
theorem onE1 (p : PD) (s : ByteArray) : onE p [s] = if p.stepd.down = true then 50 else if misN s = true then 1 else if (getP p.fs s).isSome = true then 0 else 4 := by
  unfold onE faultC
  rw [any1]
  cases p.stepd.down <;> cases misN s <;> simp [List.getD] <;> cases getP p.fs s <;> rfl
theorem onE2 (p : PD) (s t : ByteArray) : onE p [s, t] = if p.stepd.down = true then 50 else if (misN s || misN t) = true then 1 else if (getP p.fs s).isSome = true then 0 else 4 := by
  have e : [s, t].any misN = (misN s || misN t) := by simp
  unfold onE faultC
  rw [e]
  cases p.stepd.down <;> cases (misN s || misN t) <;> simp [List.getD] <;> cases getP p.fs s <;> rfl
theorem createC1 (p : PD) (s : ByteArray) : createC p s = if p.stepd.down = true then 50 else if misN s = true then 1 else if (getP p.fs s).isSome = true then 5 else if 256 ≤ p.fs.length then 3 else 0 := by
  unfold createC faultC
  rw [any1]
  cases p.stepd.down <;> cases misN s <;> cases getP p.fs s <;> simp
theorem readC1 (p : PD) (s : ByteArray) : readC p s = if p.down = true then 50 else if misN s = true then 1 else if (getP p.fs s).isSome = true then 0 else 4 := by
  unfold readC faultC
  rw [any1]
  cases p.down <;> cases misN s <;> cases getP p.fs s <;> simp
theorem mT : misN sT = false := by kernel_rfl
theorem mH : misN sH = false := by kernel_rfl
theorem getP_none {fs : PFs} {s : ByteArray} (h : ∀ q ∈ fs, q.1 ≠ s) : getP fs s = none := by
  induction fs with
  | nil => rfl
  | cons q t ih =>
    unfold getP
    rw [if_neg (h q (by simp)), ih (fun q hq => h q (List.mem_cons_of_mem _ hq))]
theorem getP_of_none : ∀ {fs : PFs} {s : ByteArray}, getP fs s = none → ∀ q ∈ fs, q.1 ≠ s
  | [], s, _, q, hq => by cases hq
  | x :: t, s, h, q, hq => by
    unfold getP at h
    split at h
    · cases h
    · rename_i c
      rcases List.mem_cons.1 hq with e | e
      · rw [e]; exact c
      · exact getP_of_none h q e
theorem getP_end {fs : PFs} {s : ByteArray} (x : PF) (h : getP fs s = none) : getP (fs ++ [(s, x)]) s = some x := by
  induction fs with
  | nil => simp [getP]
  | cons q t ih =>
    have hq := getP_of_none h q (by simp)
    show getP (q :: (t ++ [(s, x)])) s = _
    unfold getP
    rw [if_neg hq]
    refine ih ?_
    unfold getP at h
    rw [if_neg hq] at h
    exact h
theorem setP_end {fs : PFs} {s : ByteArray} (x y : PF) (h : getP fs s = none) : setP (fs ++ [(s, x)]) s y = fs ++ [(s, y)] := by
  unfold setP
  rw [List.map_append]
  congr 1
  · conv => rhs; rw [← List.map_id fs]
    exact List.map_congr_left fun q hq => by rw [if_neg (getP_of_none h q hq)]; rfl
  · simp
theorem delP_end {fs : PFs} {s : ByteArray} (x : PF) (h : getP fs s = none) : delP (fs ++ [(s, x)]) s = fs := by
  unfold delP
  rw [List.filter_append]
  have e : fs.filter (fun q => decide (q.1 ≠ s)) = fs := List.filter_eq_self.2 fun q hq => by simpa using getP_of_none h q hq
  rw [e]
  simp
theorem over_nil (B : List Nat) : overL [] 0 B = B := by
  unfold overL splice
  simp
/-- What Save's steps leave behind, where the power goes at the k-th step (0: at none). -/
theorem sv_all (fs : PFs) (k : Int) (B : List Nat) (hk : 0 ≤ k) (hn : getP fs sT = none) (hl : fs.length ≤ 255) (hB : B.length ≤ 65536) :
    (k = 1 → svE ⟨fs, false, k⟩ B = 50 ∧ svP ⟨fs, false, k⟩ B = ⟨fs, true, 0⟩) ∧ (k = 2 → svE ⟨fs, false, k⟩ B = 50 ∧ svP ⟨fs, false, k⟩ B = ⟨fs ++ [(sT, ⟨[], []⟩)], true, 0⟩) ∧
    (k = 3 → svE ⟨fs, false, k⟩ B = 50 ∧ svP ⟨fs, false, k⟩ B = ⟨fs ++ [(sT, ⟨B, []⟩)], true, 0⟩) ∧ (k = 4 → svE ⟨fs, false, k⟩ B = 50 ∧ svP ⟨fs, false, k⟩ B = ⟨fs ++ [(sT, ⟨B, B⟩)], true, 0⟩) ∧
    (k = 0 ∨ 5 ≤ k → svE ⟨fs, false, k⟩ B = 0 ∧ svP ⟨fs, false, k⟩ B = ⟨putP fs sH ⟨B, B⟩, false, max 0 (k - 4)⟩) := by
  have c1 : createC ⟨fs, false, k⟩ sT = if k = 1 then 50 else 0 := by
    rw [createC1, mT]
    unfold PD.stepd
    simp only [hn]
    by_cases c : k = 1
    · simp [c]
    · simp [c]; omega
  have s1 : ¬ k = 1 → createP ⟨fs, false, k⟩ sT = ⟨fs ++ [(sT, ⟨[], []⟩)], false, max 0 (k - 1)⟩ := fun c => by
    unfold createP
    rw [c1, if_neg c, if_pos rfl]
    unfold PD.stepd
    simp [c]
  have s1' : k = 1 → createP ⟨fs, false, k⟩ sT = ⟨fs, true, 0⟩ := fun c => by
    unfold createP
    rw [c1, if_pos c, if_neg (by decide)]
    unfold PD.stepd
    subst c
    rfl
  have g1 := getP_end (⟨[], []⟩ : PF) hn
  have on : ∀ (x : PF) (j : Int), onE ⟨fs ++ [(sT, x)], false, j⟩ [sT] = if j = 1 then 50 else 0 := fun x j => by
    rw [onE1, mT, getP_end x hn]
    unfold PD.stepd
    by_cases c : j = 1 <;> simp [c]
  have on2 : ∀ (x : PF) (j : Int), onE ⟨fs ++ [(sT, x)], false, j⟩ [sT, sH] = if j = 1 then 50 else 0 := fun x j => by
    rw [onE2, mT, mH, getP_end x hn]
    unfold PD.stepd
    by_cases c : j = 1 <;> simp [c]
  have fa : ∀ (x : PF) (j : Int), fileAt ⟨fs ++ [(sT, x)], false, j⟩ sT = x := fun x j => by unfold fileAt; rw [getP_end x hn]; rfl
  have sd : ∀ (gs : PFs) (j : Int), ¬ j = 1 → (⟨gs, false, j⟩ : PD).stepd = ⟨gs, false, max 0 (j - 1)⟩ := fun gs j c => by unfold PD.stepd; simp [c]
  have sd1 : ∀ (gs : PFs), (⟨gs, false, 1⟩ : PD).stepd = ⟨gs, true, 0⟩ := fun gs => rfl
  have w1 : ∀ j : Int, writeC ⟨fs ++ [(sT, ⟨[], []⟩)], false, j⟩ sT 0 B = if j = 1 then 50 else 0 := fun j => by
    unfold writeC
    rw [on, fa]
    by_cases c : j = 1
    · rw [if_pos c]; simp
    · rw [if_neg c, if_pos rfl, if_neg (by unfold beyB; simp), if_neg (by omega)]
  have w2 : ∀ j : Int, ¬ j = 1 → writeP ⟨fs ++ [(sT, ⟨[], []⟩)], false, j⟩ sT 0 B = ⟨fs ++ [(sT, ⟨B, []⟩)], false, max 0 (j - 1)⟩ := fun j c => by
    unfold writeP
    rw [w1, if_neg c, if_pos rfl, fa, sd _ _ c]
    simp only [Int.toNat_zero, over_nil]
    rw [setP_end _ _ hn]
  have w3 : writeP ⟨fs ++ [(sT, ⟨[], []⟩)], false, 1⟩ sT 0 B = ⟨fs ++ [(sT, ⟨[], []⟩)], true, 0⟩ := by
    unfold writeP
    rw [w1, if_pos rfl, if_neg (by decide), sd1]
  have y1 : ∀ j : Int, syncC ⟨fs ++ [(sT, ⟨B, []⟩)], false, j⟩ sT = if j = 1 then 50 else 0 := fun j => on _ j
  have y2 : ∀ j : Int, ¬ j = 1 → syncP ⟨fs ++ [(sT, ⟨B, []⟩)], false, j⟩ sT = ⟨fs ++ [(sT, ⟨B, B⟩)], false, max 0 (j - 1)⟩ := fun j c => by
    unfold syncP
    rw [y1, if_neg c, if_pos rfl, fa, sd _ _ c]
    simp only
    rw [setP_end _ _ hn]
  have y3 : syncP ⟨fs ++ [(sT, ⟨B, []⟩)], false, 1⟩ sT = ⟨fs ++ [(sT, ⟨B, []⟩)], true, 0⟩ := by
    unfold syncP
    rw [y1, if_pos rfl, if_neg (by decide), sd1]
  have r1 : ∀ j : Int, renameC ⟨fs ++ [(sT, ⟨B, B⟩)], false, j⟩ sT sH = if j = 1 then 50 else 0 := fun j => on2 _ j
  have r2 : ∀ j : Int, ¬ j = 1 → renameP ⟨fs ++ [(sT, ⟨B, B⟩)], false, j⟩ sT sH = ⟨putP fs sH ⟨B, B⟩, false, max 0 (j - 1)⟩ := fun j c => by
    unfold renameP
    rw [r1, if_neg c, if_pos rfl, fa, sd _ _ c]
    simp only
    rw [delP_end _ hn]
  have r3 : renameP ⟨fs ++ [(sT, ⟨B, B⟩)], false, 1⟩ sT sH = ⟨fs ++ [(sT, ⟨B, B⟩)], true, 0⟩ := by
    unfold renameP
    rw [r1, if_pos rfl, if_neg (by decide), sd1]
  have hE : svE ⟨fs, false, k⟩ B = if createC ⟨fs, false, k⟩ sT ≠ 0 then createC ⟨fs, false, k⟩ sT else if writeC (createP ⟨fs, false, k⟩ sT) sT 0 B ≠ 0 then writeC (createP ⟨fs, false, k⟩ sT) sT 0 B else if syncC (writeP (createP ⟨fs, false, k⟩ sT) sT 0 B) sT ≠ 0 then syncC (writeP (createP ⟨fs, false, k⟩ sT) sT 0 B) sT else renameC (syncP (writeP (createP ⟨fs, false, k⟩ sT) sT 0 B) sT) sT sH := rfl
  have hP : svP ⟨fs, false, k⟩ B = if createC ⟨fs, false, k⟩ sT ≠ 0 then createP ⟨fs, false, k⟩ sT else if writeC (createP ⟨fs, false, k⟩ sT) sT 0 B ≠ 0 then writeP (createP ⟨fs, false, k⟩ sT) sT 0 B else if syncC (writeP (createP ⟨fs, false, k⟩ sT) sT 0 B) sT ≠ 0 then syncP (writeP (createP ⟨fs, false, k⟩ sT) sT 0 B) sT else renameP (syncP (writeP (createP ⟨fs, false, k⟩ sT) sT 0 B) sT) sT sH := rfl
  refine ⟨fun e => ?_, fun e => ?_, fun e => ?_, fun e => ?_, fun e => ?_⟩
  · rw [hE, hP, c1, if_pos e, s1' e]; simp
  · have n1 : ¬ k = 1 := by omega
    have j1 : max 0 (k - 1) = 1 := by omega
    rw [hE, hP, c1, if_neg n1, s1 n1, j1, w1, w3]; simp
  · have n1 : ¬ k = 1 := by omega
    have n2 : ¬ max 0 (k - 1) = 1 := by omega
    have j2 : max 0 (max 0 (k - 1) - 1) = 1 := by omega
    rw [hE, hP, c1, if_neg n1, s1 n1, w1, if_neg n2, w2 _ n2, j2, y1, y3]; simp
  · have n1 : ¬ k = 1 := by omega
    have n2 : ¬ max 0 (k - 1) = 1 := by omega
    have n3 : ¬ max 0 (max 0 (k - 1) - 1) = 1 := by omega
    have j3 : max 0 (max 0 (max 0 (k - 1) - 1) - 1) = 1 := by omega
    rw [hE, hP, c1, if_neg n1, s1 n1, w1, if_neg n2, w2 _ n2, y1, if_neg n3, y2 _ n3, j3, r1, r3]; simp
  · have n1 : ¬ k = 1 := by omega
    have n2 : ¬ max 0 (k - 1) = 1 := by omega
    have n3 : ¬ max 0 (max 0 (k - 1) - 1) = 1 := by omega
    have n4 : ¬ max 0 (max 0 (max 0 (k - 1) - 1) - 1) = 1 := by omega
    have j4 : max 0 (max 0 (max 0 (max 0 (k - 1) - 1) - 1) - 1) = max 0 (k - 4) := by omega
    rw [hE, hP, c1, if_neg n1, s1 n1, w1, if_neg n2, w2 _ n2, y1, if_neg n3, y2 _ n3, r1, if_neg n4, r2 _ n4, j4]; simp
end Go.Proofs.YtfphopleniidfaaGreatDoor
