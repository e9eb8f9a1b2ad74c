/- The program's disk and the document's beside each other; plain; the law's step with its error. -/
import Derived.Test.YtfphopleniidfaaGreatDoorQ5g
namespace Go.Proofs.YtfphopleniidfaaGreatDoor
open Go.RowKit Go.Lib Go.ChangeShapes Go.WideShapes
set_option linter.unusedVariables false
set_option linter.unusedSimpArgs false
set_option maxRecDepth 20000
theorem leN_anti {a b : ByteArray} (h : leN a b) (k : leN b a) : a = b := by
  have : a.data.toList = b.data.toList := List.le_antisymm h k
  cases a; cases b
  simpa using Array.toList_inj.1 this
theorem rise_eq {S T K : List ByteArray} (hS : S.Perm K) (hT : T.Perm K) (h1 : S.Pairwise leN) (h2 : T.Pairwise leN) : S = T :=
  List.Perm.eq_of_pairwise (fun a b _ _ => leN_anti) h1 h2 (hS.trans hT.symm)
theorem leN_of_lt {a b : ByteArray} (h : Op.bytesLess a.toList b.toList = true) : leN a b := by
  rw [bl_eq, Go.Lib.toList_data, Go.Lib.toList_data] at h
  exact List.le_of_lt (by simpa using h)
theorem leN_of_not {a b : ByteArray} (h : ¬ Op.bytesLess a.toList b.toList = true) : leN b a := by
  rw [bl_eq, Go.Lib.toList_data, Go.Lib.toList_data] at h
  have h2 : ¬ a.data.toList < b.data.toList := by simpa using h
  exact List.not_lt.1 h2
theorem leN_trans {a b c : ByteArray} (h : leN a b) (k : leN b c) : leN a c := List.le_trans h k
theorem insP_perm (q : ByteArray × PF) : ∀ L : PFs, (insP q L).Perm (L ++ [q])
  | [] => List.Perm.refl _
  | z :: t => by
    unfold insP
    split
    · exact (List.perm_append_comm (l₁ := [q]) (l₂ := z :: t))
    · exact (insP_perm q t).cons z
theorem insP_rise (q : ByteArray × PF) : ∀ L : PFs, (keysP L).Pairwise leN → (keysP (insP q L)).Pairwise leN
  | [], _ => by simp [insP, keysP]
  | z :: t, h => by
    have h' : ((z :: t).map (·.1)).Pairwise leN := h
    rw [List.map_cons, List.pairwise_cons] at h'
    unfold insP
    split
    · rename_i c
      show ((q :: z :: t).map (·.1)).Pairwise leN
      rw [List.map_cons, List.pairwise_cons]
      refine ⟨fun x hx => ?_, h⟩
      rw [List.map_cons] at hx
      rcases List.mem_cons.1 hx with e | e
      · rw [e]; exact leN_of_lt c
      · exact leN_trans (leN_of_lt c) (h'.1 x e)
    · rename_i c
      show ((z :: insP q t).map (·.1)).Pairwise leN
      rw [List.map_cons, List.pairwise_cons]
      refine ⟨fun x hx => ?_, insP_rise q t h'.2⟩
      obtain ⟨y, hy, e⟩ := List.mem_map.1 hx
      rw [← e]
      rcases List.mem_append.1 ((insP_perm q t).mem_iff.1 hy) with k | k
      · exact h'.1 _ (List.mem_map.2 ⟨y, k, rfl⟩)
      · rw [List.mem_singleton.1 k]; exact leN_of_not c
theorem delP_rise (L : PFs) (s : ByteArray) (h : (keysP L).Pairwise leN) : (keysP (delP L s)).Pairwise leN := h.sublist ((List.filter_sublist).map _)
theorem getP_perm {F G : PFs} (h : F.Perm G) (hn : (G.map (·.1)).Nodup) (s : ByteArray) : getP F s = getP G s := by
  have hF : (F.map (·.1)).Nodup := ((h.map _).nodup_iff).2 hn
  cases e : getP G s with
  | some x => exact getP_mem hF (q := (s, x)) (h.mem_iff.2 (mem_getP e))
  | none =>
    cases e2 : getP F s with
    | none => rfl
    | some x =>
      have := getP_mem hn (q := (s, x)) (h.mem_iff.1 (mem_getP e2))
      rw [e] at this
      cases this
theorem getP_no {G : PFs} {s : ByteArray} (h : getP G s = none) (hn : (G.map (·.1)).Nodup) : ∀ q ∈ G, q.1 ≠ s := fun q hq e => by
  have := getP_mem hn hq
  rw [e, h] at this
  cases this
theorem delP_none {G : PFs} {s : ByteArray} (h : ∀ q ∈ G, q.1 ≠ s) : delP G s = G := List.filter_eq_self.2 fun q hq => by simpa using h q hq
theorem putP_perm (x : PF) (s : ByteArray) : ∀ G : PFs, (G.map (·.1)).Nodup → (putP G s x).Perm (delP G s ++ [(s, x)])
  | [], _ => List.Perm.refl _
  | q :: t, hn => by
    rw [List.map_cons, List.nodup_cons] at hn
    unfold putP
    by_cases c : q.1 = s
    · rw [if_pos c]
      have e : delP (q :: t) s = t := by
        unfold delP
        rw [List.filter_cons_of_neg (by simp [c])]
        exact delP_none fun y hy e => hn.1 (by rw [c, ← e]; exact List.mem_map.2 ⟨y, hy, rfl⟩)
      rw [e]
      exact List.perm_append_comm (l₁ := [(s, x)]) (l₂ := t)
    · rw [if_neg c]
      have e : delP (q :: t) s = q :: delP t s := by
        unfold delP
        rw [List.filter_cons_of_pos (by simpa using c)]
      rw [e]
      exact (putP_perm x s t hn.2).cons q
theorem setP_none (x : PF) {s : ByteArray} {G : PFs} (h : ∀ q ∈ G, q.1 ≠ s) : setP G s x = G := by
  unfold setP
  conv => rhs; rw [← List.map_id G]
  exact List.map_congr_left fun q hq => by rw [if_neg (h q hq)]; rfl
theorem setP_perm (x : PF) (s : ByteArray) : ∀ G : PFs, (G.map (·.1)).Nodup → s ∈ G.map (·.1) → (setP G s x).Perm (delP G s ++ [(s, x)])
  | [], _, h => by simp at h
  | q :: t, hn, hs => by
    rw [List.map_cons, List.nodup_cons] at hn
    by_cases c : q.1 = s
    · have h2 : ∀ y ∈ t, y.1 ≠ s := fun y hy e => hn.1 (by rw [c, ← e]; exact List.mem_map.2 ⟨y, hy, rfl⟩)
      have e : delP (q :: t) s = t := by
        unfold delP
        rw [List.filter_cons_of_neg (by simp [c])]
        exact delP_none h2
      have e2 : setP (q :: t) s x = (s, x) :: t := by
        show (if q.1 = s then (q.1, x) else q) :: setP t s x = _
        rw [if_pos c, setP_none x h2, c]
      rw [e, e2]
      exact List.perm_append_comm (l₁ := [(s, x)]) (l₂ := t)
    · have e : delP (q :: t) s = q :: delP t s := by
        unfold delP
        rw [List.filter_cons_of_pos (by simpa using c)]
      have e2 : setP (q :: t) s x = q :: setP t s x := by
        show (if q.1 = s then (q.1, x) else q) :: setP t s x = _
        rw [if_neg c]
      rw [e, e2]
      refine (setP_perm x s t hn.2 ?_).cons q
      rw [List.map_cons] at hs
      rcases List.mem_cons.1 hs with z | z
      · exact absurd z.symm c
      · exact z
/-- The program's disk and the document's. -/
structure RelD (p : PD) (F : PFs) (dn : Bool) (fu : Int) : Prop where
  perm : F.Perm p.fs
  rise : (keysP F).Pairwise leN
  down : dn = p.down
  fuse : dn = false → fu = p.fail
  lo : 0 ≤ fu
  hi : fu ≤ 9223372036854775807
theorem RelD.zero : RelD pd0 [] false 0 := ⟨List.Perm.refl _, List.Pairwise.nil, rfl, fun _ => rfl, by omega, by omega⟩
def stepC (p : PD) (o : Opd) : Int := if o.k = 1 then createC p o.a else if o.k = 2 then removeC p o.a else if o.k = 3 then renameC p o.a o.z else if o.k = 4 then writeC p o.a o.n o.B else if o.k = 5 then cutC p o.a o.n else syncC p o.a
theorem RelD.st {p : PD} {F : PFs} {dn : Bool} {fu : Int} (h : RelD p F dn fu) : stD dn fu = p.stepd.down := by
  unfold stD PD.stepd
  cases hd : dn with
  | true => have := h.down; rw [hd] at this; simp [← this]
  | false => have := h.down; rw [hd] at this; rw [h.fuse hd, ← this]
theorem RelD.stepd {p : PD} {F : PFs} {dn : Bool} {fu : Int} (h : RelD p F dn fu) : RelD p.stepd F (stD dn fu) (stF dn fu) := by
  refine ⟨h.perm, h.rise, h.st, fun e => ?_, ?_, ?_⟩
  · unfold stD at e
    cases hd : dn with
    | true => rw [hd] at e; simp at e
    | false =>
      rw [hd] at e
      have e1 : ¬ fu = 1 := by simpa using e
      have e2 := h.fuse hd
      unfold stF PD.stepd
      dsimp only
      rw [← e2]
      by_cases z : fu = 0
      · rw [if_pos (.inr z), z]; rfl
      · rw [if_neg (by simp [z])]
        have := h.lo
        omega
  · unfold stF; have := h.lo; split <;> omega
  · unfold stF; have := h.hi; split <;> omega
theorem RelD.fs {p : PD} {F F' G : PFs} {dn : Bool} {fu : Int} (h : RelD p F dn fu) (hp : F'.Perm G) (hr : (keysP F').Pairwise leN) : RelD { p with fs := G } F' dn fu := ⟨hp, hr, h.down, h.fuse, h.lo, h.hi⟩
theorem any2 (s t : ByteArray) : [s, t].any misN = (misN s || misN t) := by simp
theorem match_some (o : Option PF) : (match o with | some _ => (0 : Int) | none => 4) = if o.isSome = true then 0 else 4 := by cases o <;> rfl
theorem doC_eq {p : PD} {F : PFs} {dn : Bool} {fu : Int} (h : RelD p F dn fu) (hn : (keysP p.fs).Nodup) (o : Opd) (hk : 1 ≤ o.k ∧ o.k ≤ 6) : doC F (stD dn fu) o = stepC p o := by
  have hg := getP_perm h.perm hn o.a
  have hl := h.perm.length_eq
  obtain ⟨k, a, z, n, vb, B, vk, kp⟩ := o
  dsimp only at hk hg ⊢
  unfold doC stepC
  dsimp only
  rw [h.st, hg, hl]
  unfold removeC renameC writeC cutC syncC fileAt
  rw [createC1, onE1, onE2]
  have hcs : k = 1 ∨ k = 2 ∨ k = 3 ∨ k = 4 ∨ k = 5 ∨ k = 6 := by omega
  cases p.stepd.down <;> cases misN a <;> cases misN z <;> cases getP p.fs a <;> rcases hcs with e | e | e | e | e | e <;> subst e <;> simp
theorem stepd_of {p : PD} {o : Opd} (h : ¬ stepC p o = 0) : stepP p o = p.stepd := by
  unfold stepC at h
  unfold stepP
  by_cases c1 : o.k = 1
  · rw [if_pos c1] at h ⊢; unfold createP; rw [if_neg h]
  rw [if_neg c1] at h ⊢
  by_cases c2 : o.k = 2
  · rw [if_pos c2] at h ⊢; unfold removeP; rw [if_neg h]
  rw [if_neg c2] at h ⊢
  by_cases c3 : o.k = 3
  · rw [if_pos c3] at h ⊢; unfold renameP; rw [if_neg h]
  rw [if_neg c3] at h ⊢
  by_cases c4 : o.k = 4
  · rw [if_pos c4] at h ⊢; unfold writeP; rw [if_neg h]
  rw [if_neg c4] at h ⊢
  by_cases c5 : o.k = 5
  · rw [if_pos c5] at h ⊢; unfold cutP; rw [if_neg h]
  rw [if_neg c5] at h ⊢
  unfold syncP; rw [if_neg h]
theorem on_some5 {p : PD} {s : ByteArray} (h : onE p [s] = 0) : (getP p.fs s).isSome = true := by
  rw [onE1] at h
  cases e : (getP p.fs s).isSome with
  | true => rfl
  | false => rw [e] at h; revert h; cases p.stepd.down <;> cases misN s <;> simp
theorem some_key {fs : PFs} {s : ByteArray} (h : (getP fs s).isSome = true) : s ∈ fs.map (·.1) := by
  obtain ⟨x, hx⟩ := Option.isSome_iff_exists.1 h
  exact List.mem_map.2 ⟨(s, x), mem_getP hx, rfl⟩
theorem set_ins {F G : PFs} {s : ByteArray} {x : PF} (hp : F.Perm G) (hr : (keysP F).Pairwise leN) (hn : (keysP G).Nodup) (hs : s ∈ G.map (·.1)) : (insP (s, x) (delP F s)).Perm (setP G s x) ∧ (keysP (insP (s, x) (delP F s))).Pairwise leN :=
  ⟨(insP_perm _ _).trans (((hp.filter _).append_right _).trans (setP_perm x s G hn hs).symm), insP_rise _ _ (delP_rise _ _ hr)⟩
theorem RelD.step {p : PD} {F : PFs} {dn : Bool} {fu : Int} (h : RelD p F dn fu) (hn : (keysP p.fs).Nodup) (o : Opd) (hk : 1 ≤ o.k ∧ o.k ≤ 6) : RelD (stepP p o) (doF F (stD dn fu) o) (stD dn fu) (stF dn fu) := by
  have hc := doC_eq h hn o hk
  have hs := h.stepd
  unfold doF
  rw [hc]
  by_cases c0 : stepC p o = 0
  · rw [if_pos c0]
    have hfil : filP F o.a = fileAt p o.a := by unfold filP fileAt; rw [getP_perm h.perm hn]
    rw [hfil]
    unfold stepC at c0
    unfold stepP
    by_cases c1 : o.k = 1
    · rw [if_pos c1] at c0 ⊢
      rw [if_pos c1]
      unfold createP
      rw [if_pos c0]
      have hno : getP p.fs o.a = none := by
        rw [createC1] at c0
        cases e : getP p.fs o.a with
        | none => rfl
        | some x => rw [e] at c0; revert c0; cases p.stepd.down <;> cases misN o.a <;> simp
      have hd : delP F o.a = F := delP_none fun q hq => getP_no hno hn q (h.perm.mem_iff.1 hq)
      rw [hd]
      exact hs.fs ((insP_perm _ _).trans (h.perm.append_right _)) (insP_rise _ _ h.rise)
    rw [if_neg c1] at c0 ⊢
    rw [if_neg c1]
    by_cases c2 : o.k = 2
    · rw [if_pos c2] at c0 ⊢
      rw [if_pos c2]
      unfold removeP
      rw [if_pos c0]
      exact hs.fs (h.perm.filter _) (delP_rise _ _ h.rise)
    rw [if_neg c2] at c0 ⊢
    rw [if_neg c2]
    by_cases c3 : o.k = 3
    · rw [if_pos c3] at c0 ⊢
      rw [if_pos c3]
      unfold renameP
      rw [if_pos c0]
      refine hs.fs ((insP_perm _ _).trans ((((h.perm.filter _).filter _).append_right _).trans (putP_perm _ _ _ ?_).symm)) (insP_rise _ _ (delP_rise _ _ (delP_rise _ _ h.rise)))
      exact hn.sublist ((List.filter_sublist).map _)
    rw [if_neg c3] at c0 ⊢
    rw [if_neg c3]
    by_cases c4 : o.k = 4
    · rw [if_pos c4] at c0 ⊢
      rw [if_pos c4]
      unfold writeP
      rw [if_pos c0]
      have ho : onE p [o.a] = 0 := by
        unfold writeC at c0
        by_cases z : onE p [o.a] = 0
        · exact z
        · rw [if_neg z] at c0; exact c0
      have := set_ins (x := ⟨overL (fileAt p o.a).now o.n.toNat o.B, (fileAt p o.a).safe⟩) h.perm h.rise hn (some_key (on_some5 ho))
      exact hs.fs this.1 this.2
    rw [if_neg c4] at c0 ⊢
    rw [if_neg c4]
    by_cases c5 : o.k = 5
    · rw [if_pos c5] at c0 ⊢
      rw [if_pos c5]
      unfold cutP
      rw [if_pos c0]
      have ho : onE p [o.a] = 0 := by
        unfold cutC at c0
        by_cases z : onE p [o.a] = 0
        · exact z
        · rw [if_neg z] at c0; exact c0
      have := set_ins (x := ⟨(fileAt p o.a).now.take o.n.toNat, (fileAt p o.a).safe.take o.n.toNat⟩) h.perm h.rise hn (some_key (on_some5 ho))
      exact hs.fs this.1 this.2
    rw [if_neg c5] at c0 ⊢
    rw [if_neg c5]
    unfold syncP
    rw [if_pos c0]
    have := set_ins (x := ⟨(fileAt p o.a).now, (fileAt p o.a).now⟩) h.perm h.rise hn (some_key (on_some5 c0))
    exact hs.fs this.1 this.2
  · rw [if_neg c0, stepd_of c0]
    exact hs
/-- Behind a loss of power. -/
theorem set_mid {fs A B : PFs} {q : ByteArray × PF} {y : PF} (hp : fs.Perm (A ++ q :: B)) (hn : (keysP fs).Nodup) : (setP fs q.1 y).Perm (A ++ (q.1, y) :: B) ∧ filP fs q.1 = q.2 := by
  have hn2 : ((A ++ q :: B).map (·.1)).Nodup := ((hp.map _).nodup_iff).1 hn
  have hm : q ∈ fs := hp.mem_iff.2 (by simp)
  refine ⟨?_, by unfold filP; rw [getP_mem hn hm]; rfl⟩
  refine (setP_perm y q.1 fs hn (List.mem_map.2 ⟨q, hm, rfl⟩)).trans ?_
  have h1 : (delP fs q.1).Perm (delP (A ++ q :: B) q.1) := hp.filter _
  have e : delP (A ++ q :: B) q.1 = A ++ B := by
    unfold delP
    rw [List.filter_append, List.filter_cons_of_neg (by simp)]
    rw [List.map_append, List.map_cons, List.nodup_append] at hn2
    have hA : ∀ x ∈ A, x.1 ≠ q.1 := fun x hx e => hn2.2.2 x.1 (List.mem_map.2 ⟨x, hx, rfl⟩) q.1 (by simp) e
    have hB : ∀ x ∈ B, x.1 ≠ q.1 := fun x hx e => (List.nodup_cons.1 hn2.2.1).1 (by rw [← e]; exact List.mem_map.2 ⟨x, hx, rfl⟩)
    have e1 := delP_none hA
    have e2 := delP_none hB
    unfold delP at e1 e2
    rw [e1, e2]
  rw [e] at h1
  refine (h1.append_right _).trans ?_
  rw [List.append_assoc]
  exact (List.perm_append_comm (l₁ := B) (l₂ := [(q.1, y)])).append_left A
theorem crD_keys : ∀ (F : PFs) (kp : List Bool), keysP (crD F kp) = keysP F
  | [], _ => rfl
  | q :: t, kp => by
    show q.1 :: keysP (crD t _) = q.1 :: keysP t
    rw [crD_keys t]
theorem crS_mid (F fs : PFs) (kp : List Bool) (hp : F.Perm fs) (hn : (keysP fs).Nodup) : ∀ j, j ≤ F.length → ((crS (keysP F) j (fs, kp)).1).Perm (crD (F.take j) kp ++ F.drop j) ∧ (crS (keysP F) j (fs, kp)).2 = kp.drop (looN (F.take j)) ∧ (keysP (crS (keysP F) j (fs, kp)).1).Nodup
  | 0, _ => ⟨by simpa [crS, crD] using hp.symm, by simp [crS, looN], hn⟩
  | j + 1, h => by
    obtain ⟨h1, h2, h3⟩ := crS_mid F fs kp hp hn j (by omega)
    have hj : j < F.length := by omega
    have hS : (keysP F).getD j ByteArray.empty = F[j].1 := by unfold keysP; rw [List.getD_eq_getElem?_getD, List.getElem?_map, List.getElem?_eq_getElem hj]; rfl
    have hd : F.drop j = F[j] :: F.drop (j + 1) := List.drop_eq_getElem_cons hj
    rw [hd] at h1
    have hm := set_mid (y := (crash1 F[j].2 (crS (keysP F) j (fs, kp)).2).1) h1 h3
    have ht : F.take (j + 1) = F.take j ++ [F[j]] := (List.take_append_getElem hj).symm
    unfold crS
    rw [hS, hm.2]
    refine ⟨?_, ?_, ?_⟩
    · refine hm.1.trans ?_
      rw [ht, crD_app, h2, crash1_eqR]
      simp [crD]
    · rw [h2, crash1_eqR, ht, looN_app, ← List.drop_drop]
      show _ = _
      simp [looN]
    · rw [setP_keys]; exact h3
theorem RelD.crash {p : PD} {F : PFs} {dn : Bool} {fu : Int} (h : RelD p F dn fu) (hn : (keysP p.fs).Nodup) (S : List ByteArray) (kp : List Bool) (hS : S.Perm (keysP p.fs)) (hR : S.Pairwise leN) : RelD (crashP p S kp) (crD F kp) false 0 := by
  have e : S = keysP F := rise_eq hS (h.perm.map _) hR h.rise
  subst e
  obtain ⟨h1, _, _⟩ := crS_mid F p.fs kp h.perm hn F.length (Nat.le_refl _)
  rw [List.take_length, List.drop_length, List.append_nil] at h1
  have hl : (keysP F).length = F.length := by unfold keysP; rw [List.length_map]
  refine ⟨?_, by rw [crD_keys]; exact h.rise, rfl, fun _ => rfl, by omega, by omega⟩
  show (crD F kp).Perm (crS (keysP F) (keysP F).length (p.fs, kp)).1
  rw [hl]
  exact h1.symm
theorem looN_perm {F G : PFs} (h : F.Perm G) : looN F = looN G := by
  induction h with
  | nil => rfl
  | cons x _ ih => show _ + _ = _ + _; rw [ih]
  | swap x y l => show (_ : Nat) + (_ + _) = _ + (_ + _); omega
  | trans _ _ h1 h2 => exact h1.trans h2
theorem RelD.read {p : PD} {F : PFs} {dn : Bool} {fu : Int} (h : RelD p F dn fu) (hn : (keysP p.fs).Nodup) (s : ByteArray) : readC ⟨F, dn, fu⟩ s = readC p s ∧ readL ⟨F, dn, fu⟩ s = readL p s := by
  have hg := getP_perm h.perm hn s
  have e1 : readC ⟨F, dn, fu⟩ s = readC p s := by unfold readC; dsimp only; rw [hg, h.down]
  refine ⟨e1, ?_⟩
  unfold readL
  rw [e1]
  unfold fileAt
  dsimp only
  rw [hg]
theorem Dsk.few {w0 W : World} {db : Nat} {p : PD} {A : List Nat} (h : Dsk w0 W db p A) : p.fs.length ≤ 256 := by
  obtain ⟨d, rfl, rfl, h3, h4, h5, h6⟩ := h
  show (d.M.map pf).length ≤ 256
  rw [List.length_map]
  exact h3.few
end Go.Proofs.YtfphopleniidfaaGreatDoor
