/- HardPlays, plain: the two Saves and the two Opens beside each other. -/
import Derived.Test.YtfphopleniidfaaGreatDoorH7d
namespace Go.Proofs.YtfphopleniidfaaGreatDoor
open Go.RowKit Go.Lib
set_option linter.unusedVariables false
set_option linter.unusedSimpArgs false
set_option maxRecDepth 20000
theorem step1 (p : PD) (o : Opd) (h : o.k = 1) : stepP p o = createP p o.a ∧ stepC p o = createC p o.a := by
  unfold stepP stepC
  rw [h]
  exact ⟨if_pos rfl, if_pos rfl⟩
theorem step4 (p : PD) (o : Opd) (h : o.k = 4) : stepP p o = writeP p o.a o.n o.B ∧ stepC p o = writeC p o.a o.n o.B := by
  unfold stepP stepC
  rw [h]
  exact ⟨by simp, by simp⟩
theorem step6 (p : PD) (o : Opd) (h : o.k = 6) : stepP p o = syncP p o.a ∧ stepC p o = syncC p o.a := by
  unfold stepP stepC
  rw [h]
  exact ⟨by simp, by simp⟩
theorem step3 (p : PD) (o : Opd) (h : o.k = 3) : stepP p o = renameP p o.a o.z ∧ stepC p o = renameC p o.a o.z := by
  unfold stepP stepC
  rw [h]
  exact ⟨by simp, by simp⟩
theorem step_sop (vb : Value) (B : List Nat) (p : PD) (k : Nat) (hk : k ≤ 3) : stepP (sK p B k) (sop vb B k) = sK p B (k + 1) ∧ stepC (sK p B k) (sop vb B k) = cK p B k := by
  match k, hk with
  | 0, _ => exact step1 _ _ rfl
  | 1, _ => exact step4 _ _ rfl
  | 2, _ => exact step6 _ _ rfl
  | 3, _ => exact step3 _ _ rfl
theorem nod_end {fs : PFs} {s : ByteArray} (x : PF) (h : (keysP fs).Nodup) (hn : getP fs s = none) : (keysP (fs ++ [(s, x)])).Nodup := by
  have hs := keys_getP.1 hn
  unfold keysP at h hs ⊢
  rw [List.map_append, List.nodup_append]
  refine ⟨h, by simp, fun a ha b hb e => ?_⟩
  have : b = s := by simpa using hb
  exact hs (by rw [← this, ← e]; exact ha)
theorem nod_del {fs : PFs} (s : ByteArray) (h : (keysP fs).Nodup) : (keysP (delP fs s)).Nodup := h.sublist ((List.filter_sublist).map _)
theorem del_none (fs : PFs) (s : ByteArray) : getP (delP fs s) s = none := keys_getP.2 fun h => by
  unfold keysP delP at h
  obtain ⟨q, hq, e⟩ := List.mem_map.1 h
  have := (List.mem_filter.1 hq).2
  simp [e] at this
theorem nod_put {fs : PFs} (s : ByteArray) (x : PF) (h : (keysP fs).Nodup) : (keysP (putP fs s x)).Nodup :=
  (((putP_perm x s fs h).map _).nodup_iff).2 (nod_end x (nod_del s h) (del_none fs s))
theorem nod_set {fs : PFs} (s : ByteArray) (x : PF) (h : (keysP fs).Nodup) : (keysP (setP fs s x)).Nodup := by rw [setP_keys]; exact h
theorem create_no {p : PD} {s : ByteArray} (h : createC p s = 0) : getP p.fs s = none := by
  rw [createC1] at h
  cases e : getP p.fs s with
  | none => rfl
  | some x => rw [e] at h; revert h; cases p.stepd.down <;> cases misN s <;> simp
theorem stepP_nod (p : PD) (o : Opd) (h : (keysP p.fs).Nodup) : (keysP (stepP p o).fs).Nodup := by
  unfold stepP
  split
  · unfold createP
    split
    · rename_i c; exact nod_end _ h (create_no c)
    · exact h
  · split
    · unfold removeP; split
      · exact nod_del _ h
      · exact h
    · split
      · unfold renameP; split
        · exact nod_put _ _ (nod_del _ h)
        · exact h
      · split
        · unfold writeP; split
          · exact nod_set _ _ h
          · exact h
        · split
          · unfold cutP; split
            · exact nod_set _ _ h
            · exact h
          · unfold syncP; split
            · exact nod_set _ _ h
            · exact h
theorem del_len (fs : PFs) (s : ByteArray) : (delP fs s).length ≤ fs.length := List.length_filter_le _ _
theorem put_len : ∀ (fs : PFs) (s : ByteArray) (x : PF), (putP fs s x).length ≤ fs.length + 1
  | [], s, x => by simp [putP]
  | q :: t, s, x => by
    unfold putP
    split
    · simp
    · have := put_len t s x; simp; omega
theorem set_len (fs : PFs) (s : ByteArray) (x : PF) : (setP fs s x).length = fs.length := by unfold setP; rw [List.length_map]
theorem stepd_fs (p : PD) : p.stepd.fs = p.fs := rfl
theorem stepP_len (p : PD) (o : Opd) : (stepP p o).fs.length ≤ p.fs.length + 1 := by
  unfold stepP
  split
  · unfold createP
    split
    · simp
    · rw [stepd_fs]; omega
  · split
    · unfold removeP; split
      · have := del_len p.fs o.a; show (delP p.fs o.a).length ≤ _; omega
      · rw [stepd_fs]; omega
    · split
      · unfold renameP; split
        · have := del_len p.fs o.a; have := put_len (delP p.fs o.a) o.z (fileAt p o.a); show (putP _ _ _).length ≤ _; omega
        · rw [stepd_fs]; omega
      · split
        · unfold writeP; split
          · show (setP _ _ _).length ≤ _; rw [set_len]; omega
          · rw [stepd_fs]; omega
        · split
          · unfold cutP; split
            · show (setP _ _ _).length ≤ _; rw [set_len]; omega
            · rw [stepd_fs]; omega
          · unfold syncP; split
            · show (setP _ _ _).length ≤ _; rw [set_len]; omega
            · rw [stepd_fs]; omega
/-- The two disks behind k steps of a Save. -/
theorem save_rel {p : PD} {F : PFs} {dn : Bool} {fu : Int} (h : RelD p F dn fu) (hn : (keysP p.fs).Nodup) (vb : Value) (B : List Nat) : ∀ k, k ≤ 4 → RelD (sK p B k) (dS vb B ⟨F, dn, fu⟩ k).F (dS vb B ⟨F, dn, fu⟩ k).d (dS vb B ⟨F, dn, fu⟩ k).f ∧ (keysP (sK p B k).fs).Nodup ∧ (sK p B k).fs.length ≤ p.fs.length + k
  | 0, _ => ⟨h, hn, by show p.fs.length ≤ _; omega⟩
  | k + 1, hk => by
    obtain ⟨h1, h2, h3⟩ := save_rel h hn vb B k (by omega)
    obtain ⟨e1, -⟩ := step_sop vb B p k (by omega)
    have q := h1.step h2 (sop vb B k) (sop_k vb B k)
    have q2 := stepP_nod (sK p B k) (sop vb B k) h2
    have q3 := stepP_len (sK p B k) (sop vb B k)
    rw [e1] at q q2 q3
    exact ⟨q, q2, by omega⟩
theorem save_code {p : PD} {F : PFs} {dn : Bool} {fu : Int} (h : RelD p F dn fu) (hn : (keysP p.fs).Nodup) (vb : Value) (B : List Nat) (k : Nat) (hk : k ≤ 3) : dC vb B ⟨F, dn, fu⟩ k = cK p B k := by
  obtain ⟨h1, h2, -⟩ := save_rel h hn vb B k (by omega)
  have q := doC_eq h1 h2 (sop vb B k) (sop_k vb B k)
  rw [(step_sop vb B p k hk).2] at q
  exact q
theorem save_good {p : PD} {F : PFs} {dn : Bool} {fu : Int} (h : RelD p F dn fu) (hn : (keysP p.fs).Nodup) (hl : p.fs.length ≤ 100) (vb : Value) (B : List Nat) : Good vb B ⟨F, dn, fu⟩ := fun k hk _ => by
  obtain ⟨h1, h2, h3⟩ := save_rel h hn vb B k (by omega)
  have hl2 := h1.perm.length_eq
  exact ⟨by omega, ((h1.perm.map _).nodup_iff).2 h2, h1.lo, h1.hi⟩
/-- What is on a hard's disk. -/
def KF (p : PD) : Prop := (keysP p.fs).filter (fun s => decide (s ≠ sT)) = [] ∨ (keysP p.fs).filter (fun s => decide (s ≠ sT)) = [sH]
def KU (p : PD) : Prop := (keysP p.fs = [] ∨ keysP p.fs = [sH]) ∧ p.down = false
theorem KU.len {p : PD} (h : KU p) : p.fs.length ≤ 1 := by
  have e : (keysP p.fs).length = p.fs.length := by unfold keysP; rw [List.length_map]
  rw [← e]
  rcases h.1 with q | q <;> rw [q] <;> simp
theorem KU.no {p : PD} (h : KU p) : getP p.fs sT = none := keys_getP.2 fun m => by
  rcases h.1 with q | q
  · rw [q] at m; cases m
  · rw [q] at m; exact ne_TH (List.mem_singleton.1 m)
theorem KU.kf {p : PD} (h : KU p) : KF p := by
  unfold KF
  rcases h.1 with q | q <;> rw [q]
  · exact .inl rfl
  · exact .inr (by rw [List.filter_cons_of_pos (by simpa using Ne.symm ne_TH)]; rfl)
theorem kf_end {fs : PFs} {x : PF} {d : Bool} {f : Int} {p : PD} (h : KU p) (e : fs = p.fs) : KF ⟨fs ++ [(sT, x)], d, f⟩ := by
  have q := h.kf
  unfold KF at q ⊢
  subst e
  have e2 : (keysP (p.fs ++ [(sT, x)])).filter (fun s => decide (s ≠ sT)) = (keysP p.fs).filter (fun s => decide (s ≠ sT)) := by
    unfold keysP
    rw [List.map_append, List.filter_append]
    simp
  dsimp only
  rw [e2]
  exact q
theorem ku_put {p : PD} (h : KU p) (x : PF) (f : Int) : KU ⟨putP p.fs sH x, false, f⟩ := by
  refine ⟨.inr ?_, rfl⟩
  dsimp only
  have hk := h.1
  obtain ⟨fs, d, g⟩ := p
  dsimp only at hk ⊢
  cases fs with
  | nil => rfl
  | cons q t =>
    rcases hk with e | e
    · cases e
    · unfold keysP at e
      rw [List.map_cons] at e
      obtain ⟨e1, e2⟩ := List.cons.inj e
      have e3 : t = [] := List.map_eq_nil_iff.1 e2
      subst e3
      unfold putP
      rw [if_pos e1]
      rfl
theorem RelD.here {p : PD} {F : PFs} {dn : Bool} {fu : Int} (h : RelD p F dn fu) (hd : p.down = false) : dn = false ∧ fu = p.fail := by
  have e := h.down
  rw [hd] at e
  exact ⟨e, h.fuse e⟩
/-- A Save of both. -/
theorem save_post {p : PD} {F : PFs} {dn : Bool} {fu t0 v0 t v : Int} {W w' : World} {BB : List Nat} {e : Ending} (h : RelD p F dn fu) (hn : (keysP p.fs).Nodup) (hk : KU p) (hp : RvPost W BB F dn fu t0 v0 t v e w') :
    ∃ F' dn' fu' t' v', OP W BB F' dn' fu' t' v' (saveC p t v t0 v0) e w' ∧ RelD (saveP p t v t0 v0) F' dn' fu' ∧ ((saveC p t v t0 v0 = 50 ∧ KF (saveP p t v t0 v0)) ∨ ((saveC p t v t0 v0 == 50) = false ∧ KU (saveP p t v t0 v0) ∧ t' = (saveV p t v t0 v0).1 ∧ v' = (saveV p t v t0 v0).2)) := by
  rcases hp with ⟨hr, ho⟩ | ⟨hr, rfl, rfl, ho⟩ | ⟨hr, hs, vb, ho⟩
  · have e1 : saveC p t v t0 v0 = 1 := by unfold saveC; rw [if_pos hr]
    have e2 : saveP p t v t0 v0 = p := by unfold saveP; rw [if_pos hr]
    have e3 : saveV p t v t0 v0 = (t0, v0) := by unfold saveV; rw [e1, if_neg (by decide)]
    rw [e1, e2, e3]
    exact ⟨F, dn, fu, t0, v0, ho, h, .inr ⟨rfl, hk, rfl, rfl⟩⟩
  · have e1 : saveC p t v t v = 0 := by unfold saveC; rw [if_neg (by rw [hr]; decide), if_pos ⟨rfl, rfl⟩]
    have e2 : saveP p t v t v = p := by unfold saveP; rw [if_neg (by rw [hr]; decide), if_pos ⟨rfl, rfl⟩]
    have e3 : saveV p t v t v = (t, v) := by unfold saveV; rw [e1, if_pos rfl]
    rw [e1, e2, e3]
    exact ⟨F, dn, fu, t, v, ho, h, .inr ⟨rfl, hk, rfl, rfl⟩⟩
  · obtain ⟨e1, e2⟩ := save_new (p := p) hr hs
    obtain ⟨B, hB⟩ : ∃ B, frB (payL t v) = B := ⟨_, rfl⟩
    have hBl : B.length ≤ 65536 := by rw [← hB]; exact fr_le t v
    rw [hB] at e1 e2 ho
    have sv : (svE p B = 50 ∧ KF (svP p B)) ∨ (svE p B = 0 ∧ KU (svP p B)) := by
      obtain ⟨ed, ef⟩ := h.here hk.2
      have hf : 0 ≤ p.fail := by rw [← ef]; exact h.lo
      obtain ⟨fs, d, f⟩ := p
      have hd : d = false := hk.2
      subst hd
      dsimp only at hf
      obtain ⟨c1, c2, c3, c4, c5⟩ := sv_all fs f B hf hk.no (by have := hk.len; dsimp only at this; omega) hBl
      have hcs : f = 1 ∨ f = 2 ∨ f = 3 ∨ f = 4 ∨ (f = 0 ∨ 5 ≤ f) := by omega
      rcases hcs with q | q | q | q | q
      · rw [(c1 q).2]; exact .inl ⟨(c1 q).1, hk.kf⟩
      · rw [(c2 q).2]; exact .inl ⟨(c2 q).1, kf_end hk rfl⟩
      · rw [(c3 q).2]; exact .inl ⟨(c3 q).1, kf_end hk rfl⟩
      · rw [(c4 q).2]; exact .inl ⟨(c4 q).1, kf_end hk rfl⟩
      · rw [(c5 q).2]; exact .inr ⟨(c5 q).1, ku_put hk _ _⟩
    unfold saveV
    rw [e1, e2]
    rcases ho with ⟨k, hk3, hz, hc, ho⟩ | ⟨hz, ho⟩
    · have ec := save_code h hn vb B k hk3
      rw [ec] at hc ho
      obtain ⟨f1, f2⟩ := sv_at p B k (by omega) (fun j hj => by rw [← save_code h hn vb B j (by omega)]; exact hz j hj) hc
      rw [f1, f2] at sv ⊢
      refine ⟨_, _, _, _, _, ho, (save_rel h hn vb B (k + 1) (by omega)).1, ?_⟩
      rcases sv with q | q
      · exact .inl q
      · exact absurd q.1 hc
    · obtain ⟨f1, f2⟩ := sv_end p B (fun j hj => by rw [← save_code h hn vb B j (by omega)]; exact hz j hj)
      rw [f1, f2] at sv ⊢
      refine ⟨_, _, _, _, _, ho, (save_rel h hn vb B 4 (by omega)).1, ?_⟩
      rcases sv with q | q
      · exact absurd q.1 (by decide)
      · exact .inr ⟨rfl, q.2, by rw [if_pos rfl], by rw [if_pos rfl]⟩
/-- An Open of both, behind a loss of power. -/
theorem open_rel {q : PD} {F : PFs} (h : RelD q F false 0) (hn : (keysP q.fs).Nodup) (hd : q.down = false) (hf : q.fail = 0) (hk : KF q) : RelD (opP q) (opF F) false 0 ∧ KU (opP q) ∧ rdP (nowOf (getP F sH)) = opV q ∧ opE q = 0 := by
  obtain ⟨o1, o2, o3, o4, o5, o6⟩ := op_ok q hd hf
  refine ⟨?_, ⟨?_, o2⟩, ?_, o1⟩
  · have eg := getP_perm h.perm hn sT
    unfold opF opP
    rw [eg]
    by_cases hs : sT ∈ keysP q.fs
    · have hso : (getP q.fs sT).isSome = true := by
        cases e : getP q.fs sT with
        | none => exact absurd hs (keys_getP.1 e)
        | some x => rfl
      rw [if_pos hso, if_pos (hasS_true hs)]
      have r := h.step hn ⟨2, sT, ByteArray.empty, 0, .slice none 0 0, [], .slice none 0 0, []⟩ ⟨by decide, by decide⟩
      have d2 := (do_two (F := F) (by rw [eg]; exact hso)).2
      have s1 : stD false 0 = false := by decide
      have s2 : stF false 0 = 0 := by decide
      rw [s1, s2, d2] at r
      exact r
    · have hso : getP q.fs sT = none := keys_getP.2 hs
      rw [if_neg (by rw [hasS_false hs]; decide), if_neg (by rw [hso]; decide)]
      exact h
  · rw [o5]; exact hk
  · rw [o6, getP_perm h.perm hn sH]
theorem kf_crash {p : PD} (h : KF p) (S : List ByteArray) (kp : List Bool) : KF (crashP p S kp) := by
  unfold KF at h ⊢
  rw [(crash_op p S kp).2.2]
  exact h
end Go.Proofs.YtfphopleniidfaaGreatDoor
