/- slices.Contains at strings, hard.Open, Term, Vote; conditions: the disk lies in memory, the table is laid. -/
import Derived.Test.YtfphopleniidfaaGreatDoorG7b
namespace Go.Proofs.YtfphopleniidfaaGreatDoor
open Go.RowKit Go.Lib
set_option linter.unusedVariables false
set_option linter.unusedSimpArgs false
set_option maxRecDepth 20000
theorem str_eq {a b : ByteArray} (h : a.toList = b.toList) : a = b := by
  rw [Go.Lib.toList_data, Go.Lib.toList_data] at h
  cases a; cases b
  simpa using Array.toList_inj.1 h
theorem str_ne {a b : ByteArray} (h : a ≠ b) : (a.toList == b.toList) = false := by rw [beq_eq_false_iff_ne]; exact fun e => h (str_eq e)
theorem str_ne' {a b : ByteArray} (h : a ≠ b) : ¬ a.toList = b.toList := fun e => h (str_eq e)
theorem OwnS.at5 {base : Nat} {w : World} {v : Value} {L : List ByteArray} (h : OwnS base w v L) : ∃ a c, v = .slice a L.length c ∧ L.length ≤ c ∧ c ≤ 9223372036854775807 ∧ ∀ i (hi : i < L.length), ∃ g, a = some ⟨g, 0, none⟩ ∧ w.cell? ⟨g, i, none⟩ = some (.string L[i]) := by
  rcases h.2 with ⟨rfl, e⟩ | ⟨g, cap, cur, rfl, hb, hg, h1, h2, h3, h4⟩
  · exact ⟨none, 0, by rw [e], by omega, by omega, fun i hi => by omega⟩
  · unfold maxLen at h2
    refine ⟨_, cap, rfl, h1, by omega, fun i hi => ⟨g, rfl, ?_⟩⟩
    rw [Go.Joins.cell_of_block hg, ← Array.getElem?_toList]
    have q : (cur.toList.take (L.length * 1))[i]? = cur.toList[i]? := by rw [List.getElem?_take, if_pos (by omega)]
    rw [← q, h4]
    simp [sv, hi]
def hasS (S : List ByteArray) (s : ByteArray) : Bool := S.any fun x => decide (x = s)
theorem hasS_true {S : List ByteArray} {s : ByteArray} (h : s ∈ S) : hasS S s = true := by unfold hasS; rw [List.any_eq_true]; exact ⟨s, h, by simp⟩
theorem hasS_false {S : List ByteArray} {s : ByteArray} (h : s ∉ S) : hasS S s = false := by
  unfold hasS
  rw [List.any_eq_false]
  intro x hx
  simp
  exact fun e => h (e ▸ hx)
def IxIs (S : List ByteArray) (s : ByteArray) (r : Int) : Prop := (r = -1 ∧ s ∉ S) ∨ (0 ≤ r ∧ s ∈ S)
set_option maxHeartbeats 1000000 in
set_option maxRecDepth 20000 in
theorem index_any (base : Nat) (v : Value) (S : List ByteArray) (s : ByteArray) (w : World) (h : OwnS base w v S) : Calls Tryz.prog 40 #[v, .string s] w fun e w' => ∃ r, e = .returned (.int .i64 r) ∧ IxIs S s r ∧ w' = w := by
  obtain ⟨a, c, rfl, hc, hm, hcell⟩ := h.at5
  have HC := hid hcell
  obtain ⟨n, hn⟩ : ∃ n, n = S.length := ⟨_, rfl⟩
  have HN := hid hn
  rw [← hn] at hc ⊢
  clear h hcell hn
  have l9 : (n : Int) ≤ 9223372036854775807 := by omega
  go_enter Tryz.func40, Tryz.ntmps40
  go_wp2
  go_loopw [8] (fun cv wr => ∃ i : Nat, i ≤ n ∧ cv = .int .i64 (i : Nat) ∧ wr = w ∧ ∀ j (hj : j < S.length), j < i → S[j] ≠ s) (fun cv _ => n - (intOf cv).toNat)
  case atStart => exact ⟨0, Nat.zero_le _, rfl, rfl, fun j _ hj => by omega⟩
  case round =>
    obtain ⟨i, hi, rfl, hw, hno⟩ := hrel
    subst hw
    have HNo := hid hno
    clear hno
    by_cases hlt : i < n
    · have hil : i < S.length := by rw [← HN.out]; exact hlt
      obtain ⟨g, eg, cell⟩ := HC.out i hil
      subst eg
      have l2 : (0 : Int) ≤ (i : Int) := by omega
      have l3 : (i : Int) < (n : Int) := by omega
      by_cases cs : S[i] = s
      · have HF := hid (show IxIs S s (i : Int) from .inr ⟨by omega, by rw [← cs]; exact List.getElem_mem hil⟩)
        rw [cs] at cell
        clear cs hil
        go_wp2
        go_ret
        exact ⟨_, rfl, HF.out, rfl⟩
      · have c1 := str_ne (Ne.symm cs)
        have c2 := str_ne' (Ne.symm cs)
        have HCs := hid cs
        have HNo2 := hid (show ∀ j (hj : j < S.length), j < i + 1 → S[j] ≠ s from fun j hj hj2 => by
          by_cases e : j = i
          · subst e; exact HCs.out
          · exact HNo.out j hj (by omega))
        clear cs HCs
        generalize S[i] = nm at *
        go_wp2
        go_roundw
        case rel => exact ⟨i + 1, hlt, by go_num, trivial, HNo2.out⟩
        case measure => simp [intOf]; omega
    · obtain rfl : i = n := by omega
      have l3 : ¬ (i : Int) < (i : Int) := by omega
      have HF := hid (show IxIs S s (-1) from .inl ⟨rfl, fun hm => by
        obtain ⟨j, hj, e⟩ := List.getElem_of_mem hm
        exact HNo.out j hj (by rw [HN.out]; exact hj) e⟩)
      clear hlt hi
      go_wp2
      go_ret
      exact ⟨_, rfl, HF.out, rfl⟩
set_option maxHeartbeats 400000 in
set_option maxRecDepth 20000 in
theorem contains_any (base : Nat) (v : Value) (S : List ByteArray) (s : ByteArray) (w : World) (h : OwnS base w v S) : Calls Tryz.prog 18 #[v, .string s] w fun e w' => e = .returned (.bool (hasS S s)) ∧ w' = w := by
  have HI := hid (index_any base v S s w h)
  obtain ⟨a, c, rfl⟩ := h.len
  generalize S.length = n at *
  clear h
  by_cases hs : s ∈ S
  · have e : hasS S s = true := hasS_true hs
    have HX := hid (HI.out.mono fun e w' q => show ∃ r : Int, e = .returned (.int .i64 r) ∧ 0 ≤ r ∧ w' = w from by
      obtain ⟨r, q1, q2, q3⟩ := q
      rcases q2 with ⟨_, z⟩ | ⟨z, _⟩
      · exact absurd hs z
      · exact ⟨r, q1, z, q3⟩)
    rw [e]
    clear HI e hs
    go_enter Tryz.func18, Tryz.ntmps18
    go_wp2_with (go_at_call 40; refine HX.out.mono ?_; rintro e w1 ⟨r, rfl, hr, hw⟩; have hw2 := hw.symm; subst hw2; clear hw)
    go_ret
    exact ⟨rfl, rfl⟩
  · have e : hasS S s = false := hasS_false hs
    have HX := hid (HI.out.mono fun e w' q => show e = .returned (.int .i64 (-1)) ∧ w' = w from by
      obtain ⟨r, q1, q2, q3⟩ := q
      rcases q2 with ⟨z, _⟩ | ⟨_, z⟩
      · rw [z] at q1; exact ⟨q1, q3⟩
      · exact absurd z hs)
    rw [e]
    clear HI e hs
    go_enter Tryz.func18, Tryz.ntmps18
    go_wp2_with (go_at_call 40; refine HX.out.mono ?_; rintro e w1 ⟨rfl, hw⟩; have hw2 := hw.symm; subst hw2; clear hw)
    go_ret
    exact ⟨rfl, rfl⟩
/-- Open, plain. -/
def opP (p : PD) : PD := if hasS (keysP p.fs) sT = true then removeP p sT else p
def opE (p : PD) : Int := if hasS (keysP p.fs) sT = true ∧ removeC p sT ≠ 0 then removeC p sT else if readC (opP p) sH ≠ 0 ∧ readC (opP p) sH ≠ 4 then readC (opP p) sH else 0
def opV (p : PD) : Int × Int := rdP (readL (opP p) sH)
theorem hasS_perm {S T : List ByteArray} (h : S.Perm T) (s : ByteArray) : hasS S s = hasS T s := by
  by_cases c : s ∈ S
  · rw [hasS_true c, hasS_true (h.mem_iff.1 c)]
  · rw [hasS_false c, hasS_false (fun z => c (h.mem_iff.2 z))]
theorem Dsk.less {w0 W : World} {db : Nat} {p : PD} {A B : List Nat} (h : Dsk w0 W db p A) (hB : ∀ g ∈ B, g ∈ A) : Dsk w0 W db p B := by
  obtain ⟨d, h1, h2, h3, h4, h5, h6⟩ := h
  exact ⟨d, h1, h2, h3, h4, h5, fun g hg => h6 g (hB g hg)⟩
theorem Dsk.nod {w0 W : World} {db : Nat} {p : PD} {A : List Nat} (h : Dsk w0 W db p A) : (keysP p.fs).Nodup := by
  obtain ⟨d, rfl, rfl, h3, h4, h5, h6⟩ := h
  show ((d.M.map pf).map (·.1)).Nodup
  rw [List.map_map]
  exact h3.nod
theorem mem_getP : ∀ {fs : PFs} {s : ByteArray} {x : PF}, getP fs s = some x → (s, x) ∈ fs
  | [], s, x, h => by cases h
  | q :: t, s, x, h => by
    unfold getP at h
    split at h
    · rename_i e; cases h; rw [← e]; exact List.mem_cons_self ..
    · exact List.mem_cons_of_mem _ (mem_getP h)
theorem Dsk.readLen {w0 W : World} {db : Nat} {p : PD} {A : List Nat} (h : Dsk w0 W db p A) (s : ByteArray) : (readL p s).length ≤ 65536 := by
  obtain ⟨d, rfl, rfl, h3, h4, h5, h6⟩ := h
  unfold readL
  split
  · unfold fileAt
    cases eg : getP d.p.fs s with
    | none => simp
    | some x =>
      obtain ⟨y, hy, e⟩ := List.mem_map.1 (mem_getP eg)
      have e2 := (Prod.mk.inj e).2
      have := (h3.files y hy).ln
      rw [← e2]
      exact this
  · simp
def OpPost (w0 W : World) (db : Nat) (p : PD) (A : List Nat) (pe : Int) (pp : PD) (pv : Int × Int) (e : Ending) (w' : World) : Prop :=
  (pe = 0 ∧ ∃ hb, e = .returned (.tuple #[.pointer (some ⟨hb, 0, none⟩), .int .i64 0]) ∧ Dsk w0 w' db pp (A ++ [hb]) ∧ w'.heap[hb]? = some (.cells #[.pointer (some ⟨db, 0, none⟩), .int .i64 pv.1, .int .i64 pv.2] 65 (0, 0)) ∧ w0.heap.size ≤ hb ∧ Kp A W w') ∨ (pe ≠ 0 ∧ e = .returned (.tuple #[.pointer none, .int .i64 pe]) ∧ Dsk w0 w' db pp A ∧ Kp A W w')
set_option maxHeartbeats 4000000 in
set_option maxRecDepth 20000 in
theorem open_any (w0 W : World) (db : Nat) (p : PD) (A : List Nat) (h : Dsk w0 W db p A) (ht : Pk.Tab w0) : Calls Tryz.prog 6 #[.pointer (some ⟨db, 0, none⟩)] W (OpPost w0 W db p A (opE p) (opP p) (opV p)) := by
  have HT := hid ht
  have HD := hid h
  have HRm := hid (fun (W' : World) (d : Dsk w0 W' db p A) => removeD w0 W' db p A sT d)
  clear h ht
  obtain ⟨hs, hhs⟩ : ∃ hs, hs = hasS (keysP p.fs) sT := ⟨_, rfl⟩
  have HHs := hid hhs
  clear hhs
  obtain ⟨q, hq⟩ : ∃ q, q = opP p := ⟨_, rfl⟩
  have HQ := hid hq
  have HRd := hid (fun (W' : World) (d : Dsk w0 W' db q A) => (readD w0 W' db q A sH d))
  have HRv := hid (fun (W' : World) (d : Dsk w0 W' db q A) (a0 : Option Addr) (c0 : Nat) (o : Own W' (.slice a0 (readL q sH).length c0) (readL q sH)) => read_any (readL q sH) a0 c0 W' (HT.out.up d.base) o.row (by have := d.readLen sH; omega))
  have HE := hid (show opE p = if hs = true ∧ removeC p sT ≠ 0 then removeC p sT else if readC q sH ≠ 0 ∧ readC q sH ≠ 4 then readC q sH else 0 from by unfold opE; rw [← HHs.out, ← HQ.out])
  have HV := hid (show opV p = rdP (readL q sH) from by unfold opV; rw [← HQ.out])
  have HQ2 := hid (show q = if hs = true then removeP p sT else p from by rw [HQ.out]; unfold opP; rw [← HHs.out])
  obtain ⟨rc, hrc⟩ : ∃ rc, rc = readC q sH := ⟨_, rfl⟩
  obtain ⟨rl, hrl⟩ : ∃ rl, rl = readL q sH := ⟨_, rfl⟩
  rw [← hrc] at HE HRd
  rw [← hrl] at HV HRd HRv
  obtain ⟨rm, hrm⟩ : ∃ rm, rm = removeC p sT := ⟨_, rfl⟩
  rw [← hrm] at HE HRm
  obtain ⟨E, hE⟩ : ∃ E, E = opE p := ⟨_, rfl⟩
  obtain ⟨V, hV⟩ : ∃ V, V = opV p := ⟨_, rfl⟩
  rw [← hE] at HE
  rw [← hV] at HV
  rw [← hE, ← hV, ← hq]
  obtain ⟨ln, hln⟩ : ∃ ln, ln = rl.length := ⟨_, rfl⟩
  have HLn := hid hln
  rw [← hln] at HRv
  obtain ⟨rp, hrp⟩ : ∃ rp, rp = rdP rl := ⟨_, rfl⟩
  rw [← hrp] at HV HRv
  clear hq hrc hrl hrm hE hV hln hrp HQ
  cases hs with
  | true =>
    have HQr := hid (show removeP p sT = q from by rw [HQ2.out, if_pos rfl])
    rw [HQr.out] at HRm
    go_enter Tryz.func6, Tryz.ntmps6
    go_upto_region 3 with (first | (go_at_call 13; refine (namesD w0 _ db p A HD.out).mono ?_; rintro e w2 ⟨vn, S4, rfl, hS4, hP4, oS4, u4⟩; have HSm := hid (show hasS S4 sT = true from by rw [HHs.out]; exact hasS_perm hS4 sT); have O4 := hid oS4; have U4 := hid u4; obtain ⟨a4, c4, e4⟩ := oS4.len; subst e4; clear u4 hS4 hP4 oS4) | (go_at_call 18; refine (contains_any _ _ S4 sT _ O4.out).mono ?_; rintro e w3 ⟨rfl, hw⟩; have hw2 := hw.symm; subst hw2; clear hw; rw [HSm.out]) | (go_at_call 19; refine (HRm.out _ (HD.out.old U4.out)).mono ?_; rintro e w4 ⟨rfl, d4, q4⟩; have HDq := hid d4; have HKq := hid ((Kp.old U4.out).trans q4); clear d4 q4))
    clear O4 HSm
    by_cases hm : rm = 0
    · subst hm
      go_upto_region 5 with (fail)
      have HRd2 := hid (HRd.out w4 HDq.out)
      by_cases hr : rc ≠ 0 ∧ rc ≠ 4
      · obtain ⟨r0, r4⟩ := hr
        have HE2 := hid (show E = rc from by rw [HE.out, if_neg (by simp), if_pos ⟨r0, r4⟩])
        have k1 : (rc != 0) = true := by rw [bne_iff_ne]; exact r0
        have k2 : (rc != 4) = true := by rw [bne_iff_ne]; exact r4
        have k3 : (rc == 0) = false := by rw [beq_eq_false_iff_ne]; exact r0
        have k4 : (rc == 4) = false := by rw [beq_eq_false_iff_ne]; exact r4
        have HR0 := hid r0
        clear r0 r4
        go_wp2_with (go_at_call 16; refine HRd2.out.mono ?_; rintro e w5 ⟨v5, rfl, o5, u5, -⟩; have O5 := hid o5; have U5 := hid u5; clear o5 u5)
        refine bodyPost_ret (v := .tuple #[.pointer none, .int .i64 rc]) (by simp [results, Tryz.results6, go_sem]) rfl (.inr ⟨by rw [HE2.out]; exact HR0.out, by rw [HE2.out], HDq.out.old U5.out, HKq.out.trans (Kp.old U5.out)⟩)
      · have HE2 := hid (show E = 0 from by rw [HE.out, if_neg (by simp), if_neg hr])
        by_cases r0 : rc = 0
        · subst r0
          clear hr
          go_wp2_with (first | (go_at_call 16; refine HRd2.out.mono ?_; rintro e w5 ⟨v5, rfl, o5, u5, -⟩; obtain ⟨a5, c5, e5⟩ := o5.len; rw [← HLn.out] at e5; subst e5; have O5 := hid o5; have U5 := hid u5; clear o5 u5) | (go_at_call 20; refine (HRv.out _ (HDq.out.old U5.out) a5 c5 O5.out).mono ?_; rintro e w6 ⟨rfl, u6⟩; have U6 := hid u6; clear u6))
          have HUf := hid (show Old w4 (w6.alloc (.cells #[.pointer (some ⟨db, 0, none⟩), .int .i64 rp.1, .int .i64 rp.2] 65)) from (U5.out.trans U6.out).alloc _)
          refine bodyPost_ret (v := .tuple #[.pointer (some ⟨w6.heap.size, 0, none⟩), .int .i64 0]) (by simp [results, Tryz.results6, go_sem]) rfl (.inl ⟨HE2.out, w6.heap.size, rfl, HDq.out.add HUf.out [w6.heap.size] (fun g hg => by rw [List.mem_singleton.1 hg]; exact ⟨(U5.out.trans U6.out).size, by simp⟩), by rw [HV.out]; exact alloc_at w6 _, Nat.le_trans HDq.out.base.size (U5.out.trans U6.out).size, HKq.out.trans (Kp.old HUf.out)⟩)
        · have r4 : rc = 4 := Classical.byContradiction fun c => hr ⟨r0, c⟩
          subst r4
          clear hr
          go_wp2_with (first | (go_at_call 16; refine HRd2.out.mono ?_; rintro e w5 ⟨v5, rfl, o5, u5, -⟩; obtain ⟨a5, c5, e5⟩ := o5.len; rw [← HLn.out] at e5; subst e5; have O5 := hid o5; have U5 := hid u5; clear o5 u5) | (go_at_call 20; refine (HRv.out _ (HDq.out.old U5.out) a5 c5 O5.out).mono ?_; rintro e w6 ⟨rfl, u6⟩; have U6 := hid u6; clear u6))
          have HUf := hid (show Old w4 (w6.alloc (.cells #[.pointer (some ⟨db, 0, none⟩), .int .i64 rp.1, .int .i64 rp.2] 65)) from (U5.out.trans U6.out).alloc _)
          refine bodyPost_ret (v := .tuple #[.pointer (some ⟨w6.heap.size, 0, none⟩), .int .i64 0]) (by simp [results, Tryz.results6, go_sem]) rfl (.inl ⟨HE2.out, w6.heap.size, rfl, HDq.out.add HUf.out [w6.heap.size] (fun g hg => by rw [List.mem_singleton.1 hg]; exact ⟨(U5.out.trans U6.out).size, by simp⟩), by rw [HV.out]; exact alloc_at w6 _, Nat.le_trans HDq.out.base.size (U5.out.trans U6.out).size, HKq.out.trans (Kp.old HUf.out)⟩)
    · have HE2 := hid (show E = rm from by rw [HE.out, if_pos (by simp [hm])])
      have k1 : (rm != 0) = true := by rw [bne_iff_ne]; exact hm
      have k3 : (rm == 0) = false := by rw [beq_eq_false_iff_ne]; exact hm
      have HR0 := hid hm
      clear hm
      go_wp2
      refine bodyPost_ret (v := .tuple #[.pointer none, .int .i64 rm]) (by simp [results, Tryz.results6, go_sem]) rfl (.inr ⟨by rw [HE2.out]; exact HR0.out, by rw [HE2.out], HDq.out, HKq.out⟩)
  | false =>
    have HQr := hid (show p = q from by rw [HQ2.out, if_neg (by simp)])
    go_enter Tryz.func6, Tryz.ntmps6
    go_upto_region 5 with (first | (go_at_call 13; refine (namesD w0 _ db p A HD.out).mono ?_; rintro e w2 ⟨vn, S4, rfl, hS4, hP4, oS4, u4⟩; have HSm := hid (show hasS S4 sT = false from by rw [HHs.out]; exact hasS_perm hS4 sT); have O4 := hid oS4; have U4 := hid u4; obtain ⟨a4, c4, e4⟩ := oS4.len; subst e4; clear u4 hS4 hP4 oS4) | (go_at_call 18; refine (contains_any _ _ S4 sT _ O4.out).mono ?_; rintro e w3 ⟨rfl, hw⟩; have hw2 := hw.symm; subst hw2; clear hw; rw [HSm.out]))
    clear O4 HSm
    have HDq := hid (show Dsk w0 w2 db q A from by rw [← HQr.out]; exact HD.out.old U4.out)
    have HKq := hid (show Kp A W w2 from Kp.old U4.out)
    have HRd2 := hid (HRd.out w2 HDq.out)
    by_cases hr : rc ≠ 0 ∧ rc ≠ 4
    · obtain ⟨r0, r4⟩ := hr
      have HE2 := hid (show E = rc from by rw [HE.out, if_neg (by simp), if_pos ⟨r0, r4⟩])
      have k1 : (rc != 0) = true := by rw [bne_iff_ne]; exact r0
      have k2 : (rc != 4) = true := by rw [bne_iff_ne]; exact r4
      have k3 : (rc == 0) = false := by rw [beq_eq_false_iff_ne]; exact r0
      have k4 : (rc == 4) = false := by rw [beq_eq_false_iff_ne]; exact r4
      have HR0 := hid r0
      clear r0 r4
      go_wp2_with (go_at_call 16; refine HRd2.out.mono ?_; rintro e w5 ⟨v5, rfl, o5, u5, -⟩; have O5 := hid o5; have U5 := hid u5; clear o5 u5)
      refine bodyPost_ret (v := .tuple #[.pointer none, .int .i64 rc]) (by simp [results, Tryz.results6, go_sem]) rfl (.inr ⟨by rw [HE2.out]; exact HR0.out, by rw [HE2.out], HDq.out.old U5.out, HKq.out.trans (Kp.old U5.out)⟩)
    · have HE2 := hid (show E = 0 from by rw [HE.out, if_neg (by simp), if_neg hr])
      by_cases r0 : rc = 0
      · subst r0
        clear hr
        go_wp2_with (first | (go_at_call 16; refine HRd2.out.mono ?_; rintro e w5 ⟨v5, rfl, o5, u5, -⟩; obtain ⟨a5, c5, e5⟩ := o5.len; rw [← HLn.out] at e5; subst e5; have O5 := hid o5; have U5 := hid u5; clear o5 u5) | (go_at_call 20; refine (HRv.out _ (HDq.out.old U5.out) a5 c5 O5.out).mono ?_; rintro e w6 ⟨rfl, u6⟩; have U6 := hid u6; clear u6))
        have HUf := hid (show Old w2 (w6.alloc (.cells #[.pointer (some ⟨db, 0, none⟩), .int .i64 rp.1, .int .i64 rp.2] 65)) from (U5.out.trans U6.out).alloc _)
        refine bodyPost_ret (v := .tuple #[.pointer (some ⟨w6.heap.size, 0, none⟩), .int .i64 0]) (by simp [results, Tryz.results6, go_sem]) rfl (.inl ⟨HE2.out, w6.heap.size, rfl, HDq.out.add HUf.out [w6.heap.size] (fun g hg => by rw [List.mem_singleton.1 hg]; exact ⟨(U5.out.trans U6.out).size, by simp⟩), by rw [HV.out]; exact alloc_at w6 _, Nat.le_trans HDq.out.base.size (U5.out.trans U6.out).size, HKq.out.trans (Kp.old HUf.out)⟩)
      · have r4 : rc = 4 := Classical.byContradiction fun c => hr ⟨r0, c⟩
        subst r4
        clear hr
        go_wp2_with (first | (go_at_call 16; refine HRd2.out.mono ?_; rintro e w5 ⟨v5, rfl, o5, u5, -⟩; obtain ⟨a5, c5, e5⟩ := o5.len; rw [← HLn.out] at e5; subst e5; have O5 := hid o5; have U5 := hid u5; clear o5 u5) | (go_at_call 20; refine (HRv.out _ (HDq.out.old U5.out) a5 c5 O5.out).mono ?_; rintro e w6 ⟨rfl, u6⟩; have U6 := hid u6; clear u6))
        have HUf := hid (show Old w2 (w6.alloc (.cells #[.pointer (some ⟨db, 0, none⟩), .int .i64 rp.1, .int .i64 rp.2] 65)) from (U5.out.trans U6.out).alloc _)
        refine bodyPost_ret (v := .tuple #[.pointer (some ⟨w6.heap.size, 0, none⟩), .int .i64 0]) (by simp [results, Tryz.results6, go_sem]) rfl (.inl ⟨HE2.out, w6.heap.size, rfl, HDq.out.add HUf.out [w6.heap.size] (fun g hg => by rw [List.mem_singleton.1 hg]; exact ⟨(U5.out.trans U6.out).size, by simp⟩), by rw [HV.out]; exact alloc_at w6 _, Nat.le_trans HDq.out.base.size (U5.out.trans U6.out).size, HKq.out.trans (Kp.old HUf.out)⟩)
set_option maxHeartbeats 400000 in
set_option maxRecDepth 20000 in
theorem term_any (hb : Nat) (x : Value) (t v : Int) (w : World) (h : w.heap[hb]? = some (.cells #[x, .int .i64 t, .int .i64 v] 65 (0, 0))) : Calls Tryz.prog 14 #[.pointer (some ⟨hb, 0, none⟩)] w fun e w' => e = .returned (.int .i64 t) ∧ w' = w := by
  have c1 : w.cell? ⟨hb, 1, none⟩ = some (.int .i64 t) := by rw [Go.Joins.cell_of_block h]; rfl
  clear h
  go_enter Tryz.func14, Tryz.ntmps14
  go_wp2
  go_ret
  exact ⟨rfl, rfl⟩
set_option maxHeartbeats 400000 in
set_option maxRecDepth 20000 in
theorem vote_any (hb : Nat) (x : Value) (t v : Int) (w : World) (h : w.heap[hb]? = some (.cells #[x, .int .i64 t, .int .i64 v] 65 (0, 0))) : Calls Tryz.prog 15 #[.pointer (some ⟨hb, 0, none⟩)] w fun e w' => e = .returned (.int .i64 v) ∧ w' = w := by
  have c1 : w.cell? ⟨hb, 2, none⟩ = some (.int .i64 v) := by rw [Go.Joins.cell_of_block h]; rfl
  clear h
  go_enter Tryz.func15, Tryz.ntmps15
  go_wp2
  go_ret
  exact ⟨rfl, rfl⟩
end Go.Proofs.YtfphopleniidfaaGreatDoor
