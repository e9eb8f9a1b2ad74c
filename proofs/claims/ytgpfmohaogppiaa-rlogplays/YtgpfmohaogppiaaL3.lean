/- rlog's Append where entries without data follow, New; conditions: the rows lie in memory. -/
import Derived.Test.YtgpfmohaogppiaaL2
import Derived.Lib.SliceRun
namespace Go.Proofs.Ytgpfmohaogppiaa
open Go.RowKit Go.Lib
set_option linter.unusedVariables false
set_option linter.unusedSimpArgs false
set_option maxRecDepth 20000
set_option maxHeartbeats 4000000 in
set_option maxRecDepth 20000 in
theorem fault_ok (lb : Nat) (ix tm : Int) (n : Nat) (f : Nat → Ent) (li : Int) (U : Nat → Int) (b m : Nat) (w : World) (h : LogR w lb ix tm n f) (e1 : lastI ix n f = li) (e2 : lastT tm n f = U 0) (hm : m ≤ 1000) (hl : 0 ≤ li ∧ li ≤ 1000)
    (hU : ∀ k, k < m → U k ≤ U (k + 1)) (hU0 : ∀ k, k ≤ m → 0 ≤ U k ∧ U k ≤ 1000) (hE : ∀ k, k < m → EntIn w b (k * 4) (en (li + k + 1) (U (k + 1)))) :
    Calls Try.prog 31 #[.pointer (some ⟨lb, 0, none⟩), .slice (some ⟨b, 0, none⟩) m m] w fun e w' => e = .returned (.int .i64 0) ∧ Old w w' := by
  have HL := hid (last_any lb ix tm n f w h)
  rw [e1, e2] at HL
  have HU := hid hU
  have HU0 := hid hU0
  have HE := hid hE
  clear h e1 e2 hU hU0 hE
  have hmm : (m : Int) ≤ 1000 := by omega
  obtain ⟨hl1, hl2⟩ := hl
  go_enter Try.func31, Try.ntmps31
  go_upto_region 2 with (go_at_call 8; refine HL.out.mono ?_; rintro e w1 ⟨rfl, o1⟩; have O1 := hid o1; clear o1)
  go_wp2
  go_loopw [5, 6, 16] (fun a t i wx => ∃ k : Nat, k ≤ m ∧ i = .int .i64 k ∧ a = .int .i64 (li + k) ∧ t = .int .i64 (U k) ∧ Old w wx) (fun _ _ i _ => m - (intOf i).toNat)
  case atStart => exact ⟨0, Nat.zero_le _, rfl, by simp, rfl, O1.out⟩
  case round =>
    obtain ⟨k, hk, rfl, rfl, rfl, hu⟩ := hrel
    have UK := hid hu
    clear hu
    by_cases hlt : k < m
    · obtain ⟨x0, x1, x2, x3⟩ := EntIn.old (HE.out k hlt) UK.out
      have a1 := HU.out k hlt
      obtain ⟨a2, a3⟩ := HU0.out k hk
      obtain ⟨a4, a5⟩ := HU0.out (k + 1) hlt
      dsimp only [en] at x0 x1 x2 x3
      have HX : Hid (U (k + 1) = U (k + 1)) := hid rfl
      generalize hz : U (k + 1) = z at *
      generalize hy : U k = y at *
      have l1 : (0 : Int) ≤ (k : Int) := by omega
      have l2 : (k : Int) < (m : Int) := by omega
      have hR := hid (right_ok (li + k + 1) z ⟨by omega, by omega⟩ ⟨by omega, by omega⟩)
      have d1 : (li + (k : Int) + 1 != li + (k : Int) + 1) = false := by simp
      have d2 : decide (z < y) = false := decide_eq_false (by omega)
      go_wp2_with (go_at_call 46; refine (hR.out _).mono ?_; rintro e w2 ⟨rfl, o2⟩; have y0 := o2.keep (p := ⟨wr.heap.size, 0, none⟩) (v := .int .i64 (li + k + 1)) (by simp); have y1 := o2.keep (p := ⟨wr.heap.size, 1, none⟩) (v := .int .i64 z) (by simp); have O2 := hid ((UK.out.alloc _).trans o2); clear o2)
      go_quiet (fail)
      go_wp2
      exact ⟨⟨k + 1, hlt, by go_num, by go_num, by rw [hz], O2.out.drewN _⟩, by simp [intOf]; omega⟩
    · obtain rfl : m = k := by omega
      go_wp2
      go_ret
      exact ⟨rfl, UK.out⟩
def lsE (li : Int) (U : Nat → Int) : Nat → List Ent | 0 => [] | k + 1 => lsE li U k ++ [en (li + k + 1) (U (k + 1))]
theorem lsE_len (li : Int) (U : Nat → Int) : ∀ k, (lsE li U k).length = k
  | 0 => rfl
  | k + 1 => by unfold lsE; rw [List.length_append, lsE_len li U k]; rfl
set_option maxHeartbeats 4000000 in
set_option maxRecDepth 20000 in
theorem append_ok (w0 : World) (lb gc : Nat) (ve : Value) (ix tm at0 : Int) (cv1 cv2 : Value) (L : List Ent) (li : Int) (U : Nat → Int) (b m : Nat) (w : World) (h : LogO w0 lb gc ve ix tm at0 cv1 cv2 L w) (hL : L.length + m ≤ 1000) (e1 : lastI ix L.length (entA L) = li) (e2 : lastT tm L.length (entA L) = U 0) (hl : 0 ≤ li ∧ li ≤ 1000)
    (hU : ∀ k, k < m → U k ≤ U (k + 1)) (hU0 : ∀ k, k ≤ m → 0 ≤ U k ∧ U k ≤ 1000) (hE : ∀ k, k < m → EntIn w b (k * 4) (en (li + k + 1) (U (k + 1)))) (hb : lb < b) (hbo : ve.ownBlock ≠ some b) :
    Calls Try.prog 10 #[.pointer (some ⟨lb, 0, none⟩), .slice (some ⟨b, 0, none⟩) m m] w fun e w' => e = .returned (.int .i64 0) ∧ ∃ ve', LogO w0 lb gc ve' ix tm at0 cv1 cv2 (L ++ lsE li U m) w' := by
  have HF := hid (fault_ok lb ix tm L.length (entA L) li U b m w (h.r (by omega)) e1 e2 (by omega) hl hU hU0 hE)
  have HLo := hid h
  have HE := hid hE
  have HL := hid hL
  have HB := hid hb
  have HBo := hid hbo
  clear h e1 e2 hU hU0 hE hbo hl
  have hmm : (m : Int) ≤ 1000 := by omega
  go_enter Try.func10, Try.ntmps10
  go_upto_region 4 with (go_at_call 31; refine HF.out.mono ?_; rintro e w1 ⟨rfl, o1⟩; have O1 := hid o1; clear o1)
  go_wp2
  go_loopw [16] (fun i wx => ∃ (k : Nat) (vk : Value), k ≤ m ∧ i = .int .i64 k ∧ LogO w0 lb gc vk ix tm at0 cv1 cv2 (L ++ lsE li U k) wx ∧ (∀ j, j < m → EntIn wx b (j * 4) (en (li + j + 1) (U (j + 1)))) ∧ vk.ownBlock ≠ some b) (fun i _ => m - (intOf i).toNat)
  case atStart => exact ⟨0, ve, Nat.zero_le _, rfl, by rw [show lsE li U 0 = [] from rfl, List.append_nil]; exact HLo.out.old O1.out, fun j hj => EntIn.old (HE.out j hj) O1.out, HBo.out⟩
  case round =>
    obtain ⟨k, vk, hk, rfl, lk, ek, bk⟩ := hrel
    have LK := hid lk
    have EK := hid ek
    have BK := hid bk
    clear lk ek bk
    by_cases hlt : k < m
    · obtain ⟨x0, x1, x2, x3⟩ := EK.out k hlt
      have hbl := World.block_lt_of_cell? wr _ x0
      have HBl : Hid (b < wr.heap.size) := hid hbl
      clear hbl
      dsimp only [en] at x0 x1 x2 x3
      have HS : Hid (lsE li U (k + 1) = lsE li U k ++ [en (li + k + 1) (U (k + 1))]) := hid rfl
      have HP := hid (fun (W : World) (u : Old wr W) => put_ok w0 lb gc vk ix tm at0 cv1 cv2 (L ++ lsE li U k) (li + k + 1) (U (k + 1)) W (LK.out.old u) (by rw [List.length_append, lsE_len]; have := HL.out; omega))
      have HX : Hid (en (li + k + 1) (U (k + 1)) = en (li + k + 1) (U (k + 1))) := hid rfl
      generalize U (k + 1) = z at *
      have l1 : (0 : Int) ≤ (k : Int) := by omega
      have l2 : (k : Int) < (m : Int) := by omega
      go_wp2_with (go_at_call 32; refine (HP.out _ ((Old.refl wr).alloc _)).mono ?_; rintro e w2 ⟨rfl, v2, l2', c2, n2⟩; have L2 := hid l2'; have C2 := hid ((Chg.ofOld ((Old.refl wr).alloc _)).trans c2); have N2 := hid n2; clear l2' c2 n2)
      refine ⟨⟨k + 1, v2, hlt, by go_num, by rw [HS.out, ← List.append_assoc]; exact L2.out, fun j hj => ?_, fun e => ?_⟩, by simp [intOf]; omega⟩
      · have q := EK.out j hj
        have nb : b ∉ blks lb vk := fun e => by
          rcases mem_blks.1 e with e | e
          · have := HB.out; omega
          · exact BK.out e
        exact ⟨C2.out.cell q.1 nb, C2.out.cell q.2.1 nb, C2.out.cell q.2.2.1 nb, C2.out.cell q.2.2.2 nb⟩
      · rcases N2.out b e with q | q
        · exact BK.out q
        · have := HBl.out; simp at q; omega
    · obtain rfl : m = k := by omega
      go_wp2
      go_ret
      exact ⟨rfl, vk, LK.out⟩
set_option maxHeartbeats 2000000 in
set_option maxRecDepth 20000 in
theorem first_any (w : World) : Calls Try.prog 16 #[] w fun e w' => ∃ b1, e = .returned (.agg #[.slice (some ⟨b1, 0, none⟩) 2 2, .slice none 0 0]) ∧ NRowL w' (.slice (some ⟨b1, 0, none⟩) 2 2) 2 (fun i => (i : Int) + 1) ∧ Old w w' := by
  go_enter Try.func16, Try.ntmps16
  go_wp2
  refine bodyPost_ret (v := .agg #[.slice (some ⟨w.heap.size + 1, 0, none⟩) 2 2, .slice none 0 0]) (by simp [results, Try.results16, go_sem]) rfl ⟨w.heap.size + 1, rfl, ⟨by omega, _, 2, rfl, by omega, by omega, fun i hi => ⟨w.heap.size + 1, 0, rfl, ?_⟩⟩, (((Old.refl w).alloc _).alloc _)⟩
  match i, hi with
  | 0, _ => simp
  | 1, _ => simp
/-- A row that nothing may turn: it lies in new blocks. -/
theorem NRowL.shape {w : World} {v : Value} {n : Nat} {f : Nat → Int} (h : NRowL w v n f) : ∃ p c, v = .slice p n c ∧ True := by
  obtain ⟨_, p, c, e, _⟩ := h; exact ⟨p, c, e, trivial⟩
/-- A row that is nil, or lies somewhere. -/
def Sh (v : Value) : Prop := v = .slice none 0 0 ∨ ∃ g off n c, v = .slice (some ⟨g, off, none⟩) n c
/-- A new variable of a configuration: its cells are rows, and may be written. -/
structure T2 (rb : Nat) (w : World) : Prop where
  a : w.cell? ⟨rb, 0, none⟩ = some (.slice none 0 0)
  b : w.cell? ⟨rb, 1, none⟩ = some (.slice none 0 0)
  f : w.frozen? ⟨rb, 0, none⟩ = false
  g : w.frozen? ⟨rb, 1, none⟩ = false
theorem T2.old {rb : Nat} {w w' : World} (u : Old w w') (h : T2 rb w) : T2 rb w' := ⟨u.keep h.a, u.keep h.b, u.keepF h.a h.f, u.keepF h.b h.g⟩
theorem T2.there {rb : Nat} {w : World} (h : T2 rb w) : w.there rb 0 2 := fun j hj => by
  rw [Nat.zero_add]
  match j, hj with
  | 0, _ => exact ⟨by rw [h.a]; rfl, h.f⟩
  | 1, _ => exact ⟨by rw [h.b]; rfl, h.g⟩
theorem T2.set {rb : Nat} {w : World} (h : T2 rb w) (v1 v2 : Value) : (w.setCells rb 0 [v1, v2]).cell? ⟨rb, 0, none⟩ = some v1 ∧ (w.setCells rb 0 [v1, v2]).cell? ⟨rb, 1, none⟩ = some v2 := by
  have H := World.cell?_setCells_in rb [v1, v2] 0 w (fun j hj => (h.there j hj).1)
  exact ⟨by simpa using H 0 (by simp), by simpa using H 1 (by simp)⟩
theorem Old.setCells {a : World} {b : Nat} (hb : a.heap.size ≤ b) : ∀ (vs : List Value) (o : Nat) {w : World}, Old a w → Old a (w.setCells b o vs)
  | [], _, _, h => h
  | v :: r, o, _, h => by rw [World.setCells]; exact Old.setCells hb r (o + 1) (h.setCell hb v)
/-- A row of numbers does not lie where a row's head lies. -/
theorem NRowL.setCells {w : World} {v : Value} {n : Nat} {f : Nat → Int} (h : NRowL w v n f) {rb : Nat} (t : T2 rb w) (v1 v2 : Value) : NRowL (w.setCells rb 0 [v1, v2]) v n f := by
  obtain ⟨hn, p, c, e, h1, h2, hc⟩ := h
  refine ⟨hn, p, c, e, h1, h2, fun i hi => ?_⟩
  obtain ⟨g, off, e2, q⟩ := hc i hi
  refine ⟨g, off, e2, (World.cell?_setCells_out rb [v1, v2] 0 w ⟨g, off + i, none⟩ (fun e3 _ => ?_)).trans q⟩
  by_cases z : 2 ≤ off + i
  · exact .inr (by simpa using z)
  · exfalso
    have e4 : g = rb := e3
    subst e4
    rcases (show off + i = 0 ∨ off + i = 1 by omega) with e5 | e5
    · rw [e5, t.a] at q; cases q
    · rw [e5, t.b] at q; cases q
theorem infoCf : (Try.prog.info? 24).map (·.size) = some 2 := by kernel_rfl
theorem stepStoreC {ops : Array Oper} {o : Oper} {a : Act} {w : World} {K : Act → World → Prop} {Q : Exit → Act → World → Prop} {E : Prop} (hg : o.guard = none) (x y : Operand) (hop : o.op = Op.store 24 x y) (m : Nat) (u v : Value)
    (hx : a.eval x = .pointer (some ⟨m, 0, none⟩)) (hy : a.eval y = .agg #[u, v]) (ht : w.there m 0 2) (h1 : u.oneCell' = true) (h2 : v.oneCell' = true)
    (hK : K (a.put o.dst undef) (w.setCells m 0 [u, v])) :
    if Region.wanted o (yielded ops a.tmps) = true then Oper.wp Try.prog o a w K Q else E := by
  have hw : Region.wanted o (yielded ops a.tmps) = true := by simp [Region.wanted, hg]
  rw [if_pos hw]
  exact wp_store_mid _ x y hop m 0 _ hx hy ht infoCf (by simp [h1, h2]) hK
def ivs (n : Nat) (f : Nat → Int) : List Value := (lsI f n).map fun b => .int .i64 b
theorem infoInt : (Try.prog.info? 3).map (fun i => (i.zero, i.size, i.bytes)) = some (some (.int .i64 0), 1, 8) := by kernel_rfl
set_option maxHeartbeats 2000000 in
set_option maxRecDepth 20000 in
theorem cloneI_any (v : Value) (n : Nat) (f : Nat → Int) (w : World) (h : NRowL w v n f) (hs : Sh v) :
    Calls Try.prog 45 #[v] w fun e w' => ∃ v', e = .returned v' ∧ NRowL w' v' n f ∧ Sh v' ∧ Old w w' := by
  rcases hs with rfl | ⟨g, off, n', c', e⟩
  · obtain ⟨_, p, c, e, _⟩ := h
    cases e
    have hq := fun w => Go.Lib.run_eql_slice_nil (P := Try.prog) w 22 3 none 0 0 0 0 Try.underlying22
    go_enter Try.func45, Try.ntmps45
    go_wp2
    go_ret
    exact ⟨_, rfl, ⟨by omega, none, 0, rfl, by omega, by omega, fun i hi => by omega⟩, .inl rfl, Old.refl _⟩
  · obtain ⟨hn, p, c, rfl, hnc, hcm, hc⟩ := h
    cases e
    have hq := fun w => Go.Lib.run_eql_slice_nil (P := Try.prog) w 22 3 (some ⟨g, off, none⟩) n c' 0 0 Try.underlying22
    obtain ⟨i0, hi, hz0, hz1, hz2⟩ := info_parts infoInt
    have HI := hid (And.intro hi (And.intro hz0 (And.intro hz1 hz2)))
    have HC : Hid (∀ j u, (ivs n f)[j]? = some u → w.cell? ⟨g, off + j, none⟩ = some u) := hid (fun j u hj => by
      have hlt : j < n := by
        have := List.getElem?_eq_some_iff.1 hj
        obtain ⟨q, _⟩ := this
        simp [ivs, lsI_len] at q; exact q
      obtain ⟨g', off', e, q⟩ := hc j hlt
      cases e
      rw [q, ← hj]
      have q2 := lsI_get f n j hlt
      simp [ivs]
      rw [List.getElem?_eq_getElem (by rw [lsI_len]; exact hlt)]
      rw [List.getD_eq_getElem?_getD, List.getElem?_eq_getElem (by rw [lsI_len]; exact hlt)] at q2
      simp at q2 ⊢; exact q2.symm)
    have hE : w.alloc (.cells #[] 3) |>.ownsRow w.heap.size 3 1 (.slice (some ⟨w.heap.size, 0, none⟩) 0 0) 0 [] := World.ownsRow_made w #[] 0 (Nat.le_refl _) (by unfold maxLen; omega) rfl
    have HEE := hid hE
    have HN := hid hn
    clear hi hz0 hz1 hz2 hE hc
    go_enter Try.func45, Try.ntmps45
    go_wp2_with (at_builtin; refine wpList_append_own_at _ rfl (.tmp 5) (.tmp 6) 22 rfl w.heap.size 3 i0 _ 1 8 Try.underlying22 HI.out.1 HI.out.2.1 HI.out.2.2.1 HI.out.2.2.2 rfl (by decide) _ 0 [] rfl HEE.out ⟨g, off, none⟩ n c' (ivs n f) rfl (by simp [ivs, lsI_len]) (fun j u hj => by rw [Go.WideShapes.add_plain]; exact ((Old.refl w).alloc _).keep (HC.out j u hj)) (fun u hu => by simp [ivs] at hu; obtain ⟨a, _, rfl⟩ := hu; rfl) (by unfold maxLen; have := HN.out; omega) (by have := HN.out; omega) (by simp) ?_; intro v' w' h1 h2 h3 h4; have H1 := hid h1; have H2 := hid (Old.below ((Old.refl w).alloc (.cells #[] 3)) (Below.grown (Below.refl _ _) h2 (by simp) (fun k hk => by cases hk; exact Nat.le_refl _))); clear h1 h2 h3 h4)
    go_ret
    have q := H1.out
    rw [Nat.zero_add, List.nil_append] at q
    refine ⟨_, rfl, ?_, ?_, H2.out⟩
    rotate_left
    · rcases q.2 with ⟨e1, e⟩ | ⟨g', cap, cur, e3, _⟩
      · exact .inl e1
      · exact .inr ⟨g', 0, n, cap, e3⟩
    rcases q.2 with ⟨e1, e⟩ | ⟨g', cap, cur, e3, hb, hg, hnc', hcm', hcs, htk⟩
    · exact ⟨hn, none, 0, by rw [e]; exact e1, by omega, by omega, fun i hi => by omega⟩
    · refine ⟨hn, some ⟨g', 0, none⟩, cap, e3, hnc', by unfold maxLen at hcm'; omega, fun i hi => ⟨g', 0, rfl, ?_⟩⟩
      have e4 := q
      rw [e3] at e4
      rw [Nat.zero_add, e4.cellAt i (by omega)]
      have q2 := lsI_get f n i hi
      rw [List.getD_eq_getElem?_getD, List.getElem?_eq_getElem (by rw [lsI_len]; exact hi)] at q2
      simp [ivs]
      rw [List.getElem?_eq_getElem (by rw [lsI_len]; exact hi)]
      simp at q2 ⊢; exact q2
set_option maxHeartbeats 4000000 in
set_option maxRecDepth 20000 in
theorem clone_any (v1 v2 : Value) (n1 n2 : Nat) (f1 f2 : Nat → Int) (w : World) (h1 : NRowL w v1 n1 f1) (h2 : NRowL w v2 n2 f2) (s1 : Sh v1) (s2 : Sh v2) :
    Calls Try.prog 30 #[.agg #[v1, v2]] w fun e w' => ∃ u1 u2, e = .returned (.agg #[u1, u2]) ∧ NRowL w' u1 n1 f1 ∧ NRowL w' u2 n2 f2 ∧ Sh u1 ∧ Sh u2 ∧ Old w w' := by
  have HC1 := hid (fun (W : World) (u : Old w W) => cloneI_any v1 n1 f1 W (h1.old u) s1)
  have HC2 := hid (fun (W : World) (u : Old w W) => cloneI_any v2 n2 f2 W (h2.old u) s2)
  obtain ⟨_, p1, c1, rfl, _⟩ := h1
  obtain ⟨_, p2, c2, rfl, _⟩ := h2
  clear s1 s2
  go_enter Try.func30, Try.ntmps30
  go_upto_region 1 with (fail)
  generalize hw2 : ((w.alloc (.cells #[.slice p1 n1 c1, .slice p2 n2 c2] 24)).alloc (.cells #[.slice none 0 0, .slice none 0 0] 24)) = w2
  have HUw := hid (show Old w w2 from by rw [← hw2]; exact ((Old.refl w).alloc _).alloc _)
  have S0 : w2.cell? ⟨w.heap.size, 0, none⟩ = some (.slice p1 n1 c1) ∧ w2.cell? ⟨w.heap.size, 1, none⟩ = some (.slice p2 n2 c2) := by rw [← hw2]; exact ⟨((Old.refl _).alloc _).keep (by simp), ((Old.refl _).alloc _).keep (by simp)⟩
  have HT := hid (show T2 (w.heap.size + 1) w2 from by rw [← hw2]; exact ⟨by simp, by simp, by simp, by simp⟩)
  have HRb := hid (show w.heap.size ≤ w.heap.size + 1 from by omega)
  have HBR := hid (show w.heap.size ≠ w.heap.size + 1 from by omega)
  clear hw2
  have HC1' := hid (fun (W : World) (u : Old w2 W) => HC1.out W (HUw.out.trans u))
  have HC2' := hid (fun (W : World) (u : Old w2 W) => HC2.out W (HUw.out.trans u))
  clear HC1 HC2
  have HC1 := HC1'
  have HC2 := HC2'
  clear HC1' HC2'
  generalize hrb : w.heap.size + 1 = rb at *
  generalize hbx : w.heap.size = bx at *
  refine wp_region_noPanic ?_
  refine wp_region_held_drew (S := fun wz => wz.cell? ⟨bx, 0, none⟩ = some (.slice p1 n1 c1) ∧ wz.cell? ⟨bx, 1, none⟩ = some (.slice p2 n2 c2)) (by kernel_rfl) ?_ (fun hHeld => ?_)
  · exact ⟨((Old.refl _).drew).keep S0.1, ((Old.refl _).drew).keep S0.2⟩
  (try simp only [Act.put]); (try simp only [List.setIfInBounds_toArray]); (try simp only [List.set_cons_succ]); (try simp only [List.set_cons_zero])
  clear hHeld
  refine wpAnyH_take (i := 0) (oi := { dst := some 3, op := Op.fieldAddr 24 (Operand.tmp 1) 0, type := 0, pos := "rlog.go:38", after := #[], guard := none }) (v := ?vk1) rfl (by kernel_rfl) (by kernel_rfl) (by kernel_rfl) (fun _ _ _ h => h) (Or.inl ⟨by rfl, ?hk1⟩) (show _ ∧ _ from ⟨((Old.refl _).drew).keep S0.1, ((Old.refl _).drew).keep S0.2⟩) ?rk1
  case hk1 => (intro wz hSw; (try dsimp only at hSw); go_simp; try with_reducible rfl)
  (try simp only [Act.put]); (try simp only [List.setIfInBounds_toArray]); (try simp only [List.set_cons_succ]); (try simp only [List.set_cons_zero])
  refine wpAnyH_take (i := 1) (oi := { dst := some 4, op := Op.load 22 (Operand.tmp 3), type := 22, pos := "rlog.go:38", after := #[{ on := 0, ground := Ground.data }], guard := none }) (v := ?vk2) rfl (by kernel_rfl) (by kernel_rfl) (by kernel_rfl) (fun _ _ _ h => h) (Or.inl ⟨by rfl, ?hk2⟩) (show _ ∧ _ from ⟨((Old.refl _).drew).keep S0.1, ((Old.refl _).drew).keep S0.2⟩) ?rk2
  case hk2 => (intro wz hSw; (try dsimp only at hSw); go_simp; try with_reducible rfl)
  (try simp only [Act.put]); (try simp only [List.setIfInBounds_toArray]); (try simp only [List.set_cons_succ]); (try simp only [List.set_cons_zero])
  refine wpAnyH_take (i := 3) (oi := { dst := some 6, op := Op.fieldAddr 24 (Operand.tmp 1) 1, type := 0, pos := "rlog.go:38", after := #[], guard := none }) (v := ?vk3) rfl (by kernel_rfl) (by kernel_rfl) (by kernel_rfl) (fun _ _ _ h => h) (Or.inl ⟨by rfl, ?hk3⟩) (show _ ∧ _ from ⟨((Old.refl _).drew).keep S0.1, ((Old.refl _).drew).keep S0.2⟩) ?rk3
  case hk3 => (intro wz hSw; (try dsimp only at hSw); go_simp; try with_reducible rfl)
  (try simp only [Act.put]); (try simp only [List.setIfInBounds_toArray]); (try simp only [List.set_cons_succ]); (try simp only [List.set_cons_zero])
  refine wpAnyH_take (i := 4) (oi := { dst := some 7, op := Op.load 22 (Operand.tmp 6), type := 22, pos := "rlog.go:38", after := #[{ on := 3, ground := Ground.data }], guard := none }) (v := ?vk4) rfl (by kernel_rfl) (by kernel_rfl) (by kernel_rfl) (fun _ _ _ h => h) (Or.inl ⟨by rfl, ?hk4⟩) (show _ ∧ _ from ⟨((Old.refl _).drew).keep S0.1, ((Old.refl _).drew).keep S0.2⟩) ?rk4
  case hk4 => (intro wz hSw; (try dsimp only at hSw); go_simp; try with_reducible rfl)
  (try simp only [Act.put]); (try simp only [List.setIfInBounds_toArray]); (try simp only [List.set_cons_succ]); (try simp only [List.set_cons_zero])
  refine wpAnyH_ready (rs := [2]) (by kernel_rfl) (by simp) ?_
  refine AllReadyH.cons (o := { dst := some 5, op := Op.call { callee := Callee.value (Operand.func 45), args := #[Operand.tmp 4], argTypes := #[22] }, type := 22, pos := "rlog.go:38", after := #[{ on := 1, ground := Ground.data }], guard := none }) rfl (fun K hK => ?_) AllReadyH.nil
  · skip
    refine stepCallF1 ?_ 45 (.tmp 4) #[22] ?_ (.slice p1 n1 c1) ?_ ?_ (enters_of Try.func45 (by kernel_rfl) rfl _ _) ?_
    · rfl
    · rfl
    · rfl
    · rfl
    refine (HC1.out _ ((Old.refl w2).drew)).mono ?_
    rintro o x5 ⟨u5, rfl, r5, q5, b5⟩
    have s5 := hid q5
    clear q5
    obtain ⟨p1', c1', e1', _⟩ := r5.shape
    subst e1'
    refine ⟨_, rfl, ?_⟩
    have U5 := ((Old.refl w2).drew).trans b5
    have S5 : _ ∧ _ := ⟨b5.keep (show _ ∧ _ from ⟨((Old.refl _).drew).keep S0.1, ((Old.refl _).drew).keep S0.2⟩).1, b5.keep (show _ ∧ _ from ⟨((Old.refl _).drew).keep S0.1, ((Old.refl _).drew).keep S0.2⟩).2⟩
    refine hK.out _ _ S5 (fun _ => ?_)
    clear hK K
    (try simp only [Act.put]); (try simp only [List.setIfInBounds_toArray]); (try simp only [List.set_cons_succ]); (try simp only [List.set_cons_zero])
    refine wpAnyH_ready (rs := [5]) (by kernel_rfl) (by simp) ?_
    refine AllReadyH.cons (o := { dst := some 8, op := Op.call { callee := Callee.value (Operand.func 45), args := #[Operand.tmp 7], argTypes := #[22] }, type := 22, pos := "rlog.go:38", after := #[{ on := 4, ground := Ground.data }, { on := 2, ground := Ground.chain }], guard := none }) rfl (fun K hK => ?_) AllReadyH.nil
    · skip
      refine stepCallF1 ?_ 45 (.tmp 7) #[22] ?_ (.slice p2 n2 c2) ?_ ?_ (enters_of Try.func45 (by kernel_rfl) rfl _ _) ?_
      · rfl
      · rfl
      · rfl
      · rfl
      refine (HC2.out _ U5).mono ?_
      rintro o x6 ⟨u6, rfl, r6, q6, b6⟩
      have s6 := hid q6
      clear q6
      obtain ⟨p2', c2', e2', _⟩ := r6.shape
      subst e2'
      refine ⟨_, rfl, ?_⟩
      have U6 := U5.trans b6
      have S6 : _ ∧ _ := ⟨b6.keep S5.1, b6.keep S5.2⟩
      have Q6 := r5.old b6
      refine hK.out _ _ S6 (fun _ => ?_)
      clear hK K
      (try simp only [Act.put]); (try simp only [List.setIfInBounds_toArray]); (try simp only [List.set_cons_succ]); (try simp only [List.set_cons_zero])
      refine wpAnyH_take (i := 6) (oi := { dst := some 9, op := Op.build 24 #[(0, Operand.tmp 5), (1, Operand.tmp 8)], type := 24, pos := "rlog.go:38", after := #[{ on := 2, ground := Ground.data }, { on := 5, ground := Ground.data }], guard := none }) (v := ?vk7) rfl (by kernel_rfl) (by kernel_rfl) (by kernel_rfl) (fun _ _ _ h => h) (Or.inl ⟨by rfl, ?hk7⟩) S6 ?rk7
      case hk7 => (intro wz hSw; (try dsimp only at hSw); go_simp; try with_reducible rfl)
      (try simp only [Act.put]); (try simp only [List.setIfInBounds_toArray]); (try simp only [List.set_cons_succ]); (try simp only [List.set_cons_zero])
      refine wpAnyH_ready (rs := [7]) (by kernel_rfl) (by simp) ?_
      refine AllReadyH.cons (o := { dst := none, op := Op.store 24 (Operand.tmp 2) (Operand.tmp 9), type := 0, pos := "rlog.go:38", after := #[{ on := 6, ground := Ground.data }, { on := 5, ground := Ground.chain }, { on := 0, ground := Ground.phase }, { on := 1, ground := Ground.phase }, { on := 2, ground := Ground.phase }, { on := 3, ground := Ground.phase }, { on := 4, ground := Ground.phase }, { on := 5, ground := Ground.phase }, { on := 6, ground := Ground.phase }], guard := none }) rfl (fun K hK => ?_) AllReadyH.nil
      · skip
        have T8 := T2.old U6 HT.out
        refine stepStoreC ?_ (.tmp 2) (.tmp 9) ?_ rb (.slice p1' n1 c1') (.slice p2' n2 c2') ?_ ?_ T8.there rfl rfl ?_
        · rfl
        · rfl
        · rfl
        · rfl
        have V8 := hid (Old.setCells (a := w) (b := rb) (by have := HRb.out; omega) [.slice p1' n1 c1', .slice p2' n2 c2'] 0 (HUw.out.trans U6))
        have G8 := hid (T8.set (.slice p1' n1 c1') (.slice p2' n2 c2'))
        have M1 := hid (NRowL.setCells Q6 T8 (.slice p1' n1 c1') (.slice p2' n2 c2'))
        have M2 := hid (NRowL.setCells r6 T8 (.slice p1' n1 c1') (.slice p2' n2 c2'))
        have S8 : _ ∧ _ := ⟨(World.cell?_setCells_out rb [.slice p1' n1 c1', .slice p2' n2 c2'] 0 _ ⟨bx, 0, none⟩ (fun e => absurd e HBR.out)).trans S6.1, (World.cell?_setCells_out rb [.slice p1' n1 c1', .slice p2' n2 c2'] 0 _ ⟨bx, 1, none⟩ (fun e => absurd e HBR.out)).trans S6.2⟩
        refine hK.out _ _ S8 (fun _ => ?_)
        clear hK K
        (try simp only [Act.put]); (try simp only [List.setIfInBounds_toArray]); (try simp only [List.set_cons_succ]); (try simp only [List.set_cons_zero])
        refine wpAnyH_done (by kernel_rfl) ?_ _
        refine NoPanic.normal ?_
        obtain ⟨g0, g1⟩ := G8.out
        go_wp2
        refine bodyPost_ret (v := .agg #[.slice p1' n1 c1', .slice p2' n2 c2']) (by simp [results, Try.results30, go_sem, g0, g1]) rfl ⟨_, _, rfl, M1.out, M2.out, s5.out, s6.out, V8.out⟩
set_option maxHeartbeats 1000000 in
set_option maxRecDepth 20000 in
theorem clamp0 (w : World) : Calls Try.prog 29 #[.int .i64 0] w fun e w' => e = .returned (.int .i64 0) ∧ w' = w := by
  go_enter Try.func29, Try.ntmps29
  go_wp2
  go_ret
  exact ⟨rfl, rfl⟩
set_option maxHeartbeats 4000000 in
set_option maxRecDepth 20000 in
theorem new_ok (v1 v2 : Value) (n1 n2 : Nat) (f1 f2 : Nat → Int) (w : World) (h1 : NRowL w v1 n1 f1) (h2 : NRowL w v2 n2 f2) (s1 : Sh v1) (s2 : Sh v2) :
    Calls Try.prog 6 #[.int .i64 0, .int .i64 0, .agg #[v1, v2]] w fun e w' => ∃ W1 lb gc u1 u2, e = .returned (.pointer (some ⟨lb, 0, none⟩)) ∧ Old w W1 ∧ NRowL W1 u1 n1 f1 ∧ NRowL W1 u2 n2 f2 ∧ Sh u1 ∧ Sh u2 ∧ LogO W1 lb gc (.slice none 0 0) 0 0 0 u1 u2 [] w' := by
  have HC := hid (fun (W : World) (u : Old w W) => clone_any v1 v2 n1 n2 f1 f2 W (h1.old u) (h2.old u) s1 s2)
  obtain ⟨_, p1, c1, rfl, _⟩ := h1
  obtain ⟨_, p2, c2, rfl, _⟩ := h2
  clear s1 s2
  go_enter Try.func6, Try.ntmps6
  go_wp2_with (first | (go_at_call 29; refine (clamp0 _).mono ?_; rintro e w1 ⟨rfl, rfl⟩) | (go_at_call 30; refine (HC.out _ ((Old.refl _).alloc _)).mono ?_; rintro e w2 ⟨u1, u2, rfl, r1, r2, t1, t2, o2⟩; have R1 := hid r1; have R2 := hid r2; have S1 := hid t1; have S2 := hid t2; have O2 := hid (((Old.refl w).alloc _).trans o2); obtain ⟨q1, d1, e1, _⟩ := r1.shape; obtain ⟨q2, d2, e2, _⟩ := r2.shape; subst e1 e2; clear r1 r2 t1 t2 o2))
  go_ret
  refine ⟨w2, w2.heap.size + 1, w2.heap.size, _, _, rfl, O2.out, R1.out, R2.out, S1.out, S2.out, ⟨((Old.refl _).alloc _).alloc _, Nat.le_refl _, by omega, by simp, by simp, by simp, by simp, fun j => by simp, ((Old.refl _).alloc _).keep (by simp), ((Old.refl _).alloc _).keep (by simp), ((Old.refl _).alloc _).keep (by simp), fun j => ?_, ⟨rfl, .inl ⟨rfl, rfl⟩⟩⟩⟩
  rw [Below.frozen (p := ⟨w2.heap.size, j, none⟩) ((Old.refl (w2.alloc _)).alloc _) (by simp)]
  simp
end Go.Proofs.Ytgpfmohaogppiaa
