/- sess' Bytes at every table; conditions: the table lies in memory as it is made. -/
import Derived.Test.YtefffjlcfghniaaS1
namespace Go.Proofs.Ytefffjlcfghniaa
open Go.RowKit Go.Lib
set_option linter.unusedVariables false
set_option linter.unusedSimpArgs false
set_option maxRecDepth 20000
/-- Verdicts are in their range. -/
def VOk (L : Int → List It) : Prop := ∀ k, ∀ x ∈ L k, (0 ≤ x.c ∧ x.c ≤ 999) ∧ 0 ≤ x.m ∧ x.m ≤ 1099511627776
/-- The numbers of what is kept of a session, and of a table. -/
def itN (R : List It) : List Int := R.flatMap fun x => [x.n, x.c, x.m]
def secN (L : Int → List It) (id : Int) : List Int := [id, hiL (L id), ((L id).length : Nat)] ++ itN (L id)
def tabN (L : Int → List It) (S : List Int) (k : Nat) : List Int := ((S.length : Nat) : Int) :: (S.take k).flatMap (secN L)
theorem itN_len (R : List It) : (itN R).length = R.length * 3 := by
  induction R with
  | nil => rfl
  | cons x t ih => simp [itN] at *; omega
theorem itN_step (R : List It) (j : Nat) (h : j < R.length) : itN (R.take (j + 1)) = itN (R.take j) ++ [(atI R j).n, (atI R j).c, (atI R j).m] := by
  unfold itN
  rw [List.take_succ_eq_append_getElem h, List.flatMap_append, ← atI_get R j h]
  simp
theorem tabN_step (L : Int → List It) (S : List Int) (k : Nat) (h : k < S.length) : tabN L S (k + 1) = tabN L S k ++ secN L (S.getD k 0) := by
  unfold tabN
  rw [List.take_succ_eq_append_getElem h, List.flatMap_append, List.getD_eq_getElem?_getD, List.getElem?_eq_getElem h]
  simp
theorem tabN_len (L : Int → List It) (S : List Int) (hl : ∀ k, (L k).length ≤ 8) : ∀ k, (tabN L S k).length ≤ 1 + 27 * k := by
  intro k
  have : ∀ T : List Int, (T.flatMap (secN L)).length ≤ 27 * T.length := by
    intro T
    induction T with
    | nil => simp
    | cons t T ih =>
      have h1 := hl t
      have h2 := itN_len (L t)
      rw [List.flatMap_cons, List.length_append, List.length_cons]
      have : (secN L t).length = 3 + (L t).length * 3 := by unfold secN; rw [List.length_append, h2]; rfl
      omega
  have h := this (S.take k)
  unfold tabN
  rw [List.length_cons]
  have : (S.take k).length ≤ k := by rw [List.length_take]; omega
  omega
theorem wp_appN3 {ops : Array Oper} {rest : List Oper} {o : Oper} {a : Act} {Q : Exit → Act → World → Prop} {w : World} (hgd : o.guard = none) (s x : Operand)
    (ho : o.op = .call { callee := .builtin .append, args := #[s, x], argTypes := #[64, 64] }) (base : Nat) (v : Value) (L : List Int) (g c1 : Nat) (y0 y1 y2 : Int)
    (hs : a.eval s = v) (hx : a.eval x = .slice (some ⟨g, 0, none⟩) 3 c1) (hown : OwnN base w v L) (hc0 : w.cell? ⟨g, 0, none⟩ = some (.int .i64 y0)) (hc1 : w.cell? ⟨g, 1, none⟩ = some (.int .i64 y1)) (hc2 : w.cell? ⟨g, 2, none⟩ = some (.int .i64 y2)) (hb : L.length + 3 ≤ 1000000) (hbase : base ≤ w.heap.size)
    (h : ∀ v' w', OwnN base w' v' (L ++ [y0, y1, y2]) → w.grownBy w' v.ownBlock → (v'.ownBlock = v.ownBlock ∨ v'.ownBlock = some w.heap.size) → wpList Try.prog ops Q rest (a.put o.dst v') w') : wpList Try.prog ops Q (o :: rest) a w := by
  obtain ⟨i0, hi, hz0, hz1, hz2⟩ := info_parts infoI64
  refine wpList_append_own_at w hgd s x 64 ho base 2 i0 _ 1 8 Try.underlying64 hi hz0 hz1 hz2 rfl (by decide) v L.length (ils L) hs hown ⟨g, 0, none⟩ 3 c1 (ils [y0, y1, y2]) hx rfl ?_ ?_ (by unfold maxLen; omega) (by omega) hbase ?_
  · intro j u hj
    rw [Go.WideShapes.add_plain]
    match j with
    | 0 => simp [ils] at hj; subst hj; exact hc0
    | 1 => simp [ils] at hj; subst hj; exact hc1
    | 2 => simp [ils] at hj; subst hj; exact hc2
    | j + 3 => simp [ils] at hj
  · intro u hu; simp [ils] at hu; rcases hu with rfl | rfl | rfl <;> rfl
  · intro v' w' h1 h2 h3 h4
    exact h v' w' (by unfold OwnN; rw [ils_app] at h1; simpa using h1) h2 h4
theorem cell3N (w : World) (a b c : Int) (g : Nat) (hg : w.heap.size = g) : (w.alloc (.cells #[.int .i64 a, .int .i64 b, .int .i64 c] 2)).cell? ⟨g, 0, none⟩ = some (.int .i64 a) ∧ (w.alloc (.cells #[.int .i64 a, .int .i64 b, .int .i64 c] 2)).cell? ⟨g, 1, none⟩ = some (.int .i64 b) ∧ (w.alloc (.cells #[.int .i64 a, .int .i64 b, .int .i64 c] 2)).cell? ⟨g, 2, none⟩ = some (.int .i64 c) := by subst hg; simp
theorem own1N (w : World) (z : Int) (g : Nat) (hg : w.heap.size = g) : OwnN g (w.alloc (.cells #[.int .i64 z] 2)) (.slice (some ⟨g, 0, none⟩) 1 1) [z] := by
  subst hg
  exact ⟨rfl, .inr ⟨w.heap.size, 1, #[.int .i64 z], rfl, Nat.le_refl _, heap_alloc_new w _, by simp, by unfold maxLen; omega, rfl, rfl⟩⟩
theorem own_cells {base : Nat} {w : World} {p : Option Addr} {c : Nat} {R : List It} (h : Own base w (.slice p R.length c) R) : ∀ i, i < R.length → ∃ g off, p = some ⟨g, off, none⟩ ∧ w.cell? ⟨g, off + i * 3, none⟩ = some (.int .i64 (atI R i).n) ∧ w.cell? ⟨g, off + i * 3 + 1, none⟩ = some (.int .i64 (atI R i).c) ∧ w.cell? ⟨g, off + i * 3 + 2, none⟩ = some (.int .i64 (atI R i).m) := by
  intro i hi
  have h2 := h
  unfold Own at h2
  rcases h2.2 with ⟨e, e0⟩ | ⟨g, cap, cur, e, hb, hg, hnc, hcm, hcs, htk⟩
  · omega
  · cases e
    have hr : RowIs w g R.length c cur R := ⟨hg, rfl, hnc, hcm, by omega, by rw [htk]⟩
    obtain ⟨hc, _, _⟩ := hr.cells
    have hx : ∀ j u, j < 3 → (itc R[i])[j]? = some u → (itcs R)[i * 3 + j]? = some u := fun j u hj e => by
      have := flat_get itc 3 itc_len R i j hi hj
      unfold itcs
      rw [this]
      exact e
    rw [atI_get R i hi]
    refine ⟨g, 0, rfl, ?_, ?_, ?_⟩
    · rw [Nat.zero_add]; exact hc _ _ (hx 0 _ (by omega) rfl)
    · rw [Nat.zero_add]; exact hc _ _ (hx 1 _ (by omega) rfl)
    · rw [Nat.zero_add]; exact hc _ _ (hx 2 _ (by omega) rfl)
set_option maxHeartbeats 8000000 in
set_option maxRecDepth 20000 in
theorem bytes_any (tb : Nat) (Bs : List Nat) (ks : List Int) (L : Int → List It) (w : World) (h : TabIs w tb Bs ks L) (hok : TOk ks L) (hvo : VOk L) :
    Calls Try.prog 10 #[.pointer (some ⟨tb, 0, none⟩)] w fun e w' => ∃ v' S, e = .returned v' ∧ S.Perm ks ∧ S.Pairwise (· ≤ ·) ∧ Pk.OwnL w.heap.size w' v' (numB (tabN L S S.length)) ∧ Old w w' := by
  have HS := hid (sessions_any tb Bs ks L w h hok)
  have HT := hid h
  have HOk := hid hok
  have HVo := hid hvo
  clear h hok hvo
  go_enter Try.func10, Try.ntmps10
  go_upto_region 2 with (go_at_call 23; refine HS.out.mono ?_; rintro e w1 ⟨v3, S, rfl, hp, hs, o1, u1⟩; have HP := hid hp; have HPw := hid hs; have O1 := hid o1; have U1 := hid u1; clear hp hs o1 u1)
  obtain ⟨p3, c3, e3⟩ := O1.out.len
  subst e3
  have hsl : S.length ≤ 16 := by have := HP.out.length_eq; have := HOk.out.many; omega
  go_upto_region 4 with (fail)
  have E0 := hid (own1N w1 ((S.length : Nat) : Int) _ rfl)
  have UE := hid (show Old w1 (w1.alloc (.cells #[.int .i64 ((S.length : Nat) : Int)] 2)) from (Old.refl w1).alloc _)
  generalize w1.alloc (.cells #[.int .i64 ((S.length : Nat) : Int)] 2) = w2 at *
  have HC3 := hid (show ∀ i, i < S.length → ∃ g off, p3 = some ⟨g, off, none⟩ ∧ w1.cell? ⟨g, off + i, none⟩ = some (.int .i64 (S.getD i 0)) from by
    obtain ⟨_, pr, cr, er, hcr⟩ := O1.out.nrow (by omega)
    cases er
    exact hcr)
  have HTl := hid (fun k => tabN_len L S HOk.out.len k)
  have HTs := hid (fun k hk => tabN_step L S k hk)
  have HT0 := hid (show tabN L S 0 = [((S.length : Nat) : Int)] from rfl)
  have HMem := hid (fun k (hk : k < S.length) => HOk.out.rng _ (HP.out.mem_iff.1 (show S.getD k 0 ∈ S from by rw [List.getD_eq_getElem?_getD, List.getElem?_eq_getElem hk]; exact List.getElem_mem hk)))
  have HN := hid (show ∀ z ∈ tabN L S S.length, N64 z from by
    intro z hz
    unfold tabN at hz
    rw [List.take_length] at hz
    rcases List.mem_cons.1 hz with rfl | hz
    · exact ⟨by omega, by omega⟩
    · obtain ⟨id, hid', hz⟩ := List.mem_flatMap.1 hz
      have hr := HOk.out.rng id (HP.out.mem_iff.1 hid')
      have hh := HOk.out.hi id
      have hl := HOk.out.len id
      unfold secN at hz
      rcases List.mem_append.1 hz with hz | hz
      · simp only [List.mem_cons, List.not_mem_nil, or_false] at hz
        rcases hz with rfl | rfl | rfl <;> exact ⟨by omega, by omega⟩
      · unfold itN at hz
        obtain ⟨y, hy, hz⟩ := List.mem_flatMap.1 hz
        have h1 := HOk.out.seq id y hy
        have h2 := HVo.out id y hy
        simp only [List.mem_cons, List.not_mem_nil, or_false] at hz
        rcases hz with rfl | rfl | rfl <;> exact ⟨by omega, by omega⟩)
  have hsl2 : (S.length : Int) ≤ 16 := by omega
  obtain ⟨sn, hsn⟩ : ∃ sn, S.length = sn := ⟨_, rfl⟩
  rw [hsn] at E0 HT0 HN hsl hsl2 ⊢
  have HSn := hid hsn
  clear hsn HS O1
  go_loopw [4, 17] (fun o i wr => ∃ k : Nat, k ≤ sn ∧ i = .int .i64 (k : Nat) ∧ OwnN w1.heap.size wr o (tabN L S k) ∧ Old w1 wr) (fun _ i _ => sn - (intOf i).toNat)
  case atStart => exact ⟨0, Nat.zero_le _, rfl, by rw [HT0.out]; exact E0.out, UE.out⟩
  case round =>
    obtain ⟨k, hk, rfl, ho, hu⟩ := hrel
    obtain ⟨pb, cb, e⟩ := ho.len
    obtain ⟨ln, hln⟩ : ∃ ln, (tabN L S k).length = ln := ⟨_, rfl⟩
    rw [hln] at e
    subst e
    have HO := hid ho
    have UU := hid hu
    clear E0 UE ho hu hln
    by_cases hlt : k < sn
    · obtain ⟨b, off, ha, c0⟩ := HC3.out k (by rw [HSn.out]; exact hlt)
      subst ha
      have x0 := UU.out.keep c0
      have l1 : (0 : Int) ≤ (k : Int) := by omega
      have l2 : (k : Int) < (sn : Int) := by omega
      have hrg := HMem.out k (by rw [HSn.out]; exact hlt)
      have HSt := hid (HTs.out k (by rw [HSn.out]; exact hlt))
      have HPl := hid (show (tabN L S k).length ≤ 500 from by have := HTl.out k; omega)
      clear c0
      generalize S.getD k 0 = id at *
      have hN : N64 id := ⟨by omega, by omega⟩
      obtain ⟨mb, M, h1, h2, h3, h4', h5, h6, h7, h8, h9⟩ := HT.out
      have h4 := (U1.out.trans UU.out).keep h4'
      obtain ⟨hR, hI⟩ := row_at h6 (fun p hp => (h7 p hp).1) h9 id
      have hlk := (h5.old (U1.out.trans UU.out)).look false hN
      simp only [Bool.false_eq_true, if_false] at hlk
      have hll := HOk.out.len id
      generalize (mget id M).getD (.slice none 0 0) = v at *
      obtain ⟨pv, cv, ev⟩ := hR.len
      obtain ⟨len, hlen⟩ : ∃ len, (L id).length = len := ⟨_, rfl⟩
      subst ev
      have HHi := hid (fun (W : World) (u : Old wr W) => highest_any 0 _ (L id) W (by omega) (hR.old ((U1.out.trans UU.out).trans u)))
      have HCe := hid (fun i hi => own_cells hR i hi)
      have HSe := hid (show secN L id = [id, hiL (L id), (len : Int)] ++ itN ((L id).take len) from by unfold secN; rw [← hlen, List.take_length])
      have HItS := hid (fun j hj => itN_step (L id) j hj)
      have HItl := hid (show ∀ j, (itN ((L id).take j)).length ≤ 24 from fun j => by
        have h1 := itN_len ((L id).take j)
        have h2 : ((L id).take j).length ≤ (L id).length := by rw [List.length_take]; omega
        omega)
      rw [hlen] at hll hlk HHi HCe HItS
      have HLen := hid hlen
      clear h4' h5 h6 h7 h8 h9 hR hI hlen HTs HTl HMem
      generalize hiL (L id) = hi at *
      generalize hP0 : tabN L S k = P0 at *
      clear hP0
      go_upto_region 8 with (first | (go_at_call 27; refine (HHi.out _ (Old.refl _)).mono ?_; rintro e w5 ⟨rfl, u5⟩; have U5 := hid (UU.out.trans u5); have V5 := hid u5; clear u5) | (at_builtin; refine wp_appN3 rfl (.tmp 27) (.tmp 33) rfl w1.heap.size _ P0 _ 3 id hi (len : Int) rfl rfl ((HO.out.up V5.out).up ((Old.refl _).alloc _)) (cell3N _ _ _ _ _ rfl).1 (cell3N _ _ _ _ _ rfl).2.1 (cell3N _ _ _ _ _ rfl).2.2 (by have := HPl.out; omega) (by have := U5.out.size; simp; omega) ?_; intro v6 w6 o6 g6 n6; obtain ⟨p6, c6, e6⟩ := o6.len; have O6 := hid o6; have U6 := hid (show Old w1 w6 from Below.grown (U5.out.alloc _) g6 (U5.out.alloc _).size (fun k e => (World.ownsRow.lt HO.out k e).1)); clear o6 g6 n6; rw [List.length_append] at e6; obtain ⟨l6, hl6⟩ : ∃ l6, P0.length + [id, hi, (len : Int)].length = l6 := ⟨_, rfl⟩; rw [hl6] at e6; subst e6; clear hl6))
      clear HHi x0 hlk h4
      have U16 := hid (U1.out.trans U6.out)
      have UW6 := hid U6.out
      go_upto_region 9 with (fail)
      have ll8 : (len : Int) ≤ 8 := by omega
      go_loopw [4, 37] (fun o i wz => ∃ j : Nat, j ≤ len ∧ i = .int .i64 (j : Nat) ∧ OwnN w1.heap.size wz o ((P0 ++ [id, hi, (len : Int)]) ++ itN ((L id).take j)) ∧ Old w1 wz) (fun _ i _ => len - (intOf i).toNat)
      case atStart => exact ⟨0, Nat.zero_le _, rfl, by simpa [itN] using O6.out, U6.out⟩
      case round =>
        obtain ⟨j, hj, rfl, ho2, hz⟩ := hrel
        obtain ⟨pb2, cb2, e⟩ := ho2.len
        obtain ⟨ln2, hln2⟩ : ∃ ln2, ((P0 ++ [id, hi, (len : Int)]) ++ itN ((L id).take j)).length = ln2 := ⟨_, rfl⟩
        rw [hln2] at e
        subst e
        have HO2 := hid ho2
        have UZ := hid hz
        have HP1l := hid (show ((P0 ++ [id, hi, (len : Int)]) ++ itN ((L id).take j)).length ≤ 600 from by have h1 := HItl.out j; have h2 := HPl.out; rw [List.length_append, List.length_append]; simp; omega)
        clear ho2 hz hln2 O6 U6 U16 UW6 UU V5 U5
        by_cases hlj : j < len
        · obtain ⟨g2, off2, ha, c0, c1, c2⟩ := HCe.out j hlj
          subst ha
          have y0 := (U1.out.trans UZ.out).keep c0
          have y1 := (U1.out.trans UZ.out).keep c1
          have y2 := (U1.out.trans UZ.out).keep c2
          have m1 : (0 : Int) ≤ (j : Int) := by omega
          have m2 : (j : Int) < (len : Int) := by omega
          have m2n : j < len := hlj
          have HI := hid (HItS.out j (by omega))
          clear c0 c1 c2 HCe HItS HItl
          generalize (atI (L id) j).n = xn at *
          generalize (atI (L id) j).c = xc at *
          generalize (atI (L id) j).m = xm at *
          generalize hP1 : ((P0 ++ [id, hi, (len : Int)]) ++ itN ((L id).take j)) = P1 at *
          have HP1 := hid hP1
          clear hP1
          go_upto_region 11 with (fail)
          have q0 : (wr.alloc (.cells #[.int .i64 xn, .int .i64 xc, .int .i64 xm] 71)).cell? ⟨wr.heap.size, 0, none⟩ = some (.int .i64 xn) := by simp
          have q1 : (wr.alloc (.cells #[.int .i64 xn, .int .i64 xc, .int .i64 xm] 71)).cell? ⟨wr.heap.size, 1, none⟩ = some (.int .i64 xc) := by simp
          have q2 : (wr.alloc (.cells #[.int .i64 xn, .int .i64 xc, .int .i64 xm] 71)).cell? ⟨wr.heap.size, 2, none⟩ = some (.int .i64 xm) := by simp
          have UAl := hid (show Old wr (wr.alloc (.cells #[.int .i64 xn, .int .i64 xc, .int .i64 xm] 71)) from (Old.refl wr).alloc _)
          generalize wr.alloc (.cells #[.int .i64 xn, .int .i64 xc, .int .i64 xm] 71) = wa at *
          generalize wr.heap.size = ib at *
          clear y0 y1 y2
          go_wp2_with (at_builtin; refine wp_appN3 rfl (.tmp 41) (.tmp 50) rfl w1.heap.size _ P1 _ 3 xn xc xm rfl rfl ((HO2.out.up UAl.out).up ((Old.refl _).alloc _)) (cell3N _ _ _ _ _ rfl).1 (cell3N _ _ _ _ _ rfl).2.1 (cell3N _ _ _ _ _ rfl).2.2 (by have := HP1l.out; omega) (by have := (UZ.out.trans UAl.out).size; simp; omega) ?_; intro v6 w6 o6 g6 n6; obtain ⟨p6, c6, e6⟩ := o6.len; have O6 := hid o6; have U6 := hid (show Old w1 w6 from Below.grown ((UZ.out.trans UAl.out).alloc _) g6 ((UZ.out.trans UAl.out).alloc _).size (fun k e => (World.ownsRow.lt HO2.out k e).1)); clear o6 g6 n6; rw [List.length_append] at e6; obtain ⟨l6, hl6⟩ : ∃ l6, P1.length + [xn, xc, xm].length = l6 := ⟨_, rfl⟩; rw [hl6] at e6; subst e6; clear hl6)
          go_roundw
          case rel => exact ⟨j + 1, hlj, by go_num, by rw [HI.out, ← List.append_assoc, HP1.out]; exact O6.out, U6.out⟩
          case measure => simp [intOf]; omega
        · obtain rfl : j = len := by omega
          clear HCe HItS HItl
          go_wp2
          go_roundw
          case rel => exact ⟨k + 1, hlt, by go_num, by rw [HSt.out, HSe.out, ← List.append_assoc]; exact HO2.out, UZ.out⟩
          case measure => simp [intOf]; omega
    · obtain rfl : k = sn := by omega
      have HNu := hid (numbers_any _ (tabN L S k) wr (by have := HTl.out k; omega) HN.out (HO.out.nrow (by have := HTl.out k; omega)))
      clear HTl HTs HT0 HMem HN
      go_wp2_with (go_at_call 35; refine HNu.out.mono ?_; rintro e w5 ⟨v5, rfl, o5, u5⟩; have O5 := hid o5; have U5 := hid u5; clear o5 u5)
      go_ret
      exact ⟨_, S, rfl, HP.out, HPw.out, by rw [HSn.out]; exact O5.out.mono' (by have := (U1.out.trans UU.out).size; omega), (U1.out.trans UU.out).trans U5.out⟩
end Go.Proofs.Ytefffjlcfghniaa
