/- The document's Load, of layer 13; conditions: the bytes lie in memory, and are no more than a bound. -/
import Derived.Test.YtefffjlcfghniaaPkG
import Derived.Test.YtefffjlcfghniaaS22
namespace Go.Proofs.Ytefffjlcfghniaa
open Go.RowKit Go.Lib
set_option linter.unusedVariables false
set_option linter.unusedSimpArgs false
set_option maxRecDepth 20000
def lenOf : Value → Nat | .slice _ n _ => n | _ => 0
theorem cut_row {w : World} {b off cap k : Nat} {L : List Nat} (h : Pk.ByRow w (.slice (some ⟨b, off, none⟩) L.length cap) L.length (Pk.gd L)) (hk : k ≤ L.length) (o : Nat) (ho : o = if cap = k then off else off + k) : Pk.ByRow w (.slice (some ⟨b, o, none⟩) (L.length - k) (cap - k)) (L.drop k).length (Pk.gd (L.drop k)) := by
  rw [gd_drop, List.length_drop]
  rcases h with ⟨h0, _⟩ | ⟨hn, hm, b', off', cap', hv, hc, hcp⟩
  · exact .inl ⟨by omega, _, _, by rw [show L.length - k = 0 by omega], fun h => by cases h⟩
  · cases hv
    by_cases hz : L.length - k = 0
    · exact .inl ⟨hz, _, _, by rw [hz], fun h => by cases h⟩
    · rw [if_neg (by omega)] at ho
      subst ho
      refine .inr ⟨by omega, by omega, b, off + k, cap - k, rfl, fun i hi => ?_, by omega, by omega⟩
      have q := hc (k + i) (by omega)
      rw [← Nat.add_assoc] at q
      exact q
theorem tkN_cut {L B : List Nat} {z : Int} (h : tkN L = some (z, B)) : Pk.lnK (Pk.gd L) L.length ≠ 0 ∧ Pk.lnK (Pk.gd L) L.length ≤ L.length ∧ Pk.lnV (Pk.gd L) L.length = z ∧ B = L.drop (Pk.lnK (Pk.gd L) L.length) := by
  unfold tkN at h
  by_cases q : Pk.lnK (Pk.gd L) L.length = 0
  · rw [if_pos q] at h; cases h
  · rw [if_neg q] at h
    cases h
    exact ⟨q, Pk.ln_le _ _ 11 0, rfl, rfl⟩
theorem byt_of {w : World} {v : Value} {L : List Nat} (h : Pk.ByRow w v L.length (Pk.gd L)) : Byt L := by
  intro x hx
  obtain ⟨i, hi, e⟩ := List.getElem_of_mem hx
  obtain ⟨b, off, cap, _, hcc, _⟩ := h.cells (by omega)
  have q := (hcc i hi).1
  have ge : Pk.gd L i = L[i] := by unfold Pk.gd; rw [List.getD_eq_getElem?_getD, List.getElem?_eq_getElem hi]; rfl
  rw [ge, e] at q
  exact q
/-- What the document's Load answers. -/
def RlPost (L : List Nat) (w : World) (e : Ending) (w' : World) : Prop := Old w w' ∧ ((∃ (T : List Opv) (p : Option Addr) (c : Nat) (Lm : Int → List It) (S : List Int), IsT L Lm S ∧ e = .returned (.tuple #[.agg #[.slice p T.length c], .bool true]) ∧ RRow w' (.slice p T.length c) T ∧ Rel T S Lm) ∨ ((∀ Lm S, ¬ IsT L Lm S) ∧ ∃ p n c, e = .returned (.tuple #[.agg #[.slice p n c], .bool false])))
/-- A variable of the document's table. -/
structure B1 (m : Nat) (w : World) : Prop where
  cell : w.cell? ⟨m, 0, none⟩ = some (.slice none 0 0)
  free : w.frozen? ⟨m, 0, none⟩ = false
theorem B1.new (w w' : World) (hw : w.alloc (.cells #[.slice none 0 0] 42) = w') : B1 w.heap.size w' ∧ Old w w' ∧ w.heap.size < w'.heap.size := by
  subst hw
  exact ⟨⟨by simp, by simp⟩, (Old.refl w).alloc _, by simp⟩
theorem B1.old {m : Nat} {w w' : World} (u : Old w w') (h : B1 m w) : B1 m w' := ⟨u.keep h.cell, u.keepF h.cell h.free⟩
/-- The document's table in its variable, while Load makes it. -/
structure DS (w0 W : World) (tb : Nat) (p : Option Addr) (c : Nat) (T : List Opv) (ks : List Int) (L : Int → List It) : Prop where
  old : Old w0 W
  cell : W.cell? ⟨tb, 0, none⟩ = some (.slice p T.length c)
  free : W.frozen? ⟨tb, 0, none⟩ = false
  row : RRow W (.slice p T.length c) T
  far : 0 < T.length → ∀ b, (Value.slice p T.length c).ownBlock = some b → w0.heap.size ≤ b ∧ b ≠ tb
  rel : Rel T ks L
  ok : TOk ks L
  vo : VOk L
  nod : ks.Nodup
  nil : ∀ k, k ∉ ks → L k = []
theorem DS.start (w0 W : World) (hW : w0.alloc (.cells #[.slice none 0 0] 42) = W) : DS w0 W w0.heap.size none 0 [] [] (fun _ => []) := by
  subst hW
  have c : (w0.alloc (.cells #[.slice none 0 0] 42)).cell? ⟨w0.heap.size, 0, none⟩ = some (.slice none 0 0) := by simp
  exact ⟨(Old.refl w0).alloc _, c, by simp, ⟨by simp, none, 0, rfl, fun i hi => by simp at hi⟩, fun h => by simp at h, Rel.nil, TOk.none, VOk.none, List.Pairwise.nil, fun _ _ => rfl⟩
theorem DS.up {w0 W W' : World} {tb : Nat} {p : Option Addr} {c : Nat} {T : List Opv} {ks : List Int} {L : Int → List It} (h : DS w0 W tb p c T ks L) (u : Old W W') : DS w0 W' tb p c T ks L := ⟨h.old.trans u, u.keep h.cell, u.keepF h.cell h.free, h.row.old u, h.far, h.rel, h.ok, h.vo, h.nod, h.nil⟩
theorem DS.put {w0 W W2 : World} {tb : Nat} {p p2 : Option Addr} {c c2 : Nat} {T T2 : List Opv} {ks : List Int} {L : Int → List It} {s : Int} {x : It} (h : DS w0 W tb p c T ks L) (hb : w0.heap.size ≤ tb) (u : Old W W2) (r : RRow W2 (.slice p2 T2.length c2) T2) (rl : Rel T2 (pk ks L s x) (pl ks L s x)) (hp : putC ks L s x = 0) (hs : (Value.slice p2 T2.length c2) = .slice p T.length c ∨ ∀ b, (Value.slice p2 T2.length c2).ownBlock = some b → W.heap.size ≤ b) :
    DS w0 (W2.setCell ⟨tb, 0, none⟩ (.slice p2 T2.length c2)) tb p2 c2 T2 (pk ks L s x) (pl ks L s x) := by
  have hlt : tb < W.heap.size := World.block_lt_of_cell? W ⟨tb, 0, none⟩ h.cell
  have hf : 0 < T2.length → ∀ b, (Value.slice p2 T2.length c2).ownBlock = some b → w0.heap.size ≤ b ∧ b ≠ tb := fun h0 b e => by
    rcases hs with q | q
    · have hlen : T2.length = T.length := by injection q
      rw [q] at e
      exact h.far (by omega) b e
    · have h1 := q b e
      have h2 := h.old.size
      exact ⟨by omega, by omega⟩
  have e1 : pk ks L s x = putK ks s := by unfold pk; rw [if_pos hp]
  have e2 : pl ks L s x = putL L s (nextS x (L s)) := by unfold pl; rw [if_pos hp]
  refine ⟨(h.old.trans u).setCell hb _, World.cell?_setCell_same _ _ _ (u.keep h.cell), by rw [World.frozen?_setCell]; exact u.keepF h.cell h.free, RRow.set r tb _ (fun b h0 e => (hf h0 b (by rw [e]; rfl)).2), hf, rl, by rw [e1, e2]; exact h.ok.put hp, h.vo.pl, ?_, ?_⟩
  · rw [e1]
    unfold putK
    split
    · exact h.nod
    · rename_i q
      exact List.nodup_append.2 ⟨h.nod, by simp, fun a ha b hb e => by simp at hb; subst hb; subst e; exact q ha⟩
  · intro k hk
    rw [e1] at hk
    rw [e2]
    unfold putK at hk
    unfold putL
    split at hk
    · rename_i q
      rw [if_neg (fun e => hk (by rw [e]; exact q))]
      exact h.nil k hk
    · rw [List.mem_append, List.mem_singleton, not_or] at hk
      rw [if_neg hk.2]
      exact h.nil k hk.1
theorem drop_getD (zs : List Int) (a j : Nat) : (zs.drop a).getD j 0 = zs.getD (a + j) 0 := by simp [List.getD_eq_getElem?_getD, List.getElem?_drop]
abbrev K9 (tb gb j0 j1 j2 : Nat) (vt : Value) (z0 z1 z2 : Int) : World → Prop := fun wz => wz.cell? ⟨tb, 0, none⟩ = some vt ∧ wz.cell? ⟨gb, j0, none⟩ = some (.int .i64 z0) ∧ wz.cell? ⟨gb, j1, none⟩ = some (.int .i64 z1) ∧ wz.cell? ⟨gb, j2, none⟩ = some (.int .i64 z2)
theorem K9.old {tb gb j0 j1 j2 : Nat} {vt : Value} {z0 z1 z2 : Int} {w w' : World} (u : Old w w') (h : K9 tb gb j0 j1 j2 vt z0 z1 z2 w) : K9 tb gb j0 j1 j2 vt z0 z1 z2 w' := ⟨u.keep h.1, u.keep h.2.1, u.keep h.2.2.1, u.keep h.2.2.2⟩
set_option maxHeartbeats 16000000 in
set_option maxRecDepth 20000 in
theorem rLoad_any (L : List Nat) (w : World) (v : Value) (hB : Pk.ByRow w v L.length (Pk.gd L)) (hl : L.length ≤ 1048576) :
    Calls Try.prog 20 #[v] w fun e w' => RlPost L w e w' := by
  have HB0 := hid hB
  have HBy := hid (byt_of hB)
  obtain ⟨a0, c0, rfl⟩ := byRow_slice hB
  clear hB
  obtain ⟨la, hla⟩ : ∃ la, L.length = la := ⟨_, rfl⟩
  have HLa := hid hla
  rw [hla] at HB0 hl ⊢
  clear hla
  go_enter Try.func20, Try.ntmps20
  go_upto_region 1 with (fail)
  generalize hw1 : w.alloc (.cells #[.slice none 0 0] 42) = w1
  obtain ⟨hb1, ho1, hz1⟩ := B1.new w w1 hw1
  have HZ := hid (Nat.le_refl w.heap.size)
  have HT := hid hb1
  have O1 := hid ho1
  have HZ3 := hid hz1
  clear hw1 hb1 ho1 hz1
  obtain ⟨rb, hrb⟩ : ∃ rb, w.heap.size = rb := ⟨_, rfl⟩
  have HZ := hid (show w.heap.size ≤ rb from by omega)
  rw [hrb] at HT HZ3 ⊢
  clear hrb
  have HFail := hid (fun (W : World) (u : Old w1 W) (hn : ∀ Lm S, ¬ IsT L Lm S) => show RlPost L w (.returned (.tuple #[.agg #[.slice none 0 0], .bool false])) (W.setCell ⟨rb, 0, none⟩ (.slice none 0 0)) from ⟨(O1.out.trans u).setCell HZ.out _, .inr ⟨hn, none, 0, 0, rfl⟩⟩)
  go_upto_region 3 with (fail)
  have E0 := hid (OwnN.empty (w := w1))
  have UE := hid (show Old w1 (w1.alloc (.cells #[] 2)) from (Old.refl w1).alloc _)
  have HB1 := hid (HB0.out.up O1.out)
  generalize w1.alloc (.cells #[] 2) = w2 at *
  go_loopw [4, 5] (fun ns rest wr => ∃ (zs : List Int) (r : List Nat), OwnN w1.heap.size wr ns zs ∧ Pk.ByRow w1 rest r.length (Pk.gd r) ∧ Reads zs L r ∧ zs.length + r.length ≤ la ∧ Old w1 wr) (fun _ rest _ => lenOf rest)
  case atStart => exact ⟨[], L, E0.out, by rw [HLa.out]; exact HB1.out, rfl, by have := HLa.out; simp; omega, UE.out⟩
  case round =>
    obtain ⟨zs, r, ho, hb, hr, hle, hu⟩ := hrel
    obtain ⟨pz, cz, e⟩ := ho.len
    obtain ⟨ln, hln⟩ : ∃ ln, zs.length = ln := ⟨_, rfl⟩
    rw [hln] at e
    subst e
    have HO := hid ho
    have HR := hid hr
    have HU := hid hu
    have HBr := hid hb
    have HLn := hid hln
    rw [hln] at hle
    clear E0 UE HB1 ho hr hu hln
    by_cases hpos : 0 < r.length
    · obtain ⟨b, off, cap, rfl, _, hnc, hmx⟩ := hb.cells hpos
      unfold maxLen at hmx
      have HG := hid (Pk.refGetNum_any _ _ _ wr (HBr.out.up HU.out))
      cases hk : tkN r with
      | none =>
        have HN := hid (no_stop HR.out hk (fun e => by rw [e] at hpos; simp at hpos))
        have hno := tkN_none hk
        clear hk hb
        obtain ⟨t0, tf0⟩ := HT.out.old HU.out
        obtain ⟨V, hV⟩ : ∃ V, Pk.lnV (Pk.gd r) r.length = V := ⟨_, rfl⟩
        obtain ⟨R, hRl⟩ : ∃ R, r.length = R := ⟨_, rfl⟩
        rw [hno, hV, hRl] at HG
        rw [hRl] at hpos
        rw [hRl]
        clear hno hV hRl HBr hnc
        have p1 : (R : Int) > 0 := by omega
        have FIN := hid (HFail.out _ HU.out HN.out)
        have Z0 := hid (World.cell?_setCell_same _ _ (.slice none 0 0) t0)
        clear HFail
        go_wp2_with (go_at_call 41; refine HG.out.mono ?_; rintro e w3 ⟨rfl, hw⟩; have hw2 := hw.symm; subst hw2)
        have z0 := Z0.out
        exact bodyPost_ret (v := .tuple #[.agg #[.slice none 0 0], .bool false]) (by simp [results, Try.results20, go_sem, z0]) rfl FIN.out
      | some p =>
        obtain ⟨z, B⟩ := p
        have HRd := hid (HR.out.snoc hk)
        obtain ⟨hk0, hkl, hV, hBd⟩ := tkN_cut hk
        rw [hV] at HG
        obtain ⟨o, hif, hro⟩ : ∃ o, (if cap = Pk.lnK (Pk.gd r) r.length then (some ⟨b, off, none⟩ : Option Addr) else some ⟨b, off + Pk.lnK (Pk.gd r) r.length, none⟩) = some ⟨b, o, none⟩ ∧ Pk.ByRow w1 (.slice (some ⟨b, o, none⟩) (r.length - Pk.lnK (Pk.gd r) r.length) (cap - Pk.lnK (Pk.gd r) r.length)) B.length (Pk.gd B) := by
          refine ⟨if cap = Pk.lnK (Pk.gd r) r.length then off else off + Pk.lnK (Pk.gd r) r.length, by split <;> rfl, ?_⟩
          rw [hBd]
          exact cut_row HBr.out hkl _ rfl
        have HRo := hid hro
        have hBl : B.length = r.length - Pk.lnK (Pk.gd r) r.length := by rw [hBd, List.length_drop]
        clear hro hk hV hBd HBr hb HFail
        generalize Pk.lnK (Pk.gd r) r.length = K at *
        generalize r.length = R at *
        have HBl := hid hBl
        clear hBl
        have p1 : (R : Int) > 0 := by omega
        have k1 : ((K : Int) == 0) = false := by simp [hk0]
        have l4 : (0 : Int) ≤ (K : Int) := by omega
        have l5 : (K : Int) ≤ (R : Int) := by omega
        have l6 : (K : Int) ≤ (cap : Int) := by omega
        go_wp2_with (first | (go_at_call 41; refine HG.out.mono ?_; rintro e w3 ⟨rfl, hw⟩; have hw2 := hw.symm; subst hw2) | (at_builtin; refine wp_appNb rfl (.tmp 29) (.tmp 31) rfl w1.heap.size _ zs _ 1 z rfl rfl (HO.out.up ((Old.refl _).alloc _)) (cell_oneN _ _ _ rfl) (by have := HLn.out; omega) (by have := HU.out.size; simp; omega) ?_; intro v5 w5 o5 g5; have O5 := hid o5; have U5 := hid (show Old w1 w5 from Below.grown (HU.out.alloc _) g5 (HU.out.alloc _).size (fun k e => (World.ownsRow.lt HO.out k e).1)); clear o5 g5))
        exact ⟨⟨zs ++ [z], B, O5.out, HRo.out, HRd.out, by have := HBl.out; have := HLn.out; rw [List.length_append, List.length_singleton]; omega, U5.out⟩, by simp [lenOf]; omega⟩
    · have hr0 : r = [] := List.length_eq_zero_iff.1 (by omega)
      subst hr0
      obtain ⟨ar, cr, rfl⟩ := byRow_slice hb
      have HEnd := hid HR.out
      have p1 : ¬ (([] : List Nat).length : Int) > 0 := by simp
      have hl2 : ln ≤ 1048576 := by simp at hle; omega
      clear hb HBr HR hpos hle
      go_upto_region 10 with (fail)
      generalize hw5 : wr.alloc (.cells #[.slice none 0 0] 42) = w5
      have D5 := hid (DS.start wr w5 hw5)
      have HT5 := hid (HT.out.old HU.out)
      have HRl := hid (show rb < wr.heap.size from World.block_lt_of_cell? wr ⟨rb, 0, none⟩ HT5.out.cell)
      clear hw5
      generalize hw3 : wr = w3 at *
      clear hw3
      obtain ⟨tb, htb⟩ : ∃ tb, w3.heap.size = tb := ⟨_, rfl⟩
      have HTb := hid (show w3.heap.size ≤ tb from by omega)
      rw [htb] at D5 ⊢
      clear htb
      have HF := hid (fun (W : World) (u : Old w3 W) (hn : ∀ Lm S, ¬ IsT L Lm S) => show RlPost L w (.returned (.tuple #[.agg #[.slice none 0 0], .bool false])) (W.setCell ⟨rb, 0, none⟩ (.slice none 0 0)) ∧ (W.setCell ⟨rb, 0, none⟩ (.slice none 0 0)).cell? ⟨rb, 0, none⟩ = some (.slice none 0 0) from ⟨HFail.out W (HU.out.trans u) hn, World.cell?_setCell_same _ _ _ (u.keep HT5.out.cell)⟩)
      clear HFail HT
      by_cases hn0 : ln = 0
      · subst hn0
        have FZ := hid (HF.out w5 D5.out.old (fun Lm S hT => (dSs_is HEnd.out hT).1 HLn.out))
        obtain ⟨t0, tf0⟩ := HT5.out.old D5.out.old
        have d0 : w5.cell? ⟨tb, 0, none⟩ = some (.slice none 0 0) := D5.out.cell
        go_wp2
        have z0 := FZ.out.2
        exact bodyPost_ret (v := .tuple #[.agg #[.slice none 0 0], .bool false]) (by simp [results, Try.results20, go_sem, z0]) rfl FZ.out.1
      · have hlnp : 0 < ln := by omega
        obtain ⟨gb, hgb, _, hcz1, hcz2, hcell⟩ := HO.out.at HLn.out hlnp
        subst hgb
        have HCz := hid hcell
        have q0 : ((ln : Int) == 0) = false := by rw [beq_eq_false_iff_ne]; omega
        have q1 : (0 : Int) < (ln : Int) := by omega
        have c5 := D5.out.old.keep (hcell 0 hlnp)
        have HIs := hid (fun (Lm : Int → List It) (S : List Int) (hT : IsT L Lm S) => And.intro hT.few (dSs_is HEnd.out hT).2)
        clear hcell HO
        generalize hz0 : zs.getD 0 0 = z0 at *
        have HZ0 := hid hz0
        clear hz0
        by_cases g0 : z0 < 0
        · have FZ := hid (HF.out w5 D5.out.old (fun Lm S hT => by have := (HIs.out Lm S hT).2.1; omega))
          obtain ⟨t0, tf0⟩ := HT5.out.old D5.out.old
          have d0 : w5.cell? ⟨tb, 0, none⟩ = some (.slice none 0 0) := D5.out.cell
          clear HF HIs HCz
          go_wp2
          have z0 := FZ.out.2
          exact bodyPost_ret (v := .tuple #[.agg #[.slice none 0 0], .bool false]) (by simp [results, Try.results20, go_sem, z0]) rfl FZ.out.1
        · by_cases g1 : z0 > 16
          · have FZ := hid (HF.out w5 D5.out.old (fun Lm S hT => by have := (HIs.out Lm S hT).2.1; have := (HIs.out Lm S hT).1; omega))
            obtain ⟨t0, tf0⟩ := HT5.out.old D5.out.old
            have d0 : w5.cell? ⟨tb, 0, none⟩ = some (.slice none 0 0) := D5.out.cell
            clear HF HIs HCz
            go_wp2
            have z0 := FZ.out.2
            exact bodyPost_ret (v := .tuple #[.agg #[.slice none 0 0], .bool false]) (by simp [results, Try.results20, go_sem, z0]) rfl FZ.out.1
          · obtain ⟨N, hN⟩ : ∃ N : Nat, z0 = (N : Int) := ⟨z0.toNat, by omega⟩
            subst hN
            have hN16 : N ≤ 16 := by omega
            have HNo := hid (show dSs N ([], fun _ => []) (zs.drop 1) = none → ∀ Lm S, ¬ IsT L Lm S from fun h Lm S hT => by
              obtain ⟨_, e1, e2⟩ := HIs.out Lm S hT
              have e3 : S.length = N := by omega
              rw [e3, h] at e2
              cases e2)
            have HYes := hid (show ∀ st r, dSs N ([], fun _ => []) (zs.drop 1) = some (st, r) → ∀ Lm S, IsT L Lm S → st = (S, Lm) ∧ r = [] from fun st r h Lm S hT => by
              obtain ⟨_, e1, e2⟩ := HIs.out Lm S hT
              have e3 : S.length = N := by omega
              rw [e3, h] at e2
              cases e2
              exact ⟨rfl, rfl⟩)
            clear HIs
            go_upto_region 14 with (fail)
            clear c5
            go_loopw [9, 10] (fun a i W => ∃ (j q : Nat) (p : Option Addr) (c : Nat) (T : List Opv) (ks : List Int) (Lm : Int → List It), j ≤ N ∧ i = .int .i64 (j : Nat) ∧ a = .int .i64 (q : Nat) ∧ 1 ≤ q ∧ q ≤ ln ∧ DS w3 W tb p c T ks Lm ∧ dSs N ([], fun _ => []) (zs.drop 1) = dSs (N - j) (ks, Lm) (zs.drop q)) (fun _ i _ => N - (intOf i).toNat)
            case atStart => exact ⟨0, 1, none, 0, [], [], (fun _ => []), Nat.zero_le _, rfl, rfl, Nat.le_refl _, hlnp, D5.out, rfl⟩
            case round =>
              obtain ⟨j, q, p, c, T, ks, Lm, hj, rfl, rfl, hq1, hq2, hD, hds⟩ := hrel
              have DD := hid hD
              have HDs := hid hds
              clear hD hds D5
              have cN := DD.out.old.keep (HCz.out 0 hlnp)
              rw [HZ0.out] at cN
              generalize wr = w6 at *
              have HNd := hid (show dSs (N - j) (ks, Lm) (zs.drop q) = none → ∀ Lm S, ¬ IsT L Lm S from fun h => HNo.out (by rw [HDs.out]; exact h))
              have HZl := hid (show (zs.drop q).length = ln - q from by rw [List.length_drop, HLn.out])
              have HZg := hid (drop_getD zs q)
              by_cases hlt : j < N
              · have l0 : (j : Int) < (N : Int) := by omega
                obtain ⟨q3, hq3⟩ : ∃ q3, q3 = q + 3 := ⟨_, rfl⟩
                obtain ⟨q2, hq2'⟩ : ∃ q2, q2 = q + 2 := ⟨_, rfl⟩
                have lw3 : IntKind.i64.wrap ((q : Int) + 3) = (q3 : Int) := by rw [IntWalk.i64_in _ (by omega)]; omega
                have lw2 : IntKind.i64.wrap ((q : Int) + 2) = (q2 : Int) := by rw [IntWalk.i64_in _ (by omega)]; omega
                have HSu := hid (show N - j = (N - (j + 1)) + 1 from by omega)
                by_cases g1 : ln < q + 3
                · have k1 : (q3 : Int) > (ln : Int) := by omega
                  have FZ := hid (HF.out w6 DD.out.old (HNd.out (by rw [HSu.out]; exact dSs_no (.inl (by rw [HZl.out]; omega)))))
                  obtain ⟨t0, tf0⟩ := HT5.out.old DD.out.old
                  clear HF HCz HNd HNo HYes HDs g1 hq3 hq2' HZg HZl HSu
                  go_wp2
                  have z0 := FZ.out.2
                  exact bodyPost_ret (v := .tuple #[.agg #[.slice none 0 0], .bool false]) (by simp [results, Try.results20, go_sem, z0]) rfl FZ.out.1
                · have k1 : ¬ (q3 : Int) > (ln : Int) := by omega
                  have a1 : (0 : Int) ≤ (q2 : Int) := by omega
                  have a2 : (q2 : Int) < (ln : Int) := by omega
                  have a2n : q2 < ln := by omega
                  have cm := DD.out.old.keep (HCz.out q2 a2n)
                  have HM := hid (show (zs.drop q).getD 2 0 = zs.getD q2 0 from by rw [HZg.out, hq2'])
                  generalize zs.getD q2 0 = m at *
                  by_cases g2 : m < 0
                  · have FZ := hid (HF.out w6 DD.out.old (HNd.out (by rw [HSu.out]; exact dSs_no (.inr (.inl (by rw [HM.out]; exact g2))))))
                    obtain ⟨t0, tf0⟩ := HT5.out.old DD.out.old
                    clear HF HCz HNd HNo HYes HDs g1 hq3 hq2' HZg HZl HSu
                    go_wp2
                    have z0 := FZ.out.2
                    exact bodyPost_ret (v := .tuple #[.agg #[.slice none 0 0], .bool false]) (by simp [results, Try.results20, go_sem, z0]) rfl FZ.out.1
                  · by_cases g3 : m > 8
                    · have FZ := hid (HF.out w6 DD.out.old (HNd.out (by rw [HSu.out]; exact dSs_no (.inr (.inr (.inl (by rw [HM.out]; exact g3)))))))
                      obtain ⟨t0, tf0⟩ := HT5.out.old DD.out.old
                      clear HF HCz HNd HNo HYes HDs g1 hq3 hq2' HZg HZl HSu
                      go_wp2
                      have z0 := FZ.out.2
                      exact bodyPost_ret (v := .tuple #[.agg #[.slice none 0 0], .bool false]) (by simp [results, Try.results20, go_sem, z0]) rfl FZ.out.1
                    · obtain ⟨M, hM⟩ : ∃ M : Nat, m = (M : Int) := ⟨m.toNat, by omega⟩
                      subst hM
                      have hM8 : M ≤ 8 := by omega
                      obtain ⟨m3, hm3⟩ : ∃ m3, m3 = 3 * M := ⟨_, rfl⟩
                      obtain ⟨q4, hq4⟩ : ∃ q4, q4 = q + 3 + 3 * M := ⟨_, rfl⟩
                      have lwm : IntKind.i64.wrap (3 * (M : Int)) = (m3 : Int) := by rw [IntWalk.i64_in _ (by omega)]; omega
                      have lw4 : IntKind.i64.wrap ((q3 : Int) + (m3 : Int)) = (q4 : Int) := by rw [IntWalk.i64_in _ (by omega)]; omega
                      by_cases g4 : ln < q4
                      · have k2 : (q4 : Int) > (ln : Int) := by omega
                        have FZ := hid (HF.out w6 DD.out.old (HNd.out (by rw [HSu.out]; exact dSs_no (.inr (.inr (.inr (by rw [HM.out, HZl.out]; omega)))))))
                        obtain ⟨t0, tf0⟩ := HT5.out.old DD.out.old
                        clear HF HCz HNd HNo HYes HDs g1 hq3 hq2' HZg HZl HSu hm3 hq4
                        go_wp2
                        have z0 := FZ.out.2
                        exact bodyPost_ret (v := .tuple #[.agg #[.slice none 0 0], .bool false]) (by simp [results, Try.results20, go_sem, z0]) rfl FZ.out.1
                      · have k2 : ¬ (q4 : Int) > (ln : Int) := by omega
                        have HGo := hid (show dSs (N - j) (ks, Lm) (zs.drop q) = match dIt M ((zs.drop q).getD 0 0) (ks, Lm) (zs.drop (q + 3)) with | none => none | some (st', r') => dSs (N - (j + 1)) st' r' from by
                          rw [HSu.out, dSs_go (by rw [HM.out, HZl.out]; omega), HM.out, List.drop_drop]
                          rfl)
                        rw [show (zs.drop q).getD 0 0 = zs.getD q 0 from HZg.out 0] at HGo
                        have b1 : (0 : Int) ≤ (q : Int) := by omega
                        have b2 : (q : Int) < (ln : Int) := by omega
                        have cq := DD.out.old.keep (HCz.out q (by omega))
                        have HCz2 := hid (fun i hi => HCz.out i hi)
                        generalize zs.getD q 0 = id at *
                        have HQ4 := hid (show q3 = q + 3 ∧ q4 = q + 3 + 3 * M ∧ q4 ≤ ln from ⟨hq3, hq4, by omega⟩)
                        clear hq3 hq2' hm3 hq4 g1 g4 HM HSu HNo
                        go_upto_region 22 with (fail)
                        clear cN cm cq lw3 lw2 lwm lw4 k1 k2 a1 a2 a2n b1 b2 g2 g3
                        have HNi := hid (show dIt M id (ks, Lm) (zs.drop (q + 3)) = none → ∀ Lm S, ¬ IsT L Lm S from fun h => HNd.out (by rw [HGo.out, h]))
                        have HOn := hid (show ∀ st' r', dIt M id (ks, Lm) (zs.drop (q + 3)) = some (st', r') → dSs N ([], fun _ => []) (zs.drop 1) = dSs (N - (j + 1)) st' r' from fun st' r' h => by rw [HDs.out, HGo.out, h])
                        have DD0 := hid DD.out
                        clear HNd HGo HDs HZg HZl DD
                        go_loopw [9, 13] (fun a i W => ∃ (k qj : Nat) (p : Option Addr) (c : Nat) (T : List Opv) (ks' : List Int) (Lm' : Int → List It), k ≤ M ∧ i = .int .i64 (k : Nat) ∧ a = .int .i64 (qj : Nat) ∧ qj = q + 3 + 3 * k ∧ DS w3 W tb p c T ks' Lm' ∧ dIt M id (ks, Lm) (zs.drop (q + 3)) = dIt (M - k) id (ks', Lm') (zs.drop qj)) (fun _ i _ => M - (intOf i).toNat)
                        case atStart => exact ⟨0, q3, p, c, T, ks, Lm, Nat.zero_le _, rfl, rfl, by have := HQ4.out; omega, DD0.out, by rw [HQ4.out.1]; rfl⟩
                        case round =>
                          obtain ⟨k, qj, pq, cq, Tq, kq, Lq, hk, rfl, rfl, hqj, hD, hdi⟩ := hrel
                          have DD := hid hD
                          have HDi := hid hdi
                          have HQj := hid hqj
                          clear hD hdi DD0
                          generalize wr = w7 at *
                          by_cases hkt : k < M
                          · have l1 : (k : Int) < (M : Int) := by omega
                            obtain ⟨qa, hqa⟩ : ∃ qa, qa = qj + 1 := ⟨_, rfl⟩
                            obtain ⟨qb, hqb⟩ : ∃ qb, qb = qj + 2 := ⟨_, rfl⟩
                            have hqq := HQ4.out
                            have hin : qj + 2 < ln := by omega
                            have lwa : IntKind.i64.wrap ((qj : Int) + 1) = (qa : Int) := by rw [IntWalk.i64_in _ (by omega)]; omega
                            have lwb : IntKind.i64.wrap ((qj : Int) + 2) = (qb : Int) := by rw [IntWalk.i64_in _ (by omega)]; omega
                            have lwc : IntKind.i64.wrap ((qj : Int) + 3) = ((qj + 3 : Nat) : Int) := by rw [IntWalk.i64_in _ (by omega)]; omega
                            have d0 : (0 : Int) ≤ (qj : Int) := by omega
                            have d1 : (qj : Int) < (ln : Int) := by omega
                            have d2 : (0 : Int) ≤ (qa : Int) := by omega
                            have d3 : (qa : Int) < (ln : Int) := by omega
                            have d4 : (0 : Int) ≤ (qb : Int) := by omega
                            have d5 : (qb : Int) < (ln : Int) := by omega
                            have e0 := DD.out.old.keep (HCz.out qj (by omega))
                            have e1 := DD.out.old.keep (HCz.out qa (by omega))
                            have e2 := DD.out.old.keep (HCz.out qb (by omega))
                            have HIt := hid (show itA (zs.drop qj) = ⟨zs.getD qj 0, zs.getD qa 0, zs.getD qb 0⟩ from by unfold itA; rw [drop_getD, drop_getD, drop_getD, hqa, hqb]; rfl)
                            have HDr := hid (show (zs.drop qj).drop 3 = zs.drop (qj + 3) from by rw [List.drop_drop])
                            have HSk := hid (show M - k = (M - (k + 1)) + 1 from by omega)
                            generalize zs.getD qj 0 = x0 at *
                            generalize zs.getD qa 0 = x1 at *
                            generalize zs.getD qb 0 = x2 at *
                            clear hqq hqa hqb hin HCz2 hqj
                            by_cases f1 : x1 < 0
                            · have FZ := hid (HF.out w7 DD.out.old (HNi.out (by rw [HDi.out, HSk.out]; exact dIt_no (.inl (by rw [HIt.out]; exact f1)))))
                              obtain ⟨t0, tf0⟩ := HT5.out.old DD.out.old
                              clear HF HCz HNi HOn HYes HDi HIt HDr HSk
                              go_wp2
                              have z0 := FZ.out.2
                              exact bodyPost_ret (v := .tuple #[.agg #[.slice none 0 0], .bool false]) (by simp [results, Try.results20, go_sem, z0]) rfl FZ.out.1
                            · by_cases f2 : x1 > 999
                              · have FZ := hid (HF.out w7 DD.out.old (HNi.out (by rw [HDi.out, HSk.out]; exact dIt_no (.inr (by rw [HIt.out]; exact f2)))))
                                obtain ⟨t0, tf0⟩ := HT5.out.old DD.out.old
                                clear HF HCz HNi HOn HYes HDi HIt HDr HSk
                                go_wp2
                                have z0 := FZ.out.2
                                exact bodyPost_ret (v := .tuple #[.agg #[.slice none 0 0], .bool false]) (by simp [results, Try.results20, go_sem, z0]) rfl FZ.out.1
                              · have HD8 := hid (fun (W2 : World) (p2 : Option Addr) (c2 : Nat) (T2 : List Opv) (u : Old w7 W2) (r : RRow W2 (.slice p2 T2.length c2) T2) (rl : Rel T2 (pk kq Lq id ⟨x0, x1, x2⟩) (pl kq Lq id ⟨x0, x1, x2⟩)) (hp : putC kq Lq id ⟨x0, x1, x2⟩ = 0) (hs : (Value.slice p2 T2.length c2) = .slice pq Tq.length cq ∨ ∀ b, (Value.slice p2 T2.length c2).ownBlock = some b → w7.heap.size ≤ b) => DD.out.put HTb.out u r rl hp hs)
                                have HGi := hid (fun (hp : putC kq Lq id ⟨x0, x1, x2⟩ = 0) => show dIt M id (ks, Lm) (zs.drop (q + 3)) = dIt (M - (k + 1)) id (pk kq Lq id ⟨x0, x1, x2⟩, pl kq Lq id ⟨x0, x1, x2⟩) (zs.drop (qj + 3)) from by
                                  rw [HDi.out, HSk.out, dIt_go (by rw [HIt.out]; show ¬ (x1 < 0 ∨ 999 < x1); omega) (by rw [HIt.out]; exact hp), HIt.out, HDr.out])
                                have HBad := hid (fun (hp : putC kq Lq id ⟨x0, x1, x2⟩ ≠ 0) => HNi.out (by rw [HDi.out, HSk.out]; exact dIt_no2 (by rw [HIt.out]; exact hp)))
                                have HPu := hid (show ∀ W : World, Old w7 W → Calls Try.prog 14 #[.agg #[.slice pq Tq.length cq], .agg #[.int .i64 id, .int .i64 x0, .int .i64 x1, .int .i64 x2]] W fun e w' => ∃ p2 c2 T2, e = .returned (.tuple #[.agg #[.slice p2 T2.length c2], .int .i64 (putC kq Lq id ⟨x0, x1, x2⟩)]) ∧ RRow w' (.slice p2 T2.length c2) T2 ∧ Rel T2 (pk kq Lq id ⟨x0, x1, x2⟩) (pl kq Lq id ⟨x0, x1, x2⟩) ∧ Old W w' ∧ ((Value.slice p2 T2.length c2) = .slice pq Tq.length cq ∨ ∀ b, (Value.slice p2 T2.length c2).ownBlock = some b → W.heap.size ≤ b) from fun W u => rPut_any (.slice pq Tq.length cq) Tq kq Lq ⟨id, ⟨x0, x1, x2⟩⟩ W (DD.out.row.old u) DD.out.rel DD.out.ok DD.out.nod DD.out.nil)
                                have HK9 := hid (show K9 tb gb qj qa qb (.slice pq Tq.length cq) x0 x1 x2 w7 from ⟨DD.out.cell, e0, e1, e2⟩)
                                clear HCz HNi HOn HYes HDi HIt HDr HSk
                                generalize putC kq Lq id ⟨x0, x1, x2⟩ = pcd at *
                                generalize pk kq Lq id ⟨x0, x1, x2⟩ = kq' at *
                                generalize pl kq Lq id ⟨x0, x1, x2⟩ = Lq' at *
                                go_upto_region 26 with (fail)
                                clear e0 e1 e2
                                refine wp_region_noPanic ?_
                                refine wp_region_held_drew (S := K9 tb gb qj qa qb (.slice pq Tq.length cq) x0 x1 x2) (by kernel_rfl) ?_ (fun hHeld => ?_)
                                · exact K9.old ((Old.refl w7).drew) HK9.out
                                (try simp only [Act.put]); (try simp only [List.setIfInBounds_toArray]); (try simp only [List.set_cons_succ]); (try simp only [List.set_cons_zero])
                                clear hHeld
                                refine wpAnyH_take (i := 0) (oi := { dst := some 128, op := Op.load 42 (Operand.tmp 8), type := 42, pos := "ref.go:169", after := #[], guard := none }) (v := ?vk1) rfl (by kernel_rfl) (by kernel_rfl) (by kernel_rfl) (fun _ _ _ h => h) (Or.inl ⟨by rfl, ?hk1⟩) (K9.old ((Old.refl w7).drew) HK9.out) ?rk1
                                case hk1 => (intro wz hSw; (try dsimp only at hSw); go_simp; try with_reducible rfl)
                                (try simp only [Act.put]); (try simp only [List.setIfInBounds_toArray]); (try simp only [List.set_cons_succ]); (try simp only [List.set_cons_zero])
                                refine wpAnyH_take (i := 1) (oi := { dst := some 129, op := Op.move (Operand.tmp 11), type := 2, pos := "ref.go:169", after := #[], guard := none }) (v := ?vk2) rfl (by kernel_rfl) (by kernel_rfl) (by kernel_rfl) (fun _ _ _ h => h) (Or.inl ⟨by rfl, ?hk2⟩) (K9.old ((Old.refl w7).drew) HK9.out) ?rk2
                                case hk2 => (intro wz hSw; (try dsimp only at hSw); go_simp; try with_reducible rfl)
                                (try simp only [Act.put]); (try simp only [List.setIfInBounds_toArray]); (try simp only [List.set_cons_succ]); (try simp only [List.set_cons_zero])
                                refine wpAnyH_take (i := 2) (oi := { dst := some 130, op := Op.move (Operand.tmp 4), type := 64, pos := "ref.go:169", after := #[], guard := none }) (v := ?vk3) rfl (by kernel_rfl) (by kernel_rfl) (by kernel_rfl) (fun _ _ _ h => h) (Or.inl ⟨by rfl, ?hk3⟩) (K9.old ((Old.refl w7).drew) HK9.out) ?rk3
                                case hk3 => (intro wz hSw; (try dsimp only at hSw); go_simp; try with_reducible rfl)
                                (try simp only [Act.put]); (try simp only [List.setIfInBounds_toArray]); (try simp only [List.set_cons_succ]); (try simp only [List.set_cons_zero])
                                refine wpAnyH_take (i := 3) (oi := { dst := some 131, op := Op.move (Operand.tmp 9), type := 3, pos := "ref.go:169", after := #[], guard := none }) (v := ?vk4) rfl (by kernel_rfl) (by kernel_rfl) (by kernel_rfl) (fun _ _ _ h => h) (Or.inl ⟨by rfl, ?hk4⟩) (K9.old ((Old.refl w7).drew) HK9.out) ?rk4
                                case hk4 => (intro wz hSw; (try dsimp only at hSw); go_simp; try with_reducible rfl)
                                (try simp only [Act.put]); (try simp only [List.setIfInBounds_toArray]); (try simp only [List.set_cons_succ]); (try simp only [List.set_cons_zero])
                                refine wpAnyH_take (i := 4) (oi := { dst := some 132, op := Op.indexAddr 64 (Operand.tmp 130) (Operand.tmp 131), type := 0, pos := "ref.go:169", after := #[{ on := 2, ground := Ground.data }, { on := 3, ground := Ground.data }], guard := none }) (v := ?vk5) rfl (by kernel_rfl) (by kernel_rfl) (by kernel_rfl) (fun _ _ _ h => h) (Or.inl ⟨by rfl, ?hk5⟩) (K9.old ((Old.refl w7).drew) HK9.out) ?rk5
                                case hk5 => (intro wz hSw; (try dsimp only at hSw); go_simp; try with_reducible rfl)
                                (try simp only [Act.put]); (try simp only [List.setIfInBounds_toArray]); (try simp only [List.set_cons_succ]); (try simp only [List.set_cons_zero])
                                refine wpAnyH_take (i := 5) (oi := { dst := some 133, op := Op.load 2 (Operand.tmp 132), type := 2, pos := "ref.go:169", after := #[{ on := 4, ground := Ground.data }], guard := none }) (v := ?vk6) rfl (by kernel_rfl) (by kernel_rfl) (by kernel_rfl) (fun _ _ _ h => h) (Or.inl ⟨by rfl, ?hk6⟩) (K9.old ((Old.refl w7).drew) HK9.out) ?rk6
                                case hk6 => (intro wz hSw; (try dsimp only at hSw); go_simp; try with_reducible rfl)
                                (try simp only [Act.put]); (try simp only [List.setIfInBounds_toArray]); (try simp only [List.set_cons_succ]); (try simp only [List.set_cons_zero])
                                refine wpAnyH_take (i := 6) (oi := { dst := some 134, op := Op.move (Operand.tmp 4), type := 64, pos := "ref.go:169", after := #[], guard := none }) (v := ?vk7) rfl (by kernel_rfl) (by kernel_rfl) (by kernel_rfl) (fun _ _ _ h => h) (Or.inl ⟨by rfl, ?hk7⟩) (K9.old ((Old.refl w7).drew) HK9.out) ?rk7
                                case hk7 => (intro wz hSw; (try dsimp only at hSw); go_simp; try with_reducible rfl)
                                (try simp only [Act.put]); (try simp only [List.setIfInBounds_toArray]); (try simp only [List.set_cons_succ]); (try simp only [List.set_cons_zero])
                                refine wpAnyH_take (i := 7) (oi := { dst := some 135, op := Op.move (Operand.tmp 9), type := 3, pos := "ref.go:169", after := #[], guard := none }) (v := ?vk8) rfl (by kernel_rfl) (by kernel_rfl) (by kernel_rfl) (fun _ _ _ h => h) (Or.inl ⟨by rfl, ?hk8⟩) (K9.old ((Old.refl w7).drew) HK9.out) ?rk8
                                case hk8 => (intro wz hSw; (try dsimp only at hSw); go_simp; try with_reducible rfl)
                                (try simp only [Act.put]); (try simp only [List.setIfInBounds_toArray]); (try simp only [List.set_cons_succ]); (try simp only [List.set_cons_zero])
                                refine wpAnyH_take (i := 8) (oi := { dst := some 136, op := Op.binOp BinOp.add 3 (Operand.tmp 135) (Operand.const (Value.int IntKind.i64 1)) 3, type := 3, pos := "ref.go:169", after := #[{ on := 7, ground := Ground.data }], guard := none }) (v := ?vk9) rfl (by kernel_rfl) (by kernel_rfl) (by kernel_rfl) (fun _ _ _ h => h) (Or.inl ⟨by rfl, ?hk9⟩) (K9.old ((Old.refl w7).drew) HK9.out) ?rk9
                                case hk9 => (intro wz hSw; (try dsimp only at hSw); go_simp; try with_reducible rfl)
                                (try simp only [Act.put]); (try simp only [List.setIfInBounds_toArray]); (try simp only [List.set_cons_succ]); (try simp only [List.set_cons_zero])
                                refine wpAnyH_take (i := 9) (oi := { dst := some 137, op := Op.indexAddr 64 (Operand.tmp 134) (Operand.tmp 136), type := 0, pos := "ref.go:169", after := #[{ on := 6, ground := Ground.data }, { on := 8, ground := Ground.data }], guard := none }) (v := ?vk10) rfl (by kernel_rfl) (by kernel_rfl) (by kernel_rfl) (fun _ _ _ h => h) (Or.inl ⟨by rfl, ?hk10⟩) (K9.old ((Old.refl w7).drew) HK9.out) ?rk10
                                case hk10 => (intro wz hSw; (try dsimp only at hSw); go_simp; try with_reducible rfl)
                                (try simp only [Act.put]); (try simp only [List.setIfInBounds_toArray]); (try simp only [List.set_cons_succ]); (try simp only [List.set_cons_zero])
                                refine wpAnyH_take (i := 10) (oi := { dst := some 138, op := Op.load 2 (Operand.tmp 137), type := 2, pos := "ref.go:169", after := #[{ on := 9, ground := Ground.data }], guard := none }) (v := ?vk11) rfl (by kernel_rfl) (by kernel_rfl) (by kernel_rfl) (fun _ _ _ h => h) (Or.inl ⟨by rfl, ?hk11⟩) (K9.old ((Old.refl w7).drew) HK9.out) ?rk11
                                case hk11 => (intro wz hSw; (try dsimp only at hSw); go_simp; try with_reducible rfl)
                                (try simp only [Act.put]); (try simp only [List.setIfInBounds_toArray]); (try simp only [List.set_cons_succ]); (try simp only [List.set_cons_zero])
                                refine wpAnyH_take (i := 11) (oi := { dst := some 139, op := Op.move (Operand.tmp 4), type := 64, pos := "ref.go:169", after := #[], guard := none }) (v := ?vk12) rfl (by kernel_rfl) (by kernel_rfl) (by kernel_rfl) (fun _ _ _ h => h) (Or.inl ⟨by rfl, ?hk12⟩) (K9.old ((Old.refl w7).drew) HK9.out) ?rk12
                                case hk12 => (intro wz hSw; (try dsimp only at hSw); go_simp; try with_reducible rfl)
                                (try simp only [Act.put]); (try simp only [List.setIfInBounds_toArray]); (try simp only [List.set_cons_succ]); (try simp only [List.set_cons_zero])
                                refine wpAnyH_take (i := 12) (oi := { dst := some 140, op := Op.move (Operand.tmp 9), type := 3, pos := "ref.go:169", after := #[], guard := none }) (v := ?vk13) rfl (by kernel_rfl) (by kernel_rfl) (by kernel_rfl) (fun _ _ _ h => h) (Or.inl ⟨by rfl, ?hk13⟩) (K9.old ((Old.refl w7).drew) HK9.out) ?rk13
                                case hk13 => (intro wz hSw; (try dsimp only at hSw); go_simp; try with_reducible rfl)
                                (try simp only [Act.put]); (try simp only [List.setIfInBounds_toArray]); (try simp only [List.set_cons_succ]); (try simp only [List.set_cons_zero])
                                refine wpAnyH_take (i := 13) (oi := { dst := some 141, op := Op.binOp BinOp.add 3 (Operand.tmp 140) (Operand.const (Value.int IntKind.i64 2)) 3, type := 3, pos := "ref.go:169", after := #[{ on := 12, ground := Ground.data }], guard := none }) (v := ?vk14) rfl (by kernel_rfl) (by kernel_rfl) (by kernel_rfl) (fun _ _ _ h => h) (Or.inl ⟨by rfl, ?hk14⟩) (K9.old ((Old.refl w7).drew) HK9.out) ?rk14
                                case hk14 => (intro wz hSw; (try dsimp only at hSw); go_simp; try with_reducible rfl)
                                (try simp only [Act.put]); (try simp only [List.setIfInBounds_toArray]); (try simp only [List.set_cons_succ]); (try simp only [List.set_cons_zero])
                                refine wpAnyH_take (i := 14) (oi := { dst := some 142, op := Op.indexAddr 64 (Operand.tmp 139) (Operand.tmp 141), type := 0, pos := "ref.go:169", after := #[{ on := 11, ground := Ground.data }, { on := 13, ground := Ground.data }], guard := none }) (v := ?vk15) rfl (by kernel_rfl) (by kernel_rfl) (by kernel_rfl) (fun _ _ _ h => h) (Or.inl ⟨by rfl, ?hk15⟩) (K9.old ((Old.refl w7).drew) HK9.out) ?rk15
                                case hk15 => (intro wz hSw; (try dsimp only at hSw); go_simp; try with_reducible rfl)
                                (try simp only [Act.put]); (try simp only [List.setIfInBounds_toArray]); (try simp only [List.set_cons_succ]); (try simp only [List.set_cons_zero])
                                refine wpAnyH_take (i := 15) (oi := { dst := some 143, op := Op.load 2 (Operand.tmp 142), type := 2, pos := "ref.go:169", after := #[{ on := 14, ground := Ground.data }], guard := none }) (v := ?vk16) rfl (by kernel_rfl) (by kernel_rfl) (by kernel_rfl) (fun _ _ _ h => h) (Or.inl ⟨by rfl, ?hk16⟩) (K9.old ((Old.refl w7).drew) HK9.out) ?rk16
                                case hk16 => (intro wz hSw; (try dsimp only at hSw); go_simp; try with_reducible rfl)
                                (try simp only [Act.put]); (try simp only [List.setIfInBounds_toArray]); (try simp only [List.set_cons_succ]); (try simp only [List.set_cons_zero])
                                refine wpAnyH_take (i := 16) (oi := { dst := some 144, op := Op.build 44 #[(0, Operand.tmp 129), (1, Operand.tmp 133), (2, Operand.tmp 138), (3, Operand.tmp 143)], type := 44, pos := "ref.go:169", after := #[{ on := 1, ground := Ground.data }, { on := 5, ground := Ground.data }, { on := 10, ground := Ground.data }, { on := 15, ground := Ground.data }], guard := none }) (v := ?vk17) rfl (by kernel_rfl) (by kernel_rfl) (by kernel_rfl) (fun _ _ _ h => h) (Or.inl ⟨by rfl, ?hk17⟩) (K9.old ((Old.refl w7).drew) HK9.out) ?rk17
                                case hk17 => (intro wz hSw; (try dsimp only at hSw); go_simp; try with_reducible rfl)
                                (try simp only [Act.put]); (try simp only [List.setIfInBounds_toArray]); (try simp only [List.set_cons_succ]); (try simp only [List.set_cons_zero])
                                refine wpAnyH_ready (rs := [17, 21]) (by kernel_rfl) (by simp) ?_
                                refine AllReadyH.cons (o := { dst := some 145, op := Op.call { callee := Callee.value (Operand.func 14), args := #[Operand.tmp 128, Operand.tmp 144], argTypes := #[42, 44] }, type := 47, pos := "ref.go:169", after := #[{ on := 0, ground := Ground.data }, { on := 16, ground := Ground.data }], guard := none }) rfl (fun K hK => ?_) (AllReadyH.cons (o := { dst := some 14, op := Op.alloc 42, type := 0, pos := "ref.go:169", after := #[], guard := none }) rfl (fun K hK => ?_) AllReadyH.nil)
                                · skip
                                  refine wantCall2 ?_ 14 (.tmp 128) (.tmp 144) #[42, 44] ?_ (.agg #[.slice pq Tq.length cq]) (.agg #[.int .i64 id, .int .i64 x0, .int .i64 x1, .int .i64 x2]) ?_ ?_ ?_ ((enters_of Try.func14 (by kernel_rfl) rfl) _ _) ?_
                                  · rfl
                                  · rfl
                                  · rfl
                                  · rfl
                                  · rfl
                                  refine (HPu.out _ ((Old.refl w7).drew)).mono ?_
                                  rintro o x18 ⟨p2, c2, T2, rfl, q18, rl18, b18, sm18⟩
                                  refine ⟨_, rfl, ?_⟩
                                  have R2 := hid rl18
                                  have SM := hid (show (Value.slice p2 T2.length c2) = .slice pq Tq.length cq ∨ ∀ b, (Value.slice p2 T2.length c2).ownBlock = some b → w7.heap.size ≤ b from sm18.imp (fun e => e) (fun h b e => by have h1 := h b e; have h2 := (((Old.refl w7).drew)).size; omega))
                                  clear rl18 sm18
                                  have U18 := (((Old.refl w7).drew)).trans b18
                                  refine hK.out _ _ (K9.old U18 HK9.out) (fun _ => ?_)
                                  clear hK K
                                  (try simp only [Act.put]); (try simp only [List.setIfInBounds_toArray]); (try simp only [List.set_cons_succ]); (try simp only [List.set_cons_zero])
                                  refine wpAnyH_take (i := 18) (oi := { dst := some 127, op := Op.move (Operand.tmp 145), type := 47, pos := "ref.go:169", after := #[{ on := 17, ground := Ground.data }], guard := none }) (v := ?vk19) rfl (by kernel_rfl) (by kernel_rfl) (by kernel_rfl) (fun _ _ _ h => h) (Or.inl ⟨by rfl, ?hk19⟩) (K9.old U18 HK9.out) ?rk19
                                  case hk19 => (intro wz hSw; (try dsimp only at hSw); go_simp; try with_reducible rfl)
                                  (try simp only [Act.put]); (try simp only [List.setIfInBounds_toArray]); (try simp only [List.set_cons_succ]); (try simp only [List.set_cons_zero])
                                  refine wpAnyH_take (i := 19) (oi := { dst := some 146, op := Op.extract (Operand.tmp 127) 0, type := 42, pos := "ref.go:169", after := #[{ on := 18, ground := Ground.data }], guard := none }) (v := ?vk20) rfl (by kernel_rfl) (by kernel_rfl) (by kernel_rfl) (fun _ _ _ h => h) (Or.inl ⟨by rfl, ?hk20⟩) (K9.old U18 HK9.out) ?rk20
                                  case hk20 => (intro wz hSw; (try dsimp only at hSw); go_simp; try with_reducible rfl)
                                  (try simp only [Act.put]); (try simp only [List.setIfInBounds_toArray]); (try simp only [List.set_cons_succ]); (try simp only [List.set_cons_zero])
                                  refine wpAnyH_take (i := 20) (oi := { dst := some 147, op := Op.extract (Operand.tmp 127) 1, type := 3, pos := "ref.go:169", after := #[{ on := 18, ground := Ground.data }, { on := 22, ground := Ground.gcOnly Departure.lateStores }], guard := none }) (v := ?vk21) rfl (by kernel_rfl) (by kernel_rfl) (by kernel_rfl) (fun _ _ _ h => h) (Or.inl ⟨by rfl, ?hk21⟩) (K9.old U18 HK9.out) ?rk21
                                  case hk21 => (intro wz hSw; (try dsimp only at hSw); go_simp; try with_reducible rfl)
                                  (try simp only [Act.put]); (try simp only [List.setIfInBounds_toArray]); (try simp only [List.set_cons_succ]); (try simp only [List.set_cons_zero])
                                  refine wpAnyH_ready (rs := [21]) (by kernel_rfl) (by simp) ?_
                                  refine AllReadyH.cons (o := { dst := some 14, op := Op.alloc 42, type := 0, pos := "ref.go:169", after := #[], guard := none }) rfl (fun K hK => ?_) AllReadyH.nil
                                  · skip
                                    refine stepAllocT ?_ ?_ ?_
                                    · rfl
                                    · rfl
                                    intro m22 y22 hm22 hy22
                                    obtain ⟨nn22, b22⟩ := NewB.new _ y22 m22 hm22 hy22
                                    have Z22 : w7.heap.size ≤ m22 := by rw [hm22]; exact (U18).size
                                    have DN := hid (show ∀ b, 0 < T2.length → p2 = some ⟨b, 0, none⟩ → b ≠ m22 from fun b h0 e => by have := (q18).lt b h0 e; omega)
                                    have U22 := (U18).trans b22
                                    have r22 := RRow.old q18 b22
                                    clear hm22 hy22
                                    refine hK.out _ _ (K9.old U22 HK9.out) (fun _ => ?_)
                                    clear hK K
                                    (try simp only [Act.put]); (try simp only [List.setIfInBounds_toArray]); (try simp only [List.set_cons_succ]); (try simp only [List.set_cons_zero])
                                    refine wpAnyH_ready (rs := [22]) (by kernel_rfl) (by simp) ?_
                                    refine AllReadyH.cons (o := { dst := none, op := Op.store 42 (Operand.tmp 14) (Operand.tmp 146), type := 0, pos := "ref.go:169", after := #[{ on := 21, ground := Ground.data }, { on := 19, ground := Ground.data }, { on := 17, ground := Ground.chain }, { on := 0, ground := Ground.phase }, { on := 1, ground := Ground.phase }, { on := 2, ground := Ground.phase }, { on := 3, ground := Ground.phase }, { on := 4, ground := Ground.phase }, { on := 5, ground := Ground.phase }, { on := 6, ground := Ground.phase }, { on := 7, ground := Ground.phase }, { on := 8, ground := Ground.phase }, { on := 9, ground := Ground.phase }, { on := 10, ground := Ground.phase }, { on := 11, ground := Ground.phase }, { on := 12, ground := Ground.phase }, { on := 13, ground := Ground.phase }, { on := 14, ground := Ground.phase }, { on := 15, ground := Ground.phase }, { on := 16, ground := Ground.phase }, { on := 17, ground := Ground.phase }, { on := 18, ground := Ground.phase }, { on := 19, ground := Ground.phase }, { on := 20, ground := Ground.textOnly Departure.lateStores }, { on := 21, ground := Ground.phase }], guard := none }) rfl (fun K hK => ?_) AllReadyH.nil
                                    · skip
                                      refine stepStoreT ?_ (.tmp 14) (.tmp 146) ?_ m22 (.slice p2 T2.length c2) ?_ ?_ (nn22).there rfl ?_
                                      · rfl
                                      · rfl
                                      · rfl
                                      · rfl
                                      obtain ⟨zz, cz⟩ := (nn22).cell
                                      have NC := hid (World.cell?_setCell_same _ _ (.slice p2 T2.length c2) cz)
                                      have U23 := (U22).setCell (p := ⟨m22, 0, none⟩) Z22 (.slice p2 T2.length c2)
                                      have R3 := hid (RRow.set r22 m22 (.slice p2 T2.length c2) DN.out)
                                      clear cz
                                      refine hK.out _ _ (K9.old U23 HK9.out) (fun _ => ?_)
                                      clear hK K
                                      (try simp only [Act.put]); (try simp only [List.setIfInBounds_toArray]); (try simp only [List.set_cons_succ]); (try simp only [List.set_cons_zero])
                                      refine wpAnyH_ready (rs := [23]) (by kernel_rfl) (by simp) ?_
                                      refine AllReadyH.cons (o := { dst := some 15, op := Op.assign (Operand.tmp 147), type := 3, pos := "ref.go:169", after := #[{ on := 20, ground := Ground.data }, { on := 22, ground := Ground.chain }, { on := 0, ground := Ground.phase }, { on := 1, ground := Ground.phase }, { on := 2, ground := Ground.phase }, { on := 3, ground := Ground.phase }, { on := 4, ground := Ground.phase }, { on := 5, ground := Ground.phase }, { on := 6, ground := Ground.phase }, { on := 7, ground := Ground.phase }, { on := 8, ground := Ground.phase }, { on := 9, ground := Ground.phase }, { on := 10, ground := Ground.phase }, { on := 11, ground := Ground.phase }, { on := 12, ground := Ground.phase }, { on := 13, ground := Ground.phase }, { on := 14, ground := Ground.phase }, { on := 15, ground := Ground.phase }, { on := 16, ground := Ground.phase }, { on := 17, ground := Ground.phase }, { on := 18, ground := Ground.phase }, { on := 19, ground := Ground.phase }, { on := 20, ground := Ground.phase }, { on := 21, ground := Ground.phase }, { on := 22, ground := Ground.phase }], guard := none }) rfl (fun K hK => ?_) AllReadyH.nil
                                      · skip
                                        go_simp
                                        refine hK.out _ _ (K9.old U23 HK9.out) (fun _ => ?_)
                                        clear hK K
                                        (try simp only [Act.put]); (try simp only [List.setIfInBounds_toArray]); (try simp only [List.set_cons_succ]); (try simp only [List.set_cons_zero])
                                        refine wpAnyH_done (by kernel_rfl) ?_ _
                                        refine NoPanic.normal ?_
                                        generalize hwz : World.setCell _ _ _ = wz at *
                                        clear hwz
                                        have UZ := hid U23
                                        have y0 := NC.out
                                        clear HPu HK9 DN NC
                                        by_cases h0 : pcd = 0
                                        · have y1 := UZ.out.keep DD.out.cell
                                          have y2 := UZ.out.keepF DD.out.cell DD.out.free
                                          have k5 : (pcd != 0) = false := by rw [h0]; rfl
                                          have k6 : (pcd == 0) = true := by rw [h0]; rfl
                                          have D8 := hid (HD8.out wz p2 c2 T2 UZ.out R3.out R2.out h0 SM.out)
                                          have HNx := hid (HGi.out h0)
                                          subst h0
                                          clear HD8 HGi HBad R2 R3 SM DD UZ
                                          generalize T2.length = n2 at *
                                          go_wp2
                                          go_roundw
                                          case rel => exact ⟨k + 1, qj + 3, p2, c2, T2, _, _, hkt, by go_num, by go_num, by have := HQj.out; omega, D8.out, HNx.out⟩
                                          case measure => simp [intOf]; omega
                                        · have k5 : (pcd != 0) = true := by rw [bne_iff_ne]; exact h0
                                          have k6 : (pcd == 0) = false := by rw [beq_eq_false_iff_ne]; exact h0
                                          have FZ := hid (HF.out wz (DD.out.old.trans UZ.out) (HBad.out h0))
                                          obtain ⟨t0, tf0⟩ := HT5.out.old (DD.out.old.trans UZ.out)
                                          clear HF HD8 HGi HBad R2 R3 SM DD UZ
                                          go_wp2
                                          have z0 := FZ.out.2
                                          exact bodyPost_ret (v := .tuple #[.agg #[.slice none 0 0], .bool false]) (by simp [results, Try.results20, go_sem, z0]) rfl FZ.out.1
                                · skip
                                  refine stepAllocT ?_ ?_ ?_
                                  · rfl
                                  · rfl
                                  intro m24 y24 hm24 hy24
                                  obtain ⟨nn24, b24⟩ := NewB.new _ y24 m24 hm24 hy24
                                  have Z24 : w7.heap.size ≤ m24 := by rw [hm24]; exact (((Old.refl w7).drew)).size
                                  have U24 := (((Old.refl w7).drew)).trans b24
                                  clear hm24 hy24
                                  refine hK.out _ _ (K9.old U24 HK9.out) (fun _ => ?_)
                                  clear hK K
                                  (try simp only [Act.put]); (try simp only [List.setIfInBounds_toArray]); (try simp only [List.set_cons_succ]); (try simp only [List.set_cons_zero])
                                  refine wpAnyH_ready (rs := [17]) (by kernel_rfl) (by simp) ?_
                                  refine AllReadyH.cons (o := { dst := some 145, op := Op.call { callee := Callee.value (Operand.func 14), args := #[Operand.tmp 128, Operand.tmp 144], argTypes := #[42, 44] }, type := 47, pos := "ref.go:169", after := #[{ on := 0, ground := Ground.data }, { on := 16, ground := Ground.data }], guard := none }) rfl (fun K hK => ?_) AllReadyH.nil
                                  · skip
                                    refine wantCall2 ?_ 14 (.tmp 128) (.tmp 144) #[42, 44] ?_ (.agg #[.slice pq Tq.length cq]) (.agg #[.int .i64 id, .int .i64 x0, .int .i64 x1, .int .i64 x2]) ?_ ?_ ?_ ((enters_of Try.func14 (by kernel_rfl) rfl) _ _) ?_
                                    · rfl
                                    · rfl
                                    · rfl
                                    · rfl
                                    · rfl
                                    refine (HPu.out _ U24).mono ?_
                                    rintro o x25 ⟨p2, c2, T2, rfl, q25, rl25, b25, sm25⟩
                                    refine ⟨_, rfl, ?_⟩
                                    have R2 := hid rl25
                                    have SM := hid (show (Value.slice p2 T2.length c2) = .slice pq Tq.length cq ∨ ∀ b, (Value.slice p2 T2.length c2).ownBlock = some b → w7.heap.size ≤ b from sm25.imp (fun e => e) (fun h b e => by have h1 := h b e; have h2 := (U24).size; omega))
                                    have DN := hid (show ∀ b, 0 < T2.length → p2 = some ⟨b, 0, none⟩ → b ≠ m24 from fun b h0 e => by rcases sm25 with h | h; (have hp : p2 = pq := by injection h); (have hl : T2.length = Tq.length := by injection h); (have q1 := DD.out.row.lt b (by omega) (by rw [← hp]; exact e)); (have q2 := Z24); omega; (have q1 := h b (by rw [e]; rfl)); (obtain ⟨zz, cz⟩ := (nn24).cell); (have q2 := World.block_lt_of_cell? _ _ cz); simp at q2; omega)
                                    clear rl25 sm25
                                    have U25 := (U24).trans b25
                                    have n25 := NewB.old b25 nn24
                                    refine hK.out _ _ (K9.old U25 HK9.out) (fun _ => ?_)
                                    clear hK K
                                    (try simp only [Act.put]); (try simp only [List.setIfInBounds_toArray]); (try simp only [List.set_cons_succ]); (try simp only [List.set_cons_zero])
                                    refine wpAnyH_take (i := 18) (oi := { dst := some 127, op := Op.move (Operand.tmp 145), type := 47, pos := "ref.go:169", after := #[{ on := 17, ground := Ground.data }], guard := none }) (v := ?vk26) rfl (by kernel_rfl) (by kernel_rfl) (by kernel_rfl) (fun _ _ _ h => h) (Or.inl ⟨by rfl, ?hk26⟩) (K9.old U25 HK9.out) ?rk26
                                    case hk26 => (intro wz hSw; (try dsimp only at hSw); go_simp; try with_reducible rfl)
                                    (try simp only [Act.put]); (try simp only [List.setIfInBounds_toArray]); (try simp only [List.set_cons_succ]); (try simp only [List.set_cons_zero])
                                    refine wpAnyH_take (i := 19) (oi := { dst := some 146, op := Op.extract (Operand.tmp 127) 0, type := 42, pos := "ref.go:169", after := #[{ on := 18, ground := Ground.data }], guard := none }) (v := ?vk27) rfl (by kernel_rfl) (by kernel_rfl) (by kernel_rfl) (fun _ _ _ h => h) (Or.inl ⟨by rfl, ?hk27⟩) (K9.old U25 HK9.out) ?rk27
                                    case hk27 => (intro wz hSw; (try dsimp only at hSw); go_simp; try with_reducible rfl)
                                    (try simp only [Act.put]); (try simp only [List.setIfInBounds_toArray]); (try simp only [List.set_cons_succ]); (try simp only [List.set_cons_zero])
                                    refine wpAnyH_take (i := 20) (oi := { dst := some 147, op := Op.extract (Operand.tmp 127) 1, type := 3, pos := "ref.go:169", after := #[{ on := 18, ground := Ground.data }, { on := 22, ground := Ground.gcOnly Departure.lateStores }], guard := none }) (v := ?vk28) rfl (by kernel_rfl) (by kernel_rfl) (by kernel_rfl) (fun _ _ _ h => h) (Or.inl ⟨by rfl, ?hk28⟩) (K9.old U25 HK9.out) ?rk28
                                    case hk28 => (intro wz hSw; (try dsimp only at hSw); go_simp; try with_reducible rfl)
                                    (try simp only [Act.put]); (try simp only [List.setIfInBounds_toArray]); (try simp only [List.set_cons_succ]); (try simp only [List.set_cons_zero])
                                    refine wpAnyH_ready (rs := [22]) (by kernel_rfl) (by simp) ?_
                                    refine AllReadyH.cons (o := { dst := none, op := Op.store 42 (Operand.tmp 14) (Operand.tmp 146), type := 0, pos := "ref.go:169", after := #[{ on := 21, ground := Ground.data }, { on := 19, ground := Ground.data }, { on := 17, ground := Ground.chain }, { on := 0, ground := Ground.phase }, { on := 1, ground := Ground.phase }, { on := 2, ground := Ground.phase }, { on := 3, ground := Ground.phase }, { on := 4, ground := Ground.phase }, { on := 5, ground := Ground.phase }, { on := 6, ground := Ground.phase }, { on := 7, ground := Ground.phase }, { on := 8, ground := Ground.phase }, { on := 9, ground := Ground.phase }, { on := 10, ground := Ground.phase }, { on := 11, ground := Ground.phase }, { on := 12, ground := Ground.phase }, { on := 13, ground := Ground.phase }, { on := 14, ground := Ground.phase }, { on := 15, ground := Ground.phase }, { on := 16, ground := Ground.phase }, { on := 17, ground := Ground.phase }, { on := 18, ground := Ground.phase }, { on := 19, ground := Ground.phase }, { on := 20, ground := Ground.textOnly Departure.lateStores }, { on := 21, ground := Ground.phase }], guard := none }) rfl (fun K hK => ?_) AllReadyH.nil
                                    · skip
                                      refine stepStoreT ?_ (.tmp 14) (.tmp 146) ?_ m24 (.slice p2 T2.length c2) ?_ ?_ (n25).there rfl ?_
                                      · rfl
                                      · rfl
                                      · rfl
                                      · rfl
                                      obtain ⟨zz, cz⟩ := (n25).cell
                                      have NC := hid (World.cell?_setCell_same _ _ (.slice p2 T2.length c2) cz)
                                      have U29 := (U25).setCell (p := ⟨m24, 0, none⟩) Z24 (.slice p2 T2.length c2)
                                      have R3 := hid (RRow.set q25 m24 (.slice p2 T2.length c2) DN.out)
                                      clear cz
                                      refine hK.out _ _ (K9.old U29 HK9.out) (fun _ => ?_)
                                      clear hK K
                                      (try simp only [Act.put]); (try simp only [List.setIfInBounds_toArray]); (try simp only [List.set_cons_succ]); (try simp only [List.set_cons_zero])
                                      refine wpAnyH_ready (rs := [23]) (by kernel_rfl) (by simp) ?_
                                      refine AllReadyH.cons (o := { dst := some 15, op := Op.assign (Operand.tmp 147), type := 3, pos := "ref.go:169", after := #[{ on := 20, ground := Ground.data }, { on := 22, ground := Ground.chain }, { on := 0, ground := Ground.phase }, { on := 1, ground := Ground.phase }, { on := 2, ground := Ground.phase }, { on := 3, ground := Ground.phase }, { on := 4, ground := Ground.phase }, { on := 5, ground := Ground.phase }, { on := 6, ground := Ground.phase }, { on := 7, ground := Ground.phase }, { on := 8, ground := Ground.phase }, { on := 9, ground := Ground.phase }, { on := 10, ground := Ground.phase }, { on := 11, ground := Ground.phase }, { on := 12, ground := Ground.phase }, { on := 13, ground := Ground.phase }, { on := 14, ground := Ground.phase }, { on := 15, ground := Ground.phase }, { on := 16, ground := Ground.phase }, { on := 17, ground := Ground.phase }, { on := 18, ground := Ground.phase }, { on := 19, ground := Ground.phase }, { on := 20, ground := Ground.phase }, { on := 21, ground := Ground.phase }, { on := 22, ground := Ground.phase }], guard := none }) rfl (fun K hK => ?_) AllReadyH.nil
                                      · skip
                                        go_simp
                                        refine hK.out _ _ (K9.old U29 HK9.out) (fun _ => ?_)
                                        clear hK K
                                        (try simp only [Act.put]); (try simp only [List.setIfInBounds_toArray]); (try simp only [List.set_cons_succ]); (try simp only [List.set_cons_zero])
                                        refine wpAnyH_done (by kernel_rfl) ?_ _
                                        refine NoPanic.normal ?_
                                        generalize hwz : World.setCell _ _ _ = wz at *
                                        clear hwz
                                        have UZ := hid U29
                                        have y0 := NC.out
                                        clear HPu HK9 DN NC
                                        by_cases h0 : pcd = 0
                                        · have y1 := UZ.out.keep DD.out.cell
                                          have y2 := UZ.out.keepF DD.out.cell DD.out.free
                                          have k5 : (pcd != 0) = false := by rw [h0]; rfl
                                          have k6 : (pcd == 0) = true := by rw [h0]; rfl
                                          have D8 := hid (HD8.out wz p2 c2 T2 UZ.out R3.out R2.out h0 SM.out)
                                          have HNx := hid (HGi.out h0)
                                          subst h0
                                          clear HD8 HGi HBad R2 R3 SM DD UZ
                                          generalize T2.length = n2 at *
                                          go_wp2
                                          go_roundw
                                          case rel => exact ⟨k + 1, qj + 3, p2, c2, T2, _, _, hkt, by go_num, by go_num, by have := HQj.out; omega, D8.out, HNx.out⟩
                                          case measure => simp [intOf]; omega
                                        · have k5 : (pcd != 0) = true := by rw [bne_iff_ne]; exact h0
                                          have k6 : (pcd == 0) = false := by rw [beq_eq_false_iff_ne]; exact h0
                                          have FZ := hid (HF.out wz (DD.out.old.trans UZ.out) (HBad.out h0))
                                          obtain ⟨t0, tf0⟩ := HT5.out.old (DD.out.old.trans UZ.out)
                                          clear HF HD8 HGi HBad R2 R3 SM DD UZ
                                          go_wp2
                                          have z0 := FZ.out.2
                                          exact bodyPost_ret (v := .tuple #[.agg #[.slice none 0 0], .bool false]) (by simp [results, Try.results20, go_sem, z0]) rfl FZ.out.1
                          · obtain rfl : k = M := by omega
                            have HNx := hid (HOn.out (kq, Lq) (zs.drop qj) (by rw [HDi.out, Nat.sub_self]; rfl))
                            have l1 : ¬ (k : Int) < (k : Int) := by omega
                            have hqr : 1 ≤ qj ∧ qj ≤ ln := by have := HQ4.out; omega
                            clear HCz HNi HOn HYes HDi HF HCz2 hqj HQj
                            go_wp2
                            go_roundw
                            case rel => exact ⟨j + 1, qj, pq, cq, Tq, kq, Lq, hlt, by go_num, rfl, hqr.1, hqr.2, DD.out, HNx.out⟩
                            case measure => simp [intOf]; omega
              · obtain rfl : j = N := by omega
                have l0 : ¬ (j : Int) < (j : Int) := by omega
                have HY := hid (HYes.out (ks, Lm) (zs.drop q) (by rw [HDs.out, Nat.sub_self]; rfl))
                clear HYes HDs HNd HNo HCz HZg
                by_cases g1 : q = ln
                · subst g1
                  have k1 : ((q : Int) != (q : Int)) = false := by simp
                  have dc := DD.out.cell
                  have HBt := hid (fun (W : World) (u : Old w6 W) => rBytes_any (.slice p T.length c) T ks Lm W (DD.out.row.old u) DD.out.rel DD.out.ok DD.out.vo DD.out.nod)
                  have HRow := hid (fun (W : World) (u : Old w6 W) => show Pk.ByRow W (.slice a0 la c0) L.length (Pk.gd L) from by rw [HLa.out]; exact HB0.out.up (O1.out.trans (HU.out.trans (DD.out.old.trans u))))
                  by_cases hS : ∃ S0 : List Int, S0.Perm ks ∧ S0.Pairwise (· ≤ ·) ∧ numB (tabN Lm S0 S0.length) = L
                  · obtain ⟨S0, s1, s2, s3⟩ := hS
                    have HBt2 := hid (fun (W : World) (u : Old w6 W) => (HBt.out W u).mono (R' := fun e w' => ∃ v', e = .returned v' ∧ Pk.OwnL W.heap.size w' v' L ∧ Old W w') (by
                      rintro e w' ⟨v', S, rfl, h1, h2, o, u'⟩
                      have := sort_one s1 h1 (List.Perm.refl _) s2 h2
                      subst this
                      rw [s3] at o
                      exact ⟨v', rfl, o, u'⟩))
                    have HT := hid (show IsT L Lm S0 from ⟨by rw [s1.length_eq]; exact DD.out.ok.many, strict_of s1 DD.out.nod s2, fun z hz => DD.out.ok.rng z (s1.mem_iff.1 hz), fun z hz => kp_of DD.out.ok DD.out.vo z (s1.mem_iff.1 hz), fun z hz => DD.out.nil z (fun k => hz (s1.mem_iff.2 k)), s3.symm⟩)
                    have HRl2 := hid (show Rel T S0 Lm from ⟨DD.out.rel.once, fun o ho => ⟨(DD.out.rel.of o ho).1, s1.mem_iff.2 (DD.out.rel.of o ho).2⟩, DD.out.rel.all⟩)
                    clear HBt s1 s2 s3 HY HF
                    go_upto_region 33 with (first | (go_at_call 19; refine (HBt2.out _ (Old.refl _)).mono ?_; rintro e w7 ⟨vB, rfl, ob, u7⟩; have OB := hid ob; have U7 := hid u7; clear ob u7) | (go_at_call 12; refine (sameBytesL vB (.slice a0 la c0) L _ OB.out.row (HRow.out _ U7.out)).mono ?_; rintro e w8 ⟨rfl, u8⟩; have U8 := hid (U7.out.trans u8); clear u8))
                    obtain ⟨t0, tf0⟩ := HT5.out.old (DD.out.old.trans U8.out)
                    have d0 := U8.out.keep dc
                    have Z0 := hid (World.cell?_setCell_same _ _ (.slice p T.length c) t0)
                    have FZ := hid (show RlPost L w (.returned (.tuple #[.agg #[.slice p T.length c], .bool true])) (w8.setCell ⟨rb, 0, none⟩ (.slice p T.length c)) from ⟨(O1.out.trans (HU.out.trans (DD.out.old.trans U8.out))).setCell HZ.out _, .inl ⟨T, p, c, Lm, S0, HT.out, rfl, RRow.set (DD.out.row.old U8.out) rb _ (fun b h0 e => by have h1 := (DD.out.far h0 b (by rw [e]; rfl)).1; have h2 := HRl.out; omega), HRl2.out⟩⟩)
                    clear HBt2 HRow HT HRl2 DD dc
                    generalize T.length = tn at *
                    go_wp2
                    have z0 := Z0.out
                    exact bodyPost_ret (v := .tuple #[.agg #[.slice p tn c], .bool true]) (by simp [results, Try.results20, go_sem, z0]) rfl FZ.out
                  · have HBt2 := hid (fun (W : World) (u : Old w6 W) => (HBt.out W u).mono (R' := fun e w' => ∃ v' A, e = .returned v' ∧ A ≠ L ∧ Pk.OwnL W.heap.size w' v' A ∧ Old W w') (by
                      rintro e w' ⟨v', S, rfl, h1, h2, o, u'⟩
                      exact ⟨v', _, rfl, fun e => hS ⟨S, h1, h2, e⟩, o, u'⟩))
                    have HN := hid (show ∀ Lm S, ¬ IsT L Lm S from fun Lm' S hT => by
                      obtain ⟨e1, _⟩ := HY.out Lm' S hT
                      cases e1
                      exact hS ⟨ks, List.Perm.refl _, hT.rise.imp (fun h => by omega), hT.bytes.symm⟩)
                    clear HBt hS HY
                    go_upto_region 32 with (first | (go_at_call 19; refine (HBt2.out _ (Old.refl _)).mono ?_; rintro e w7 ⟨vB, A, rfl, hA, ob, u7⟩; have OB := hid ob; have U7 := hid u7; have HA := hid hA; clear ob u7 hA) | (go_at_call 12; refine (sameBytesG vB (.slice a0 la c0) A L _ OB.out.row (HRow.out _ U7.out)).mono ?_; rintro e w8 ⟨rfl, u8⟩; rw [decide_eq_false HA.out]; have U8 := hid (U7.out.trans u8); clear u8))
                    have FZ := hid (HF.out w8 (DD.out.old.trans U8.out) HN.out)
                    obtain ⟨t0, tf0⟩ := HT5.out.old (DD.out.old.trans U8.out)
                    clear HBt2 HRow HN DD dc HF
                    go_wp2
                    have z0 := FZ.out.2
                    exact bodyPost_ret (v := .tuple #[.agg #[.slice none 0 0], .bool false]) (by simp [results, Try.results20, go_sem, z0]) rfl FZ.out.1
                · have k1 : ((q : Int) != (ln : Int)) = true := by rw [bne_iff_ne]; omega
                  have k2 : ((q : Int) == (ln : Int)) = false := by rw [beq_eq_false_iff_ne]; omega
                  have FZ := hid (HF.out w6 DD.out.old (fun Lm' S hT => by
                    have e2 := (HY.out Lm' S hT).2
                    have e3 := HZl.out
                    rw [e2, List.length_nil] at e3
                    omega))
                  obtain ⟨t0, tf0⟩ := HT5.out.old DD.out.old
                  clear HF HY HZl
                  go_wp2
                  have z0 := FZ.out.2
                  exact bodyPost_ret (v := .tuple #[.agg #[.slice none 0 0], .bool false]) (by simp [results, Try.results20, go_sem, z0]) rfl FZ.out.1
end Go.Proofs.Ytefffjlcfghniaa
