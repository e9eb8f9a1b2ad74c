/- The document's Load, of layer 15; conditions: the bytes lie in memory, and are no more than a bound. -/
import Derived.Test.YtgpfmohaogppiaaPkGr
import Derived.Test.YtgpfmohaogppiaaRv2
namespace Go.Proofs.Ytgpfmohaogppiaa
open Go.RowKit Go.Lib
set_option linter.unusedVariables false
set_option linter.unusedSimpArgs false
set_option maxRecDepth 20000
def lenOf : Value → Nat | .slice _ n _ => n | _ => 0
theorem cut_row {w : World} {b off cap k : Nat} {L : List Nat} (h : Pk.ByRow w (.slice (some ⟨b, off, none⟩) L.length cap) L.length (Pk.gd L)) (hk : k ≤ L.length) (o : Nat) (ho : o = if cap = k then off else off + k) : Pk.ByRow w (.slice (some ⟨b, o, none⟩) (L.length - k) (cap - k)) (L.drop k).length (Pk.gd (L.drop k)) := by
  rw [gd_drop, List.length_drop]
  rcases h with ⟨h0, _⟩ | ⟨hn, hm, b', off', cap', hv, hc, hcp⟩
  · exact .inl ⟨by omega, _, _, by rw [show L.length - k = 0 by omega], fun h => by cases h⟩
  · cases hv
    by_cases hz : L.length - k = 0
    · exact .inl ⟨hz, _, _, by rw [hz], fun h => by cases h⟩
    · rw [if_neg (by omega)] at ho
      subst ho
      refine .inr ⟨by omega, by omega, b, off + k, cap - k, rfl, fun i hi => ?_, by omega, by omega⟩
      have q := hc (k + i) (by omega)
      rw [← Nat.add_assoc] at q
      exact q
theorem tkC_cut {most n : Nat} {L B : List Nat} (h : tkC most L = some (n, B)) : Pk.lnK (Pk.gd L) L.length ≠ 0 ∧ Pk.lnK (Pk.gd L) L.length ≤ L.length ∧ Pk.lnV (Pk.gd L) L.length = (n : Int) ∧ n ≤ most ∧ B = L.drop (Pk.lnK (Pk.gd L) L.length) := by
  unfold tkC tkN at h
  by_cases q : Pk.lnK (Pk.gd L) L.length = 0
  · rw [if_pos q] at h; cases h
  · rw [if_neg q] at h
    simp only at h
    split at h
    · rename_i k
      cases h
      exact ⟨q, Pk.ln_le _ _ 11 0, by omega, by omega, rfl⟩
    · cases h
theorem tkC_no {most : Nat} {L : List Nat} (h : tkC most L = none) : Pk.lnK (Pk.gd L) L.length = 0 ∨ Pk.lnK (Pk.gd L) L.length ≠ 0 ∧ (Pk.lnV (Pk.gd L) L.length < 0 ∨ 0 ≤ Pk.lnV (Pk.gd L) L.length ∧ (most : Int) < Pk.lnV (Pk.gd L) L.length) := by
  unfold tkC tkN at h
  by_cases q : Pk.lnK (Pk.gd L) L.length = 0
  · exact .inl q
  · rw [if_neg q] at h
    simp only at h
    split at h
    · cases h
    · rename_i k
      right; refine ⟨q, ?_⟩; omega
/-- What the document's Load answers. -/
def RlPost (L : List Nat) (w : World) (e : Ending) (w' : World) : Prop := Old w w' ∧ ((∃ (a c : List Int) (t1 t2 : Option Addr) (z1 z2 : Nat), ldConf L = some (a, c) ∧ e = .returned (.tuple #[.agg #[.slice t1 a.length z1, .slice t2 c.length z2], .bool true]) ∧ NRowL w' (.slice t1 a.length z1) a.length (gI a) ∧ NRowL w' (.slice t2 c.length z2) c.length (gI c) ∧ (∀ g, (Value.slice t1 a.length z1).ownBlock = some g → w.heap.size ≤ g) ∧ (∀ g, (Value.slice t2 c.length z2).ownBlock = some g → w.heap.size ≤ g)) ∨ (ldConf L = none ∧ ∃ t1 m1 z1 t2 m2 z2, e = .returned (.tuple #[.agg #[.slice t1 m1 z1, .slice t2 m2 z2], .bool false])))
abbrev TT : World → Prop := fun _ => True
theorem box_set {W : World} {nb : Nat} (t : T2 nb W) (v1 v2 : Value) : BxS nb v1 v2 (W.setCells nb 0 [v1, v2]) := by
  have H := World.cell?_setCells_in nb [v1, v2] 0 W (fun j hj => (t.there j hj).1)
  exact ⟨by simpa using H 0 (by simp), by simpa using H 1 (by simp)⟩
theorem nrow_set {W : World} {gb o n z rb : Nat} {f : Nat → Int} (h : NRowL W (.slice (some ⟨gb, o, none⟩) n z) n f) (hn : gb ≠ rb) (vs : List Value) : NRowL (W.setCells rb 0 vs) (.slice (some ⟨gb, o, none⟩) n z) n f := by
  obtain ⟨a1, p', c', e, a2, a3, hc⟩ := h
  cases e
  refine ⟨a1, _, _, rfl, a2, a3, fun i hi => ?_⟩
  obtain ⟨g, off, e, hx⟩ := hc i hi
  cases e
  exact ⟨gb, o, rfl, (World.cell?_setCells_out rb vs 0 W ⟨gb, o + i, none⟩ (fun e => absurd e hn)).trans hx⟩
theorem shape_one {a c a' c' : List Int} (h : ((a.length : Int) :: a) ++ ((c.length : Int) :: c) = ((a'.length : Int) :: a') ++ ((c'.length : Int) :: c')) : a' = a ∧ c' = c := by
  simp only [List.cons_append] at h
  have h1 := (List.cons.inj h).1
  have h2 := (List.cons.inj h).2
  have hl : a.length = a'.length := by omega
  obtain ⟨e1, e2⟩ := List.append_inj h2 hl
  exact ⟨e1.symm, ((List.cons.inj e2).2).symm⟩
theorem mem_getI (L : List Int) (i : Nat) (hi : i < L.length) : L.getD i 0 ∈ L := by
  rw [List.getD_eq_getElem?_getD, List.getElem?_eq_getElem hi]
  exact List.getElem_mem hi
/-- A part of a row of the call's own is a row. -/
theorem sub_row {base : Nat} {w : World} {gb ln cz : Nat} {zs : List Int} (h : OwnI base w (.slice (some ⟨gb, 0, none⟩) ln cz) zs) (hl : zs.length = ln) (k n z o : Nat) (ho : n = 0 ∨ o = k) (hkn : k + n ≤ ln) (hz : n ≤ z ∧ z ≤ 9223372036854775807) (hs : n ≤ 1048576) : NRowL w (.slice (some ⟨gb, o, none⟩) n z) n (fun i => gI zs (i + k)) := by
  refine ⟨by omega, _, _, rfl, hz.1, hz.2, fun i hi => ⟨gb, o, rfl, ?_⟩⟩
  obtain ⟨_, _, _, _, _, hc⟩ := h.blk
  obtain rfl : o = k := by rcases ho with h | h; omega; exact h
  have q := hc (o + i) (by omega)
  rw [q]
  unfold gI
  rw [Nat.add_comm o i]
set_option maxHeartbeats 8000000 in
set_option maxRecDepth 20000 in
theorem rLoad_any (L : List Nat) (w : World) (v : Value) (hB : Pk.ByRow w v L.length (Pk.gd L)) (hl : L.length ≤ 1048576) :
    Calls Try.prog 52 #[v] w fun e w' => RlPost L w e w' := by
  have HB0 := hid hB
  obtain ⟨a0, c0, rfl⟩ := byRow_slice hB
  clear hB
  go_enter Try.func52, Try.ntmps52
  go_upto_region 1 with (fail)
  generalize hw1 : w.alloc (.cells #[.slice none 0 0, .slice none 0 0] 24) = w1
  have O1 := hid (show Old w w1 from by rw [← hw1]; exact (Old.refl _).alloc _)
  have HT := hid (show T2 w.heap.size w1 from by rw [← hw1]; exact T2.new w)
  have HZ3 := hid (show w.heap.size < w1.heap.size from by rw [← hw1]; simp)
  clear hw1
  obtain ⟨rb, hrb⟩ : ∃ rb, w.heap.size = rb := ⟨_, rfl⟩
  have HZ := hid (show w.heap.size ≤ rb from by omega)
  rw [hrb] at HT HZ3 ⊢
  clear hrb
  go_upto_region 3 with (fail)
  have E0 := hid (OwnI.empty (base := w1.heap.size) (w := w1) (Nat.le_refl _) rfl)
  have UE := hid (show Old w1 (w1.alloc (.cells #[] 3)) from (Old.refl w1).alloc _)
  have HB1 := hid (HB0.out.up O1.out)
  generalize w1.alloc (.cells #[] 3) = w2 at *
  clear HB0
  go_loopw [4, 5] (fun ns rest wr => ∃ (zs : List Int) (r : List Nat), OwnI w1.heap.size wr ns zs ∧ Pk.ByRow w1 rest r.length (Pk.gd r) ∧ Reads zs L r ∧ zs.length + r.length ≤ L.length ∧ Old w1 wr) (fun _ rest _ => lenOf rest)
  case atStart => exact ⟨[], L, E0.out, HB1.out, rfl, by simp, UE.out⟩
  case round =>
    obtain ⟨zs, r, ho, hb, hr, hle, hu⟩ := hrel
    obtain ⟨pz, cz, e⟩ := ho.len
    obtain ⟨ln, hln⟩ : ∃ ln, zs.length = ln := ⟨_, rfl⟩
    rw [hln] at e
    subst e
    have HO := hid ho
    have HR := hid hr
    have HU := hid hu
    have HBr := hid hb
    have HLn := hid hln
    rw [hln] at hle
    clear E0 UE HB1 ho hr hu hln
    by_cases hpos : 0 < r.length
    · obtain ⟨b, off, cap, rfl, _, hnc, hmx⟩ := hb.cells hpos
      unfold maxLen at hmx
      have HG := hid (Pk.refGetNum_any _ _ _ wr (HBr.out.up HU.out))
      cases hk : tkC 7 r with
      | none =>
        have HN := hid (ld_stuck HR.out hk (fun e => by rw [e] at hpos; simp at hpos))
        have hno := tkC_no hk
        clear hk hb
        obtain ⟨t0, t1, tf0, tf1⟩ := T2.old HU.out HT.out
        obtain ⟨K, hK⟩ : ∃ K, Pk.lnK (Pk.gd r) r.length = K := ⟨_, rfl⟩
        obtain ⟨V, hV⟩ : ∃ V, Pk.lnV (Pk.gd r) r.length = V := ⟨_, rfl⟩
        obtain ⟨R, hRl⟩ : ∃ R, r.length = R := ⟨_, rfl⟩
        rw [hK, hV] at hno
        rw [hK, hV, hRl] at HG
        rw [hRl] at hpos
        rw [hRl]
        clear hK hV hRl HBr hnc
        have p1 : (R : Int) > 0 := by omega
        have FIN : Hid (RlPost L w (.returned (.tuple #[.agg #[.slice none 0 0, .slice none 0 0], .bool false])) ((wr.setCell ⟨rb, 0, none⟩ (.slice none 0 0)).setCell ⟨rb, 1, none⟩ (.slice none 0 0))) := hid ⟨((O1.out.trans HU.out).setCell HZ.out _).setCell HZ.out _, .inr ⟨HN.out, none, 0, 0, none, 0, 0, rfl⟩⟩
        obtain ⟨z0, z1⟩ := two_set t0 t1 (.slice none 0 0) (.slice none 0 0)
        have Z0 := hid z0
        have Z1 := hid z1
        clear z0 z1
        rcases hno with h | ⟨h0, h | ⟨h1, h2⟩⟩
        · have k1 : ((K : Int) == 0) = true := by simp [h]
          clear h
          go_wp2_with (go_at_call 59; refine HG.out.mono ?_; rintro e w3 ⟨rfl, hw⟩; have hw2 := hw.symm; subst hw2)
          have z0 := Z0.out
          have z1 := Z1.out
          exact bodyPost_ret (v := .tuple #[.agg #[.slice none 0 0, .slice none 0 0], .bool false]) (by simp [results, Try.results52, go_sem, z0, z1]) rfl FIN.out
        · have k1 : ((K : Int) == 0) = false := by simp [h0]
          have k2 : V < 0 := h
          clear h h0
          go_wp2_with (go_at_call 59; refine HG.out.mono ?_; rintro e w3 ⟨rfl, hw⟩; have hw2 := hw.symm; subst hw2)
          have z0 := Z0.out
          have z1 := Z1.out
          exact bodyPost_ret (v := .tuple #[.agg #[.slice none 0 0, .slice none 0 0], .bool false]) (by simp [results, Try.results52, go_sem, z0, z1]) rfl FIN.out
        · have k1 : ((K : Int) == 0) = false := by simp [h0]
          have k2 : ¬ V < 0 := by omega
          have k3 : V > 7 := h2
          clear h0
          go_wp2_with (go_at_call 59; refine HG.out.mono ?_; rintro e w3 ⟨rfl, hw⟩; have hw2 := hw.symm; subst hw2)
          have z0 := Z0.out
          have z1 := Z1.out
          exact bodyPost_ret (v := .tuple #[.agg #[.slice none 0 0, .slice none 0 0], .bool false]) (by simp [results, Try.results52, go_sem, z0, z1]) rfl FIN.out
      | some p =>
        obtain ⟨n, B⟩ := p
        have HRd := hid (HR.out.snoc hk)
        obtain ⟨hk0, hkl, hV, hnm, hBd⟩ := tkC_cut hk
        rw [hV] at HG
        obtain ⟨o, hif, hro⟩ : ∃ o, (if cap = Pk.lnK (Pk.gd r) r.length then (some ⟨b, off, none⟩ : Option Addr) else some ⟨b, off + Pk.lnK (Pk.gd r) r.length, none⟩) = some ⟨b, o, none⟩ ∧ Pk.ByRow w1 (.slice (some ⟨b, o, none⟩) (r.length - Pk.lnK (Pk.gd r) r.length) (cap - Pk.lnK (Pk.gd r) r.length)) B.length (Pk.gd B) := by
          refine ⟨if cap = Pk.lnK (Pk.gd r) r.length then off else off + Pk.lnK (Pk.gd r) r.length, by split <;> rfl, ?_⟩
          rw [hBd]
          exact cut_row HBr.out hkl _ rfl
        have HRo := hid hro
        have hBl : B.length = r.length - Pk.lnK (Pk.gd r) r.length := by rw [hBd, List.length_drop]
        clear hro hk hV hBd HBr hb
        generalize Pk.lnK (Pk.gd r) r.length = K at *
        generalize r.length = R at *
        have HBl := hid hBl
        clear hBl
        have p1 : (R : Int) > 0 := by omega
        have k1 : ((K : Int) == 0) = false := by simp [hk0]
        have k2 : ¬ (n : Int) < 0 := by omega
        have k3 : ¬ (n : Int) > 7 := by omega
        have l4 : (0 : Int) ≤ (K : Int) := by omega
        have l5 : (K : Int) ≤ (R : Int) := by omega
        have l6 : (K : Int) ≤ (cap : Int) := by omega
        go_wp2_with (first | (go_at_call 59; refine HG.out.mono ?_; rintro e w3 ⟨rfl, hw⟩; have hw2 := hw.symm; subst hw2) | (at_builtin; refine wp_appI rfl (.tmp 30) (.tmp 32) rfl w1.heap.size _ zs _ 1 (n : Int) rfl rfl (HO.out.up ((Old.refl _).alloc _)) (cell_oneI _ _ _ rfl) (by have := HLn.out; omega) (by have := HU.out.size; simp; omega) ?_; intro v5 w5 o5 g5 n5; have O5 := hid o5; have U5 := hid (show Old w1 w5 from Below.grown (HU.out.alloc _) g5 (HU.out.alloc _).size (fun k e => (World.ownsRow.lt HO.out k e).1)); clear o5 g5 n5))
        exact ⟨⟨zs ++ [(n : Int)], B, O5.out, HRo.out, HRd.out, by have := HBl.out; have := HLn.out; rw [List.length_append, List.length_singleton]; omega, U5.out⟩, by simp [lenOf]; omega⟩
    · have hr0 : r = [] := List.length_eq_zero_iff.1 (by omega)
      subst hr0
      obtain ⟨ar, cr, rfl⟩ := byRow_slice hb
      have HEnd := hid HR.out
      have p1 : ¬ (([] : List Nat).length : Int) > 0 := by simp
      have hl2 : ln ≤ 1048576 := by simp at hle; omega
      clear hb HBr HR hpos hle
      have HNo := hid (fun (h : ∀ a c : List Int, zs = ((a.length : Int) :: a) ++ ((c.length : Int) :: c) → False) => show ldConf L = none from by
        cases e : ldConf L with
        | none => rfl
        | some p =>
          obtain ⟨a', c'⟩ := p
          exact absurd ((ld_end HEnd.out a' c').1 e).1 (fun q => h a' c' q))
      go_upto_region 9 with (fail)
      by_cases g1 : ln < 2
      · have q1 : (ln : Int) < 2 := by omega
        have HN := hid (HNo.out (fun a c e => by have := (shape_of e).2.2; have := HLn.out; omega))
        · skip
          refine wp_region_noPanic ?_
          refine wp_region_held_drew (S := TT) (by kernel_rfl) ?_ (fun hHeld => ?_)
          · exact trivial
          (try simp only [Act.put]); (try simp only [List.setIfInBounds_toArray]); (try simp only [List.set_cons_succ]); (try simp only [List.set_cons_zero])
          clear hHeld
          refine wpAnyH_take (i := 0) (oi := { dst := some 37, op := Op.move (Operand.tmp 4), type := 22, pos := "ref.go:107", after := #[], guard := none }) (v := ?vk1) rfl (by kernel_rfl) (by kernel_rfl) (by kernel_rfl) (fun _ _ _ h => h) (Or.inl ⟨by rfl, ?hk1⟩) trivial ?rk1
          case hk1 => (intro wz hSw; (try dsimp only at hSw); go_simp; try with_reducible rfl)
          (try simp only [Act.put]); (try simp only [List.setIfInBounds_toArray]); (try simp only [List.set_cons_succ]); (try simp only [List.set_cons_zero])
          refine wpAnyH_take (i := 1) (oi := { dst := some 38, op := Op.call { callee := Callee.builtin Builtin.len, args := #[Operand.tmp 37], argTypes := #[22] }, type := 3, pos := "ref.go:107", after := #[{ on := 0, ground := Ground.data }], guard := none }) (v := ?vk2) rfl (by kernel_rfl) (by kernel_rfl) (by kernel_rfl) (fun _ _ _ h => h) (Or.inl ⟨by rfl, ?hk2⟩) trivial ?rk2
          case hk2 => (intro wz hSw; (try dsimp only at hSw); go_simp; try with_reducible rfl)
          (try simp only [Act.put]); (try simp only [List.setIfInBounds_toArray]); (try simp only [List.set_cons_succ]); (try simp only [List.set_cons_zero])
          refine wpAnyH_take (i := 2) (oi := { dst := some 39, op := Op.binOp BinOp.lss 3 (Operand.tmp 38) (Operand.const (Value.int IntKind.i64 2)) 3, type := 4, pos := "ref.go:107", after := #[{ on := 1, ground := Ground.data }], guard := none }) (v := ?vk3) rfl (by kernel_rfl) (by kernel_rfl) (by kernel_rfl) (fun _ _ _ h => h) (Or.inl ⟨by rfl, ?hk3⟩) trivial ?rk3
          case hk3 => (intro wz hSw; (try dsimp only at hSw); go_simp; try with_reducible rfl)
          (try simp only [Act.put]); (try simp only [List.setIfInBounds_toArray]); (try simp only [List.set_cons_succ]); (try simp only [List.set_cons_zero])
          refine wpAnyH_take (i := 3) (oi := { dst := some 40, op := Op.move (Operand.tmp 39), type := 4, pos := "ref.go:107", after := #[{ on := 2, ground := Ground.data }], guard := none }) (v := ?vk4) rfl (by kernel_rfl) (by kernel_rfl) (by kernel_rfl) (fun _ _ _ h => h) (Or.inl ⟨by rfl, ?hk4⟩) trivial ?rk4
          case hk4 => (intro wz hSw; (try dsimp only at hSw); go_simp; try with_reducible rfl)
          (try simp only [Act.put]); (try simp only [List.setIfInBounds_toArray]); (try simp only [List.set_cons_succ]); (try simp only [List.set_cons_zero])
          refine wpAnyH_take (i := 4) (oi := { dst := some 41, op := Op.move (Operand.tmp 4), type := 22, pos := "ref.go:107", after := #[{ on := 3, ground := Ground.guard }], guard := some (3, false) }) (v := undef) rfl (by kernel_rfl) (by kernel_rfl) (by kernel_rfl) (fun _ _ _ h => h) (Or.inr ⟨by rfl, rfl⟩) trivial ?_
          (try simp only [Act.put]); (try simp only [List.setIfInBounds_toArray]); (try simp only [List.set_cons_succ]); (try simp only [List.set_cons_zero])
          refine wpAnyH_take (i := 5) (oi := { dst := some 42, op := Op.call { callee := Callee.builtin Builtin.len, args := #[Operand.tmp 41], argTypes := #[22] }, type := 3, pos := "ref.go:107", after := #[{ on := 4, ground := Ground.data }, { on := 3, ground := Ground.guard }], guard := some (3, false) }) (v := undef) rfl (by kernel_rfl) (by kernel_rfl) (by kernel_rfl) (fun _ _ _ h => h) (Or.inr ⟨by rfl, rfl⟩) trivial ?_
          (try simp only [Act.put]); (try simp only [List.setIfInBounds_toArray]); (try simp only [List.set_cons_succ]); (try simp only [List.set_cons_zero])
          refine wpAnyH_take (i := 6) (oi := { dst := some 43, op := Op.move (Operand.tmp 4), type := 22, pos := "ref.go:107", after := #[{ on := 3, ground := Ground.guard }], guard := some (3, false) }) (v := undef) rfl (by kernel_rfl) (by kernel_rfl) (by kernel_rfl) (fun _ _ _ h => h) (Or.inr ⟨by rfl, rfl⟩) trivial ?_
          (try simp only [Act.put]); (try simp only [List.setIfInBounds_toArray]); (try simp only [List.set_cons_succ]); (try simp only [List.set_cons_zero])
          refine wpAnyH_take (i := 7) (oi := { dst := some 44, op := Op.indexAddr 22 (Operand.tmp 43) (Operand.const (Value.int IntKind.i64 0)), type := 0, pos := "ref.go:107", after := #[{ on := 6, ground := Ground.data }, { on := 3, ground := Ground.guard }], guard := some (3, false) }) (v := undef) rfl (by kernel_rfl) (by kernel_rfl) (by kernel_rfl) (fun _ _ _ h => h) (Or.inr ⟨by rfl, rfl⟩) trivial ?_
          (try simp only [Act.put]); (try simp only [List.setIfInBounds_toArray]); (try simp only [List.set_cons_succ]); (try simp only [List.set_cons_zero])
          refine wpAnyH_take (i := 8) (oi := { dst := some 45, op := Op.load 3 (Operand.tmp 44), type := 3, pos := "ref.go:107", after := #[{ on := 7, ground := Ground.data }, { on := 3, ground := Ground.guard }], guard := some (3, false) }) (v := undef) rfl (by kernel_rfl) (by kernel_rfl) (by kernel_rfl) (fun _ _ _ h => h) (Or.inr ⟨by rfl, rfl⟩) trivial ?_
          (try simp only [Act.put]); (try simp only [List.setIfInBounds_toArray]); (try simp only [List.set_cons_succ]); (try simp only [List.set_cons_zero])
          refine wpAnyH_take (i := 9) (oi := { dst := some 46, op := Op.binOp BinOp.add 3 (Operand.tmp 45) (Operand.const (Value.int IntKind.i64 2)) 3, type := 3, pos := "ref.go:107", after := #[{ on := 8, ground := Ground.data }, { on := 3, ground := Ground.guard }], guard := some (3, false) }) (v := undef) rfl (by kernel_rfl) (by kernel_rfl) (by kernel_rfl) (fun _ _ _ h => h) (Or.inr ⟨by rfl, rfl⟩) trivial ?_
          (try simp only [Act.put]); (try simp only [List.setIfInBounds_toArray]); (try simp only [List.set_cons_succ]); (try simp only [List.set_cons_zero])
          refine wpAnyH_take (i := 10) (oi := { dst := some 47, op := Op.binOp BinOp.lss 3 (Operand.tmp 42) (Operand.tmp 46) 3, type := 4, pos := "ref.go:107", after := #[{ on := 5, ground := Ground.data }, { on := 9, ground := Ground.data }, { on := 3, ground := Ground.guard }], guard := some (3, false) }) (v := undef) rfl (by kernel_rfl) (by kernel_rfl) (by kernel_rfl) (fun _ _ _ h => h) (Or.inr ⟨by rfl, rfl⟩) trivial ?_
          (try simp only [Act.put]); (try simp only [List.setIfInBounds_toArray]); (try simp only [List.set_cons_succ]); (try simp only [List.set_cons_zero])
          refine wpAnyH_take (i := 11) (oi := { dst := some 48, op := Op.pick (Operand.tmp 40) (Operand.const (Value.bool true)) (Operand.tmp 47), type := 4, pos := "ref.go:107", after := #[{ on := 3, ground := Ground.data }, { on := 10, ground := Ground.data }], guard := none }) (v := ?vk5) rfl (by kernel_rfl) (by kernel_rfl) (by kernel_rfl) (fun _ _ _ h => h) (Or.inl ⟨by rfl, ?hk5⟩) trivial ?rk5
          case hk5 => (intro wz hSw; (try dsimp only at hSw); go_simp; try with_reducible rfl)
          (try simp only [Act.put]); (try simp only [List.setIfInBounds_toArray]); (try simp only [List.set_cons_succ]); (try simp only [List.set_cons_zero])
          refine wpAnyH_take (i := 12) (oi := { dst := some 49, op := Op.move (Operand.tmp 48), type := 4, pos := "ref.go:107", after := #[{ on := 11, ground := Ground.data }, { on := 3, ground := Ground.chain }], guard := none }) (v := ?vk6) rfl (by kernel_rfl) (by kernel_rfl) (by kernel_rfl) (fun _ _ _ h => h) (Or.inl ⟨by rfl, ?hk6⟩) trivial ?rk6
          case hk6 => (intro wz hSw; (try dsimp only at hSw); go_simp; try with_reducible rfl)
          (try simp only [Act.put]); (try simp only [List.setIfInBounds_toArray]); (try simp only [List.set_cons_succ]); (try simp only [List.set_cons_zero])
          refine wpAnyH_take (i := 13) (oi := { dst := some 50, op := Op.move (Operand.tmp 4), type := 22, pos := "ref.go:107", after := #[{ on := 12, ground := Ground.guard }], guard := some (12, false) }) (v := undef) rfl (by kernel_rfl) (by kernel_rfl) (by kernel_rfl) (fun _ _ _ h => h) (Or.inr ⟨by rfl, rfl⟩) trivial ?_
          (try simp only [Act.put]); (try simp only [List.setIfInBounds_toArray]); (try simp only [List.set_cons_succ]); (try simp only [List.set_cons_zero])
          refine wpAnyH_take (i := 14) (oi := { dst := some 51, op := Op.call { callee := Callee.builtin Builtin.len, args := #[Operand.tmp 50], argTypes := #[22] }, type := 3, pos := "ref.go:107", after := #[{ on := 13, ground := Ground.data }, { on := 12, ground := Ground.guard }], guard := some (12, false) }) (v := undef) rfl (by kernel_rfl) (by kernel_rfl) (by kernel_rfl) (fun _ _ _ h => h) (Or.inr ⟨by rfl, rfl⟩) trivial ?_
          (try simp only [Act.put]); (try simp only [List.setIfInBounds_toArray]); (try simp only [List.set_cons_succ]); (try simp only [List.set_cons_zero])
          refine wpAnyH_take (i := 15) (oi := { dst := some 52, op := Op.move (Operand.tmp 4), type := 22, pos := "ref.go:107", after := #[{ on := 12, ground := Ground.guard }], guard := some (12, false) }) (v := undef) rfl (by kernel_rfl) (by kernel_rfl) (by kernel_rfl) (fun _ _ _ h => h) (Or.inr ⟨by rfl, rfl⟩) trivial ?_
          (try simp only [Act.put]); (try simp only [List.setIfInBounds_toArray]); (try simp only [List.set_cons_succ]); (try simp only [List.set_cons_zero])
          refine wpAnyH_take (i := 16) (oi := { dst := some 53, op := Op.indexAddr 22 (Operand.tmp 52) (Operand.const (Value.int IntKind.i64 0)), type := 0, pos := "ref.go:107", after := #[{ on := 15, ground := Ground.data }, { on := 12, ground := Ground.guard }], guard := some (12, false) }) (v := undef) rfl (by kernel_rfl) (by kernel_rfl) (by kernel_rfl) (fun _ _ _ h => h) (Or.inr ⟨by rfl, rfl⟩) trivial ?_
          (try simp only [Act.put]); (try simp only [List.setIfInBounds_toArray]); (try simp only [List.set_cons_succ]); (try simp only [List.set_cons_zero])
          refine wpAnyH_take (i := 17) (oi := { dst := some 54, op := Op.load 3 (Operand.tmp 53), type := 3, pos := "ref.go:107", after := #[{ on := 16, ground := Ground.data }, { on := 12, ground := Ground.guard }], guard := some (12, false) }) (v := undef) rfl (by kernel_rfl) (by kernel_rfl) (by kernel_rfl) (fun _ _ _ h => h) (Or.inr ⟨by rfl, rfl⟩) trivial ?_
          (try simp only [Act.put]); (try simp only [List.setIfInBounds_toArray]); (try simp only [List.set_cons_succ]); (try simp only [List.set_cons_zero])
          refine wpAnyH_take (i := 18) (oi := { dst := some 55, op := Op.binOp BinOp.add 3 (Operand.tmp 54) (Operand.const (Value.int IntKind.i64 2)) 3, type := 3, pos := "ref.go:107", after := #[{ on := 17, ground := Ground.data }, { on := 12, ground := Ground.guard }], guard := some (12, false) }) (v := undef) rfl (by kernel_rfl) (by kernel_rfl) (by kernel_rfl) (fun _ _ _ h => h) (Or.inr ⟨by rfl, rfl⟩) trivial ?_
          (try simp only [Act.put]); (try simp only [List.setIfInBounds_toArray]); (try simp only [List.set_cons_succ]); (try simp only [List.set_cons_zero])
          refine wpAnyH_take (i := 19) (oi := { dst := some 56, op := Op.move (Operand.tmp 4), type := 22, pos := "ref.go:107", after := #[{ on := 12, ground := Ground.guard }], guard := some (12, false) }) (v := undef) rfl (by kernel_rfl) (by kernel_rfl) (by kernel_rfl) (fun _ _ _ h => h) (Or.inr ⟨by rfl, rfl⟩) trivial ?_
          (try simp only [Act.put]); (try simp only [List.setIfInBounds_toArray]); (try simp only [List.set_cons_succ]); (try simp only [List.set_cons_zero])
          refine wpAnyH_take (i := 20) (oi := { dst := some 57, op := Op.move (Operand.tmp 4), type := 22, pos := "ref.go:107", after := #[{ on := 12, ground := Ground.guard }], guard := some (12, false) }) (v := undef) rfl (by kernel_rfl) (by kernel_rfl) (by kernel_rfl) (fun _ _ _ h => h) (Or.inr ⟨by rfl, rfl⟩) trivial ?_
          (try simp only [Act.put]); (try simp only [List.setIfInBounds_toArray]); (try simp only [List.set_cons_succ]); (try simp only [List.set_cons_zero])
          refine wpAnyH_take (i := 21) (oi := { dst := some 58, op := Op.indexAddr 22 (Operand.tmp 57) (Operand.const (Value.int IntKind.i64 0)), type := 0, pos := "ref.go:107", after := #[{ on := 20, ground := Ground.data }, { on := 12, ground := Ground.guard }], guard := some (12, false) }) (v := undef) rfl (by kernel_rfl) (by kernel_rfl) (by kernel_rfl) (fun _ _ _ h => h) (Or.inr ⟨by rfl, rfl⟩) trivial ?_
          (try simp only [Act.put]); (try simp only [List.setIfInBounds_toArray]); (try simp only [List.set_cons_succ]); (try simp only [List.set_cons_zero])
          refine wpAnyH_take (i := 22) (oi := { dst := some 59, op := Op.load 3 (Operand.tmp 58), type := 3, pos := "ref.go:107", after := #[{ on := 21, ground := Ground.data }, { on := 12, ground := Ground.guard }], guard := some (12, false) }) (v := undef) rfl (by kernel_rfl) (by kernel_rfl) (by kernel_rfl) (fun _ _ _ h => h) (Or.inr ⟨by rfl, rfl⟩) trivial ?_
          (try simp only [Act.put]); (try simp only [List.setIfInBounds_toArray]); (try simp only [List.set_cons_succ]); (try simp only [List.set_cons_zero])
          refine wpAnyH_take (i := 23) (oi := { dst := some 60, op := Op.binOp BinOp.add 3 (Operand.tmp 59) (Operand.const (Value.int IntKind.i64 1)) 3, type := 3, pos := "ref.go:107", after := #[{ on := 22, ground := Ground.data }, { on := 12, ground := Ground.guard }], guard := some (12, false) }) (v := undef) rfl (by kernel_rfl) (by kernel_rfl) (by kernel_rfl) (fun _ _ _ h => h) (Or.inr ⟨by rfl, rfl⟩) trivial ?_
          (try simp only [Act.put]); (try simp only [List.setIfInBounds_toArray]); (try simp only [List.set_cons_succ]); (try simp only [List.set_cons_zero])
          refine wpAnyH_take (i := 24) (oi := { dst := some 61, op := Op.indexAddr 22 (Operand.tmp 56) (Operand.tmp 60), type := 0, pos := "ref.go:107", after := #[{ on := 19, ground := Ground.data }, { on := 23, ground := Ground.data }, { on := 12, ground := Ground.guard }], guard := some (12, false) }) (v := undef) rfl (by kernel_rfl) (by kernel_rfl) (by kernel_rfl) (fun _ _ _ h => h) (Or.inr ⟨by rfl, rfl⟩) trivial ?_
          (try simp only [Act.put]); (try simp only [List.setIfInBounds_toArray]); (try simp only [List.set_cons_succ]); (try simp only [List.set_cons_zero])
          refine wpAnyH_take (i := 25) (oi := { dst := some 62, op := Op.load 3 (Operand.tmp 61), type := 3, pos := "ref.go:107", after := #[{ on := 24, ground := Ground.data }, { on := 12, ground := Ground.guard }], guard := some (12, false) }) (v := undef) rfl (by kernel_rfl) (by kernel_rfl) (by kernel_rfl) (fun _ _ _ h => h) (Or.inr ⟨by rfl, rfl⟩) trivial ?_
          (try simp only [Act.put]); (try simp only [List.setIfInBounds_toArray]); (try simp only [List.set_cons_succ]); (try simp only [List.set_cons_zero])
          refine wpAnyH_take (i := 26) (oi := { dst := some 63, op := Op.binOp BinOp.add 3 (Operand.tmp 55) (Operand.tmp 62) 3, type := 3, pos := "ref.go:107", after := #[{ on := 18, ground := Ground.data }, { on := 25, ground := Ground.data }, { on := 12, ground := Ground.guard }], guard := some (12, false) }) (v := undef) rfl (by kernel_rfl) (by kernel_rfl) (by kernel_rfl) (fun _ _ _ h => h) (Or.inr ⟨by rfl, rfl⟩) trivial ?_
          (try simp only [Act.put]); (try simp only [List.setIfInBounds_toArray]); (try simp only [List.set_cons_succ]); (try simp only [List.set_cons_zero])
          refine wpAnyH_take (i := 27) (oi := { dst := some 64, op := Op.binOp BinOp.neq 3 (Operand.tmp 51) (Operand.tmp 63) 3, type := 4, pos := "ref.go:107", after := #[{ on := 14, ground := Ground.data }, { on := 26, ground := Ground.data }, { on := 12, ground := Ground.guard }], guard := some (12, false) }) (v := undef) rfl (by kernel_rfl) (by kernel_rfl) (by kernel_rfl) (fun _ _ _ h => h) (Or.inr ⟨by rfl, rfl⟩) trivial ?_
          (try simp only [Act.put]); (try simp only [List.setIfInBounds_toArray]); (try simp only [List.set_cons_succ]); (try simp only [List.set_cons_zero])
          refine wpAnyH_take (i := 28) (oi := { dst := some 65, op := Op.pick (Operand.tmp 49) (Operand.const (Value.bool true)) (Operand.tmp 64), type := 4, pos := "ref.go:107", after := #[{ on := 12, ground := Ground.data }, { on := 27, ground := Ground.data }], guard := none }) (v := ?vk7) rfl (by kernel_rfl) (by kernel_rfl) (by kernel_rfl) (fun _ _ _ h => h) (Or.inl ⟨by rfl, ?hk7⟩) trivial ?rk7
          case hk7 => (intro wz hSw; (try dsimp only at hSw); go_simp; try with_reducible rfl)
          (try simp only [Act.put]); (try simp only [List.setIfInBounds_toArray]); (try simp only [List.set_cons_succ]); (try simp only [List.set_cons_zero])
          refine wpAnyH_done (by kernel_rfl) ?_ _
          refine NoPanic.normal ?_
          have UZ := hid ((Old.refl wr).drew)
          generalize World.drew wr = w9 at *
          obtain ⟨t0, t1, tf0, tf1⟩ := T2.old (HU.out.trans UZ.out) HT.out
          obtain ⟨z0, z1⟩ := two_set t0 t1 (.slice none 0 0) (.slice none 0 0)
          have Z0 := hid z0
          have Z1 := hid z1
          clear z0 z1
          go_wp2
          have z0 := Z0.out
          have z1 := Z1.out
          exact bodyPost_ret (v := .tuple #[.agg #[.slice none 0 0, .slice none 0 0], .bool false]) (by simp [results, Try.results52, go_sem, z0, z1]) rfl ⟨((O1.out.trans (HU.out.trans UZ.out)).setCell HZ.out _).setCell HZ.out _, .inr ⟨HN.out, none, 0, 0, none, 0, 0, rfl⟩⟩
      · have q1 : ¬ (ln : Int) < 2 := by omega
        have hzl := HLn.out
        obtain ⟨gb, hgb, hgbase, _, _, hblk⟩ := own_where (by rw [hzl]; exact HO.out) (by omega)
        subst hgb
        have hcz : ln ≤ cz ∧ cz ≤ 9223372036854775807 := by have q := HO.out.blk; unfold maxLen at q; omega
        obtain ⟨n0, hn0, e0⟩ := HEnd.out.small (gI zs 0) (by unfold gI; exact mem_getI zs 0 (by omega))
        have hc0 : wr.cell? ⟨gb, 0, none⟩ = some (.int .i64 (n0 : Nat)) := by
          have q := HO.out.blk.2.2.2.2.2 0 (by omega)
          rw [q]
          rw [show zs.getD 0 0 = (n0 : Int) from e0]
        obtain ⟨j1, hj1⟩ : ∃ j1, j1 = n0 + 1 := ⟨_, rfl⟩
        obtain ⟨j2, hj2⟩ : ∃ j2, j2 = n0 + 2 := ⟨_, rfl⟩
        have lw2 : IntKind.i64.wrap ((n0 : Int) + 2) = (j2 : Int) := by rw [IntWalk.i64_in _ (by omega)]; omega
        have lw1 : IntKind.i64.wrap ((n0 : Int) + 1) = (j1 : Int) := by rw [IntWalk.i64_in _ (by omega)]; omega
        have l0 : (0 : Int) < (ln : Int) := by omega
        have l0n : 0 < ln := by omega
        have HZl := hid hzl
        have HJ := hid (And.intro hj1 hj2)
        have HE0 := hid e0
        by_cases g2 : ln < n0 + 2
        · have q2 : (ln : Int) < (j2 : Int) := by omega
          have q2n : ln < j2 := by omega
          have HN := hid (HNo.out (fun a c e => by have := (shape_of e).2.2; have := (shape_of e).1; rw [HE0.out] at this; omega))
          have HX := hid (show R1 ⟨gb, 0, none⟩ (.int .i64 (n0 : Nat)) wr from hc0)
          clear hc0 hblk hgbase e0 hzl hj1 hj2
          · skip
            refine wp_region_noPanic ?_
            refine wp_region_held_drew (S := R1 ⟨gb, 0, none⟩ (.int .i64 (n0 : Nat))) (by kernel_rfl) ?_ (fun hHeld => ?_)
            · exact R1.old ((Old.refl wr).drew) HX.out
            (try simp only [Act.put]); (try simp only [List.setIfInBounds_toArray]); (try simp only [List.set_cons_succ]); (try simp only [List.set_cons_zero])
            clear hHeld
            refine wpAnyH_take (i := 0) (oi := { dst := some 37, op := Op.move (Operand.tmp 4), type := 22, pos := "ref.go:107", after := #[], guard := none }) (v := ?vk8) rfl (by kernel_rfl) (by kernel_rfl) (by kernel_rfl) (fun _ _ _ h => h) (Or.inl ⟨by rfl, ?hk8⟩) (R1.old ((Old.refl wr).drew) HX.out) ?rk8
            case hk8 => (intro wz hSw; (try dsimp only at hSw); go_simp; try with_reducible rfl)
            (try simp only [Act.put]); (try simp only [List.setIfInBounds_toArray]); (try simp only [List.set_cons_succ]); (try simp only [List.set_cons_zero])
            refine wpAnyH_take (i := 1) (oi := { dst := some 38, op := Op.call { callee := Callee.builtin Builtin.len, args := #[Operand.tmp 37], argTypes := #[22] }, type := 3, pos := "ref.go:107", after := #[{ on := 0, ground := Ground.data }], guard := none }) (v := ?vk9) rfl (by kernel_rfl) (by kernel_rfl) (by kernel_rfl) (fun _ _ _ h => h) (Or.inl ⟨by rfl, ?hk9⟩) (R1.old ((Old.refl wr).drew) HX.out) ?rk9
            case hk9 => (intro wz hSw; (try dsimp only at hSw); go_simp; try with_reducible rfl)
            (try simp only [Act.put]); (try simp only [List.setIfInBounds_toArray]); (try simp only [List.set_cons_succ]); (try simp only [List.set_cons_zero])
            refine wpAnyH_take (i := 2) (oi := { dst := some 39, op := Op.binOp BinOp.lss 3 (Operand.tmp 38) (Operand.const (Value.int IntKind.i64 2)) 3, type := 4, pos := "ref.go:107", after := #[{ on := 1, ground := Ground.data }], guard := none }) (v := ?vk10) rfl (by kernel_rfl) (by kernel_rfl) (by kernel_rfl) (fun _ _ _ h => h) (Or.inl ⟨by rfl, ?hk10⟩) (R1.old ((Old.refl wr).drew) HX.out) ?rk10
            case hk10 => (intro wz hSw; (try dsimp only at hSw); go_simp; try with_reducible rfl)
            (try simp only [Act.put]); (try simp only [List.setIfInBounds_toArray]); (try simp only [List.set_cons_succ]); (try simp only [List.set_cons_zero])
            refine wpAnyH_take (i := 3) (oi := { dst := some 40, op := Op.move (Operand.tmp 39), type := 4, pos := "ref.go:107", after := #[{ on := 2, ground := Ground.data }], guard := none }) (v := ?vk11) rfl (by kernel_rfl) (by kernel_rfl) (by kernel_rfl) (fun _ _ _ h => h) (Or.inl ⟨by rfl, ?hk11⟩) (R1.old ((Old.refl wr).drew) HX.out) ?rk11
            case hk11 => (intro wz hSw; (try dsimp only at hSw); go_simp; try with_reducible rfl)
            (try simp only [Act.put]); (try simp only [List.setIfInBounds_toArray]); (try simp only [List.set_cons_succ]); (try simp only [List.set_cons_zero])
            refine wpAnyH_take (i := 4) (oi := { dst := some 41, op := Op.move (Operand.tmp 4), type := 22, pos := "ref.go:107", after := #[{ on := 3, ground := Ground.guard }], guard := some (3, false) }) (v := ?vk12) rfl (by kernel_rfl) (by kernel_rfl) (by kernel_rfl) (fun _ _ _ h => h) (Or.inl ⟨by rfl, ?hk12⟩) (R1.old ((Old.refl wr).drew) HX.out) ?rk12
            case hk12 => (intro wz hSw; (try dsimp only at hSw); go_simp; try with_reducible rfl)
            (try simp only [Act.put]); (try simp only [List.setIfInBounds_toArray]); (try simp only [List.set_cons_succ]); (try simp only [List.set_cons_zero])
            refine wpAnyH_take (i := 5) (oi := { dst := some 42, op := Op.call { callee := Callee.builtin Builtin.len, args := #[Operand.tmp 41], argTypes := #[22] }, type := 3, pos := "ref.go:107", after := #[{ on := 4, ground := Ground.data }, { on := 3, ground := Ground.guard }], guard := some (3, false) }) (v := ?vk13) rfl (by kernel_rfl) (by kernel_rfl) (by kernel_rfl) (fun _ _ _ h => h) (Or.inl ⟨by rfl, ?hk13⟩) (R1.old ((Old.refl wr).drew) HX.out) ?rk13
            case hk13 => (intro wz hSw; (try dsimp only at hSw); go_simp; try with_reducible rfl)
            (try simp only [Act.put]); (try simp only [List.setIfInBounds_toArray]); (try simp only [List.set_cons_succ]); (try simp only [List.set_cons_zero])
            refine wpAnyH_take (i := 6) (oi := { dst := some 43, op := Op.move (Operand.tmp 4), type := 22, pos := "ref.go:107", after := #[{ on := 3, ground := Ground.guard }], guard := some (3, false) }) (v := ?vk14) rfl (by kernel_rfl) (by kernel_rfl) (by kernel_rfl) (fun _ _ _ h => h) (Or.inl ⟨by rfl, ?hk14⟩) (R1.old ((Old.refl wr).drew) HX.out) ?rk14
            case hk14 => (intro wz hSw; (try dsimp only at hSw); go_simp; try with_reducible rfl)
            (try simp only [Act.put]); (try simp only [List.setIfInBounds_toArray]); (try simp only [List.set_cons_succ]); (try simp only [List.set_cons_zero])
            refine wpAnyH_take (i := 7) (oi := { dst := some 44, op := Op.indexAddr 22 (Operand.tmp 43) (Operand.const (Value.int IntKind.i64 0)), type := 0, pos := "ref.go:107", after := #[{ on := 6, ground := Ground.data }, { on := 3, ground := Ground.guard }], guard := some (3, false) }) (v := ?vk15) rfl (by kernel_rfl) (by kernel_rfl) (by kernel_rfl) (fun _ _ _ h => h) (Or.inl ⟨by rfl, ?hk15⟩) (R1.old ((Old.refl wr).drew) HX.out) ?rk15
            case hk15 => (intro wz hSw; (try dsimp only at hSw); go_simp; try with_reducible rfl)
            (try simp only [Act.put]); (try simp only [List.setIfInBounds_toArray]); (try simp only [List.set_cons_succ]); (try simp only [List.set_cons_zero])
            refine wpAnyH_take (i := 8) (oi := { dst := some 45, op := Op.load 3 (Operand.tmp 44), type := 3, pos := "ref.go:107", after := #[{ on := 7, ground := Ground.data }, { on := 3, ground := Ground.guard }], guard := some (3, false) }) (v := ?vk16) rfl (by kernel_rfl) (by kernel_rfl) (by kernel_rfl) (fun _ _ _ h => h) (Or.inl ⟨by rfl, ?hk16⟩) (R1.old ((Old.refl wr).drew) HX.out) ?rk16
            case hk16 => (intro wz hSw; (try dsimp only at hSw); go_simp; try with_reducible rfl)
            (try simp only [Act.put]); (try simp only [List.setIfInBounds_toArray]); (try simp only [List.set_cons_succ]); (try simp only [List.set_cons_zero])
            refine wpAnyH_take (i := 9) (oi := { dst := some 46, op := Op.binOp BinOp.add 3 (Operand.tmp 45) (Operand.const (Value.int IntKind.i64 2)) 3, type := 3, pos := "ref.go:107", after := #[{ on := 8, ground := Ground.data }, { on := 3, ground := Ground.guard }], guard := some (3, false) }) (v := ?vk17) rfl (by kernel_rfl) (by kernel_rfl) (by kernel_rfl) (fun _ _ _ h => h) (Or.inl ⟨by rfl, ?hk17⟩) (R1.old ((Old.refl wr).drew) HX.out) ?rk17
            case hk17 => (intro wz hSw; (try dsimp only at hSw); go_simp; try with_reducible rfl)
            (try simp only [Act.put]); (try simp only [List.setIfInBounds_toArray]); (try simp only [List.set_cons_succ]); (try simp only [List.set_cons_zero])
            refine wpAnyH_take (i := 10) (oi := { dst := some 47, op := Op.binOp BinOp.lss 3 (Operand.tmp 42) (Operand.tmp 46) 3, type := 4, pos := "ref.go:107", after := #[{ on := 5, ground := Ground.data }, { on := 9, ground := Ground.data }, { on := 3, ground := Ground.guard }], guard := some (3, false) }) (v := ?vk18) rfl (by kernel_rfl) (by kernel_rfl) (by kernel_rfl) (fun _ _ _ h => h) (Or.inl ⟨by rfl, ?hk18⟩) (R1.old ((Old.refl wr).drew) HX.out) ?rk18
            case hk18 => (intro wz hSw; (try dsimp only at hSw); go_simp; try with_reducible rfl)
            (try simp only [Act.put]); (try simp only [List.setIfInBounds_toArray]); (try simp only [List.set_cons_succ]); (try simp only [List.set_cons_zero])
            refine wpAnyH_take (i := 11) (oi := { dst := some 48, op := Op.pick (Operand.tmp 40) (Operand.const (Value.bool true)) (Operand.tmp 47), type := 4, pos := "ref.go:107", after := #[{ on := 3, ground := Ground.data }, { on := 10, ground := Ground.data }], guard := none }) (v := ?vk19) rfl (by kernel_rfl) (by kernel_rfl) (by kernel_rfl) (fun _ _ _ h => h) (Or.inl ⟨by rfl, ?hk19⟩) (R1.old ((Old.refl wr).drew) HX.out) ?rk19
            case hk19 => (intro wz hSw; (try dsimp only at hSw); go_simp; try with_reducible rfl)
            (try simp only [Act.put]); (try simp only [List.setIfInBounds_toArray]); (try simp only [List.set_cons_succ]); (try simp only [List.set_cons_zero])
            refine wpAnyH_take (i := 12) (oi := { dst := some 49, op := Op.move (Operand.tmp 48), type := 4, pos := "ref.go:107", after := #[{ on := 11, ground := Ground.data }, { on := 3, ground := Ground.chain }], guard := none }) (v := ?vk20) rfl (by kernel_rfl) (by kernel_rfl) (by kernel_rfl) (fun _ _ _ h => h) (Or.inl ⟨by rfl, ?hk20⟩) (R1.old ((Old.refl wr).drew) HX.out) ?rk20
            case hk20 => (intro wz hSw; (try dsimp only at hSw); go_simp; try with_reducible rfl)
            (try simp only [Act.put]); (try simp only [List.setIfInBounds_toArray]); (try simp only [List.set_cons_succ]); (try simp only [List.set_cons_zero])
            refine wpAnyH_take (i := 13) (oi := { dst := some 50, op := Op.move (Operand.tmp 4), type := 22, pos := "ref.go:107", after := #[{ on := 12, ground := Ground.guard }], guard := some (12, false) }) (v := undef) rfl (by kernel_rfl) (by kernel_rfl) (by kernel_rfl) (fun _ _ _ h => h) (Or.inr ⟨by rfl, rfl⟩) (R1.old ((Old.refl wr).drew) HX.out) ?_
            (try simp only [Act.put]); (try simp only [List.setIfInBounds_toArray]); (try simp only [List.set_cons_succ]); (try simp only [List.set_cons_zero])
            refine wpAnyH_take (i := 14) (oi := { dst := some 51, op := Op.call { callee := Callee.builtin Builtin.len, args := #[Operand.tmp 50], argTypes := #[22] }, type := 3, pos := "ref.go:107", after := #[{ on := 13, ground := Ground.data }, { on := 12, ground := Ground.guard }], guard := some (12, false) }) (v := undef) rfl (by kernel_rfl) (by kernel_rfl) (by kernel_rfl) (fun _ _ _ h => h) (Or.inr ⟨by rfl, rfl⟩) (R1.old ((Old.refl wr).drew) HX.out) ?_
            (try simp only [Act.put]); (try simp only [List.setIfInBounds_toArray]); (try simp only [List.set_cons_succ]); (try simp only [List.set_cons_zero])
            refine wpAnyH_take (i := 15) (oi := { dst := some 52, op := Op.move (Operand.tmp 4), type := 22, pos := "ref.go:107", after := #[{ on := 12, ground := Ground.guard }], guard := some (12, false) }) (v := undef) rfl (by kernel_rfl) (by kernel_rfl) (by kernel_rfl) (fun _ _ _ h => h) (Or.inr ⟨by rfl, rfl⟩) (R1.old ((Old.refl wr).drew) HX.out) ?_
            (try simp only [Act.put]); (try simp only [List.setIfInBounds_toArray]); (try simp only [List.set_cons_succ]); (try simp only [List.set_cons_zero])
            refine wpAnyH_take (i := 16) (oi := { dst := some 53, op := Op.indexAddr 22 (Operand.tmp 52) (Operand.const (Value.int IntKind.i64 0)), type := 0, pos := "ref.go:107", after := #[{ on := 15, ground := Ground.data }, { on := 12, ground := Ground.guard }], guard := some (12, false) }) (v := undef) rfl (by kernel_rfl) (by kernel_rfl) (by kernel_rfl) (fun _ _ _ h => h) (Or.inr ⟨by rfl, rfl⟩) (R1.old ((Old.refl wr).drew) HX.out) ?_
            (try simp only [Act.put]); (try simp only [List.setIfInBounds_toArray]); (try simp only [List.set_cons_succ]); (try simp only [List.set_cons_zero])
            refine wpAnyH_take (i := 17) (oi := { dst := some 54, op := Op.load 3 (Operand.tmp 53), type := 3, pos := "ref.go:107", after := #[{ on := 16, ground := Ground.data }, { on := 12, ground := Ground.guard }], guard := some (12, false) }) (v := undef) rfl (by kernel_rfl) (by kernel_rfl) (by kernel_rfl) (fun _ _ _ h => h) (Or.inr ⟨by rfl, rfl⟩) (R1.old ((Old.refl wr).drew) HX.out) ?_
            (try simp only [Act.put]); (try simp only [List.setIfInBounds_toArray]); (try simp only [List.set_cons_succ]); (try simp only [List.set_cons_zero])
            refine wpAnyH_take (i := 18) (oi := { dst := some 55, op := Op.binOp BinOp.add 3 (Operand.tmp 54) (Operand.const (Value.int IntKind.i64 2)) 3, type := 3, pos := "ref.go:107", after := #[{ on := 17, ground := Ground.data }, { on := 12, ground := Ground.guard }], guard := some (12, false) }) (v := undef) rfl (by kernel_rfl) (by kernel_rfl) (by kernel_rfl) (fun _ _ _ h => h) (Or.inr ⟨by rfl, rfl⟩) (R1.old ((Old.refl wr).drew) HX.out) ?_
            (try simp only [Act.put]); (try simp only [List.setIfInBounds_toArray]); (try simp only [List.set_cons_succ]); (try simp only [List.set_cons_zero])
            refine wpAnyH_take (i := 19) (oi := { dst := some 56, op := Op.move (Operand.tmp 4), type := 22, pos := "ref.go:107", after := #[{ on := 12, ground := Ground.guard }], guard := some (12, false) }) (v := undef) rfl (by kernel_rfl) (by kernel_rfl) (by kernel_rfl) (fun _ _ _ h => h) (Or.inr ⟨by rfl, rfl⟩) (R1.old ((Old.refl wr).drew) HX.out) ?_
            (try simp only [Act.put]); (try simp only [List.setIfInBounds_toArray]); (try simp only [List.set_cons_succ]); (try simp only [List.set_cons_zero])
            refine wpAnyH_take (i := 20) (oi := { dst := some 57, op := Op.move (Operand.tmp 4), type := 22, pos := "ref.go:107", after := #[{ on := 12, ground := Ground.guard }], guard := some (12, false) }) (v := undef) rfl (by kernel_rfl) (by kernel_rfl) (by kernel_rfl) (fun _ _ _ h => h) (Or.inr ⟨by rfl, rfl⟩) (R1.old ((Old.refl wr).drew) HX.out) ?_
            (try simp only [Act.put]); (try simp only [List.setIfInBounds_toArray]); (try simp only [List.set_cons_succ]); (try simp only [List.set_cons_zero])
            refine wpAnyH_take (i := 21) (oi := { dst := some 58, op := Op.indexAddr 22 (Operand.tmp 57) (Operand.const (Value.int IntKind.i64 0)), type := 0, pos := "ref.go:107", after := #[{ on := 20, ground := Ground.data }, { on := 12, ground := Ground.guard }], guard := some (12, false) }) (v := undef) rfl (by kernel_rfl) (by kernel_rfl) (by kernel_rfl) (fun _ _ _ h => h) (Or.inr ⟨by rfl, rfl⟩) (R1.old ((Old.refl wr).drew) HX.out) ?_
            (try simp only [Act.put]); (try simp only [List.setIfInBounds_toArray]); (try simp only [List.set_cons_succ]); (try simp only [List.set_cons_zero])
            refine wpAnyH_take (i := 22) (oi := { dst := some 59, op := Op.load 3 (Operand.tmp 58), type := 3, pos := "ref.go:107", after := #[{ on := 21, ground := Ground.data }, { on := 12, ground := Ground.guard }], guard := some (12, false) }) (v := undef) rfl (by kernel_rfl) (by kernel_rfl) (by kernel_rfl) (fun _ _ _ h => h) (Or.inr ⟨by rfl, rfl⟩) (R1.old ((Old.refl wr).drew) HX.out) ?_
            (try simp only [Act.put]); (try simp only [List.setIfInBounds_toArray]); (try simp only [List.set_cons_succ]); (try simp only [List.set_cons_zero])
            refine wpAnyH_take (i := 23) (oi := { dst := some 60, op := Op.binOp BinOp.add 3 (Operand.tmp 59) (Operand.const (Value.int IntKind.i64 1)) 3, type := 3, pos := "ref.go:107", after := #[{ on := 22, ground := Ground.data }, { on := 12, ground := Ground.guard }], guard := some (12, false) }) (v := undef) rfl (by kernel_rfl) (by kernel_rfl) (by kernel_rfl) (fun _ _ _ h => h) (Or.inr ⟨by rfl, rfl⟩) (R1.old ((Old.refl wr).drew) HX.out) ?_
            (try simp only [Act.put]); (try simp only [List.setIfInBounds_toArray]); (try simp only [List.set_cons_succ]); (try simp only [List.set_cons_zero])
            refine wpAnyH_take (i := 24) (oi := { dst := some 61, op := Op.indexAddr 22 (Operand.tmp 56) (Operand.tmp 60), type := 0, pos := "ref.go:107", after := #[{ on := 19, ground := Ground.data }, { on := 23, ground := Ground.data }, { on := 12, ground := Ground.guard }], guard := some (12, false) }) (v := undef) rfl (by kernel_rfl) (by kernel_rfl) (by kernel_rfl) (fun _ _ _ h => h) (Or.inr ⟨by rfl, rfl⟩) (R1.old ((Old.refl wr).drew) HX.out) ?_
            (try simp only [Act.put]); (try simp only [List.setIfInBounds_toArray]); (try simp only [List.set_cons_succ]); (try simp only [List.set_cons_zero])
            refine wpAnyH_take (i := 25) (oi := { dst := some 62, op := Op.load 3 (Operand.tmp 61), type := 3, pos := "ref.go:107", after := #[{ on := 24, ground := Ground.data }, { on := 12, ground := Ground.guard }], guard := some (12, false) }) (v := undef) rfl (by kernel_rfl) (by kernel_rfl) (by kernel_rfl) (fun _ _ _ h => h) (Or.inr ⟨by rfl, rfl⟩) (R1.old ((Old.refl wr).drew) HX.out) ?_
            (try simp only [Act.put]); (try simp only [List.setIfInBounds_toArray]); (try simp only [List.set_cons_succ]); (try simp only [List.set_cons_zero])
            refine wpAnyH_take (i := 26) (oi := { dst := some 63, op := Op.binOp BinOp.add 3 (Operand.tmp 55) (Operand.tmp 62) 3, type := 3, pos := "ref.go:107", after := #[{ on := 18, ground := Ground.data }, { on := 25, ground := Ground.data }, { on := 12, ground := Ground.guard }], guard := some (12, false) }) (v := undef) rfl (by kernel_rfl) (by kernel_rfl) (by kernel_rfl) (fun _ _ _ h => h) (Or.inr ⟨by rfl, rfl⟩) (R1.old ((Old.refl wr).drew) HX.out) ?_
            (try simp only [Act.put]); (try simp only [List.setIfInBounds_toArray]); (try simp only [List.set_cons_succ]); (try simp only [List.set_cons_zero])
            refine wpAnyH_take (i := 27) (oi := { dst := some 64, op := Op.binOp BinOp.neq 3 (Operand.tmp 51) (Operand.tmp 63) 3, type := 4, pos := "ref.go:107", after := #[{ on := 14, ground := Ground.data }, { on := 26, ground := Ground.data }, { on := 12, ground := Ground.guard }], guard := some (12, false) }) (v := undef) rfl (by kernel_rfl) (by kernel_rfl) (by kernel_rfl) (fun _ _ _ h => h) (Or.inr ⟨by rfl, rfl⟩) (R1.old ((Old.refl wr).drew) HX.out) ?_
            (try simp only [Act.put]); (try simp only [List.setIfInBounds_toArray]); (try simp only [List.set_cons_succ]); (try simp only [List.set_cons_zero])
            refine wpAnyH_take (i := 28) (oi := { dst := some 65, op := Op.pick (Operand.tmp 49) (Operand.const (Value.bool true)) (Operand.tmp 64), type := 4, pos := "ref.go:107", after := #[{ on := 12, ground := Ground.data }, { on := 27, ground := Ground.data }], guard := none }) (v := ?vk21) rfl (by kernel_rfl) (by kernel_rfl) (by kernel_rfl) (fun _ _ _ h => h) (Or.inl ⟨by rfl, ?hk21⟩) (R1.old ((Old.refl wr).drew) HX.out) ?rk21
            case hk21 => (intro wz hSw; (try dsimp only at hSw); go_simp; try with_reducible rfl)
            (try simp only [Act.put]); (try simp only [List.setIfInBounds_toArray]); (try simp only [List.set_cons_succ]); (try simp only [List.set_cons_zero])
            refine wpAnyH_done (by kernel_rfl) ?_ _
            refine NoPanic.normal ?_
            have UZ := hid ((Old.refl wr).drew)
            generalize World.drew wr = w9 at *
            obtain ⟨t0, t1, tf0, tf1⟩ := T2.old (HU.out.trans UZ.out) HT.out
            obtain ⟨z0, z1⟩ := two_set t0 t1 (.slice none 0 0) (.slice none 0 0)
            have Z0 := hid z0
            have Z1 := hid z1
            clear z0 z1
            go_wp2
            have z0 := Z0.out
            have z1 := Z1.out
            exact bodyPost_ret (v := .tuple #[.agg #[.slice none 0 0, .slice none 0 0], .bool false]) (by simp [results, Try.results52, go_sem, z0, z1]) rfl ⟨((O1.out.trans (HU.out.trans UZ.out)).setCell HZ.out _).setCell HZ.out _, .inr ⟨HN.out, none, 0, 0, none, 0, 0, rfl⟩⟩
        · have q2 : ¬ (ln : Int) < (j2 : Int) := by omega
          have q2n : ¬ ln < j2 := by omega
          have q2m : j2 ≤ ln := by omega
          obtain ⟨n1, hn1, e1⟩ := HEnd.out.small (gI zs (n0 + 1)) (by unfold gI; exact mem_getI zs (n0 + 1) (by omega))
          have hc1 : wr.cell? ⟨gb, j1, none⟩ = some (.int .i64 (n1 : Nat)) := by
            have q := HO.out.blk.2.2.2.2.2 j1 (by omega)
            rw [q, hj1]
            rw [show zs.getD (n0 + 1) 0 = (n1 : Int) from e1]
          obtain ⟨j3, hj3⟩ : ∃ j3, j3 = n0 + 2 + n1 := ⟨_, rfl⟩
          have lw3 : IntKind.i64.wrap ((j2 : Int) + (n1 : Int)) = (j3 : Int) := by rw [IntWalk.i64_in _ (by omega)]; omega
          have l1 : (0 : Int) ≤ (j1 : Int) := by omega
          have l2 : (j1 : Int) < (ln : Int) := by omega
          have l2n : j1 < ln := by omega
          have HX := hid (show R2 ⟨gb, 0, none⟩ (.int .i64 (n0 : Nat)) ⟨gb, j1, none⟩ (.int .i64 (n1 : Nat)) wr from ⟨hc0, hc1⟩)
          by_cases g3 : ln = n0 + 2 + n1
          · rw [show (j3 : Int) = (ln : Int) by omega] at lw3
            obtain ⟨la, lc, hla, hlc, hsh, hca, hcc⟩ := of_shape e0 e1 (by omega)
            have HSh := hid hsh
            have HLa := hid (And.intro hla hlc)
            have HCa := hid hca
            have HCc := hid hcc
            have HG3 := hid g3
            clear hc0 hc1 hblk e0 e1 hzl hj1 hj2 hj3 hsh hla hlc hca hcc g3
            · skip
              refine wp_region_noPanic ?_
              refine wp_region_held_drew (S := R2 ⟨gb, 0, none⟩ (.int .i64 (n0 : Nat)) ⟨gb, j1, none⟩ (.int .i64 (n1 : Nat))) (by kernel_rfl) ?_ (fun hHeld => ?_)
              · exact R2.old ((Old.refl wr).drew) HX.out
              (try simp only [Act.put]); (try simp only [List.setIfInBounds_toArray]); (try simp only [List.set_cons_succ]); (try simp only [List.set_cons_zero])
              clear hHeld
              refine wpAnyH_take (i := 0) (oi := { dst := some 37, op := Op.move (Operand.tmp 4), type := 22, pos := "ref.go:107", after := #[], guard := none }) (v := ?vk51) rfl (by kernel_rfl) (by kernel_rfl) (by kernel_rfl) (fun _ _ _ h => h) (Or.inl ⟨by rfl, ?hk51⟩) (R2.old ((Old.refl wr).drew) HX.out) ?rk51
              case hk51 => (intro wz hSw; (try dsimp only at hSw); go_simp; try with_reducible rfl)
              (try simp only [Act.put]); (try simp only [List.setIfInBounds_toArray]); (try simp only [List.set_cons_succ]); (try simp only [List.set_cons_zero])
              refine wpAnyH_take (i := 1) (oi := { dst := some 38, op := Op.call { callee := Callee.builtin Builtin.len, args := #[Operand.tmp 37], argTypes := #[22] }, type := 3, pos := "ref.go:107", after := #[{ on := 0, ground := Ground.data }], guard := none }) (v := ?vk52) rfl (by kernel_rfl) (by kernel_rfl) (by kernel_rfl) (fun _ _ _ h => h) (Or.inl ⟨by rfl, ?hk52⟩) (R2.old ((Old.refl wr).drew) HX.out) ?rk52
              case hk52 => (intro wz hSw; (try dsimp only at hSw); go_simp; try with_reducible rfl)
              (try simp only [Act.put]); (try simp only [List.setIfInBounds_toArray]); (try simp only [List.set_cons_succ]); (try simp only [List.set_cons_zero])
              refine wpAnyH_take (i := 2) (oi := { dst := some 39, op := Op.binOp BinOp.lss 3 (Operand.tmp 38) (Operand.const (Value.int IntKind.i64 2)) 3, type := 4, pos := "ref.go:107", after := #[{ on := 1, ground := Ground.data }], guard := none }) (v := ?vk53) rfl (by kernel_rfl) (by kernel_rfl) (by kernel_rfl) (fun _ _ _ h => h) (Or.inl ⟨by rfl, ?hk53⟩) (R2.old ((Old.refl wr).drew) HX.out) ?rk53
              case hk53 => (intro wz hSw; (try dsimp only at hSw); go_simp; try with_reducible rfl)
              (try simp only [Act.put]); (try simp only [List.setIfInBounds_toArray]); (try simp only [List.set_cons_succ]); (try simp only [List.set_cons_zero])
              refine wpAnyH_take (i := 3) (oi := { dst := some 40, op := Op.move (Operand.tmp 39), type := 4, pos := "ref.go:107", after := #[{ on := 2, ground := Ground.data }], guard := none }) (v := ?vk54) rfl (by kernel_rfl) (by kernel_rfl) (by kernel_rfl) (fun _ _ _ h => h) (Or.inl ⟨by rfl, ?hk54⟩) (R2.old ((Old.refl wr).drew) HX.out) ?rk54
              case hk54 => (intro wz hSw; (try dsimp only at hSw); go_simp; try with_reducible rfl)
              (try simp only [Act.put]); (try simp only [List.setIfInBounds_toArray]); (try simp only [List.set_cons_succ]); (try simp only [List.set_cons_zero])
              refine wpAnyH_take (i := 4) (oi := { dst := some 41, op := Op.move (Operand.tmp 4), type := 22, pos := "ref.go:107", after := #[{ on := 3, ground := Ground.guard }], guard := some (3, false) }) (v := ?vk55) rfl (by kernel_rfl) (by kernel_rfl) (by kernel_rfl) (fun _ _ _ h => h) (Or.inl ⟨by rfl, ?hk55⟩) (R2.old ((Old.refl wr).drew) HX.out) ?rk55
              case hk55 => (intro wz hSw; (try dsimp only at hSw); go_simp; try with_reducible rfl)
              (try simp only [Act.put]); (try simp only [List.setIfInBounds_toArray]); (try simp only [List.set_cons_succ]); (try simp only [List.set_cons_zero])
              refine wpAnyH_take (i := 5) (oi := { dst := some 42, op := Op.call { callee := Callee.builtin Builtin.len, args := #[Operand.tmp 41], argTypes := #[22] }, type := 3, pos := "ref.go:107", after := #[{ on := 4, ground := Ground.data }, { on := 3, ground := Ground.guard }], guard := some (3, false) }) (v := ?vk56) rfl (by kernel_rfl) (by kernel_rfl) (by kernel_rfl) (fun _ _ _ h => h) (Or.inl ⟨by rfl, ?hk56⟩) (R2.old ((Old.refl wr).drew) HX.out) ?rk56
              case hk56 => (intro wz hSw; (try dsimp only at hSw); go_simp; try with_reducible rfl)
              (try simp only [Act.put]); (try simp only [List.setIfInBounds_toArray]); (try simp only [List.set_cons_succ]); (try simp only [List.set_cons_zero])
              refine wpAnyH_take (i := 6) (oi := { dst := some 43, op := Op.move (Operand.tmp 4), type := 22, pos := "ref.go:107", after := #[{ on := 3, ground := Ground.guard }], guard := some (3, false) }) (v := ?vk57) rfl (by kernel_rfl) (by kernel_rfl) (by kernel_rfl) (fun _ _ _ h => h) (Or.inl ⟨by rfl, ?hk57⟩) (R2.old ((Old.refl wr).drew) HX.out) ?rk57
              case hk57 => (intro wz hSw; (try dsimp only at hSw); go_simp; try with_reducible rfl)
              (try simp only [Act.put]); (try simp only [List.setIfInBounds_toArray]); (try simp only [List.set_cons_succ]); (try simp only [List.set_cons_zero])
              refine wpAnyH_take (i := 7) (oi := { dst := some 44, op := Op.indexAddr 22 (Operand.tmp 43) (Operand.const (Value.int IntKind.i64 0)), type := 0, pos := "ref.go:107", after := #[{ on := 6, ground := Ground.data }, { on := 3, ground := Ground.guard }], guard := some (3, false) }) (v := ?vk58) rfl (by kernel_rfl) (by kernel_rfl) (by kernel_rfl) (fun _ _ _ h => h) (Or.inl ⟨by rfl, ?hk58⟩) (R2.old ((Old.refl wr).drew) HX.out) ?rk58
              case hk58 => (intro wz hSw; (try dsimp only at hSw); go_simp; try with_reducible rfl)
              (try simp only [Act.put]); (try simp only [List.setIfInBounds_toArray]); (try simp only [List.set_cons_succ]); (try simp only [List.set_cons_zero])
              refine wpAnyH_take (i := 8) (oi := { dst := some 45, op := Op.load 3 (Operand.tmp 44), type := 3, pos := "ref.go:107", after := #[{ on := 7, ground := Ground.data }, { on := 3, ground := Ground.guard }], guard := some (3, false) }) (v := ?vk59) rfl (by kernel_rfl) (by kernel_rfl) (by kernel_rfl) (fun _ _ _ h => h) (Or.inl ⟨by rfl, ?hk59⟩) (R2.old ((Old.refl wr).drew) HX.out) ?rk59
              case hk59 => (intro wz hSw; (try dsimp only at hSw); go_simp; try with_reducible rfl)
              (try simp only [Act.put]); (try simp only [List.setIfInBounds_toArray]); (try simp only [List.set_cons_succ]); (try simp only [List.set_cons_zero])
              refine wpAnyH_take (i := 9) (oi := { dst := some 46, op := Op.binOp BinOp.add 3 (Operand.tmp 45) (Operand.const (Value.int IntKind.i64 2)) 3, type := 3, pos := "ref.go:107", after := #[{ on := 8, ground := Ground.data }, { on := 3, ground := Ground.guard }], guard := some (3, false) }) (v := ?vk60) rfl (by kernel_rfl) (by kernel_rfl) (by kernel_rfl) (fun _ _ _ h => h) (Or.inl ⟨by rfl, ?hk60⟩) (R2.old ((Old.refl wr).drew) HX.out) ?rk60
              case hk60 => (intro wz hSw; (try dsimp only at hSw); go_simp; try with_reducible rfl)
              (try simp only [Act.put]); (try simp only [List.setIfInBounds_toArray]); (try simp only [List.set_cons_succ]); (try simp only [List.set_cons_zero])
              refine wpAnyH_take (i := 10) (oi := { dst := some 47, op := Op.binOp BinOp.lss 3 (Operand.tmp 42) (Operand.tmp 46) 3, type := 4, pos := "ref.go:107", after := #[{ on := 5, ground := Ground.data }, { on := 9, ground := Ground.data }, { on := 3, ground := Ground.guard }], guard := some (3, false) }) (v := ?vk61) rfl (by kernel_rfl) (by kernel_rfl) (by kernel_rfl) (fun _ _ _ h => h) (Or.inl ⟨by rfl, ?hk61⟩) (R2.old ((Old.refl wr).drew) HX.out) ?rk61
              case hk61 => (intro wz hSw; (try dsimp only at hSw); go_simp; try with_reducible rfl)
              (try simp only [Act.put]); (try simp only [List.setIfInBounds_toArray]); (try simp only [List.set_cons_succ]); (try simp only [List.set_cons_zero])
              refine wpAnyH_take (i := 11) (oi := { dst := some 48, op := Op.pick (Operand.tmp 40) (Operand.const (Value.bool true)) (Operand.tmp 47), type := 4, pos := "ref.go:107", after := #[{ on := 3, ground := Ground.data }, { on := 10, ground := Ground.data }], guard := none }) (v := ?vk62) rfl (by kernel_rfl) (by kernel_rfl) (by kernel_rfl) (fun _ _ _ h => h) (Or.inl ⟨by rfl, ?hk62⟩) (R2.old ((Old.refl wr).drew) HX.out) ?rk62
              case hk62 => (intro wz hSw; (try dsimp only at hSw); go_simp; try with_reducible rfl)
              (try simp only [Act.put]); (try simp only [List.setIfInBounds_toArray]); (try simp only [List.set_cons_succ]); (try simp only [List.set_cons_zero])
              refine wpAnyH_take (i := 12) (oi := { dst := some 49, op := Op.move (Operand.tmp 48), type := 4, pos := "ref.go:107", after := #[{ on := 11, ground := Ground.data }, { on := 3, ground := Ground.chain }], guard := none }) (v := ?vk63) rfl (by kernel_rfl) (by kernel_rfl) (by kernel_rfl) (fun _ _ _ h => h) (Or.inl ⟨by rfl, ?hk63⟩) (R2.old ((Old.refl wr).drew) HX.out) ?rk63
              case hk63 => (intro wz hSw; (try dsimp only at hSw); go_simp; try with_reducible rfl)
              (try simp only [Act.put]); (try simp only [List.setIfInBounds_toArray]); (try simp only [List.set_cons_succ]); (try simp only [List.set_cons_zero])
              refine wpAnyH_take (i := 13) (oi := { dst := some 50, op := Op.move (Operand.tmp 4), type := 22, pos := "ref.go:107", after := #[{ on := 12, ground := Ground.guard }], guard := some (12, false) }) (v := ?vk64) rfl (by kernel_rfl) (by kernel_rfl) (by kernel_rfl) (fun _ _ _ h => h) (Or.inl ⟨by rfl, ?hk64⟩) (R2.old ((Old.refl wr).drew) HX.out) ?rk64
              case hk64 => (intro wz hSw; (try dsimp only at hSw); go_simp; try with_reducible rfl)
              (try simp only [Act.put]); (try simp only [List.setIfInBounds_toArray]); (try simp only [List.set_cons_succ]); (try simp only [List.set_cons_zero])
              refine wpAnyH_take (i := 14) (oi := { dst := some 51, op := Op.call { callee := Callee.builtin Builtin.len, args := #[Operand.tmp 50], argTypes := #[22] }, type := 3, pos := "ref.go:107", after := #[{ on := 13, ground := Ground.data }, { on := 12, ground := Ground.guard }], guard := some (12, false) }) (v := ?vk65) rfl (by kernel_rfl) (by kernel_rfl) (by kernel_rfl) (fun _ _ _ h => h) (Or.inl ⟨by rfl, ?hk65⟩) (R2.old ((Old.refl wr).drew) HX.out) ?rk65
              case hk65 => (intro wz hSw; (try dsimp only at hSw); go_simp; try with_reducible rfl)
              (try simp only [Act.put]); (try simp only [List.setIfInBounds_toArray]); (try simp only [List.set_cons_succ]); (try simp only [List.set_cons_zero])
              refine wpAnyH_take (i := 15) (oi := { dst := some 52, op := Op.move (Operand.tmp 4), type := 22, pos := "ref.go:107", after := #[{ on := 12, ground := Ground.guard }], guard := some (12, false) }) (v := ?vk66) rfl (by kernel_rfl) (by kernel_rfl) (by kernel_rfl) (fun _ _ _ h => h) (Or.inl ⟨by rfl, ?hk66⟩) (R2.old ((Old.refl wr).drew) HX.out) ?rk66
              case hk66 => (intro wz hSw; (try dsimp only at hSw); go_simp; try with_reducible rfl)
              (try simp only [Act.put]); (try simp only [List.setIfInBounds_toArray]); (try simp only [List.set_cons_succ]); (try simp only [List.set_cons_zero])
              refine wpAnyH_take (i := 16) (oi := { dst := some 53, op := Op.indexAddr 22 (Operand.tmp 52) (Operand.const (Value.int IntKind.i64 0)), type := 0, pos := "ref.go:107", after := #[{ on := 15, ground := Ground.data }, { on := 12, ground := Ground.guard }], guard := some (12, false) }) (v := ?vk67) rfl (by kernel_rfl) (by kernel_rfl) (by kernel_rfl) (fun _ _ _ h => h) (Or.inl ⟨by rfl, ?hk67⟩) (R2.old ((Old.refl wr).drew) HX.out) ?rk67
              case hk67 => (intro wz hSw; (try dsimp only at hSw); go_simp; try with_reducible rfl)
              (try simp only [Act.put]); (try simp only [List.setIfInBounds_toArray]); (try simp only [List.set_cons_succ]); (try simp only [List.set_cons_zero])
              refine wpAnyH_take (i := 17) (oi := { dst := some 54, op := Op.load 3 (Operand.tmp 53), type := 3, pos := "ref.go:107", after := #[{ on := 16, ground := Ground.data }, { on := 12, ground := Ground.guard }], guard := some (12, false) }) (v := ?vk68) rfl (by kernel_rfl) (by kernel_rfl) (by kernel_rfl) (fun _ _ _ h => h) (Or.inl ⟨by rfl, ?hk68⟩) (R2.old ((Old.refl wr).drew) HX.out) ?rk68
              case hk68 => (intro wz hSw; (try dsimp only at hSw); go_simp; try with_reducible rfl)
              (try simp only [Act.put]); (try simp only [List.setIfInBounds_toArray]); (try simp only [List.set_cons_succ]); (try simp only [List.set_cons_zero])
              refine wpAnyH_take (i := 18) (oi := { dst := some 55, op := Op.binOp BinOp.add 3 (Operand.tmp 54) (Operand.const (Value.int IntKind.i64 2)) 3, type := 3, pos := "ref.go:107", after := #[{ on := 17, ground := Ground.data }, { on := 12, ground := Ground.guard }], guard := some (12, false) }) (v := ?vk69) rfl (by kernel_rfl) (by kernel_rfl) (by kernel_rfl) (fun _ _ _ h => h) (Or.inl ⟨by rfl, ?hk69⟩) (R2.old ((Old.refl wr).drew) HX.out) ?rk69
              case hk69 => (intro wz hSw; (try dsimp only at hSw); go_simp; try with_reducible rfl)
              (try simp only [Act.put]); (try simp only [List.setIfInBounds_toArray]); (try simp only [List.set_cons_succ]); (try simp only [List.set_cons_zero])
              refine wpAnyH_take (i := 19) (oi := { dst := some 56, op := Op.move (Operand.tmp 4), type := 22, pos := "ref.go:107", after := #[{ on := 12, ground := Ground.guard }], guard := some (12, false) }) (v := ?vk70) rfl (by kernel_rfl) (by kernel_rfl) (by kernel_rfl) (fun _ _ _ h => h) (Or.inl ⟨by rfl, ?hk70⟩) (R2.old ((Old.refl wr).drew) HX.out) ?rk70
              case hk70 => (intro wz hSw; (try dsimp only at hSw); go_simp; try with_reducible rfl)
              (try simp only [Act.put]); (try simp only [List.setIfInBounds_toArray]); (try simp only [List.set_cons_succ]); (try simp only [List.set_cons_zero])
              refine wpAnyH_take (i := 20) (oi := { dst := some 57, op := Op.move (Operand.tmp 4), type := 22, pos := "ref.go:107", after := #[{ on := 12, ground := Ground.guard }], guard := some (12, false) }) (v := ?vk71) rfl (by kernel_rfl) (by kernel_rfl) (by kernel_rfl) (fun _ _ _ h => h) (Or.inl ⟨by rfl, ?hk71⟩) (R2.old ((Old.refl wr).drew) HX.out) ?rk71
              case hk71 => (intro wz hSw; (try dsimp only at hSw); go_simp; try with_reducible rfl)
              (try simp only [Act.put]); (try simp only [List.setIfInBounds_toArray]); (try simp only [List.set_cons_succ]); (try simp only [List.set_cons_zero])
              refine wpAnyH_take (i := 21) (oi := { dst := some 58, op := Op.indexAddr 22 (Operand.tmp 57) (Operand.const (Value.int IntKind.i64 0)), type := 0, pos := "ref.go:107", after := #[{ on := 20, ground := Ground.data }, { on := 12, ground := Ground.guard }], guard := some (12, false) }) (v := ?vk72) rfl (by kernel_rfl) (by kernel_rfl) (by kernel_rfl) (fun _ _ _ h => h) (Or.inl ⟨by rfl, ?hk72⟩) (R2.old ((Old.refl wr).drew) HX.out) ?rk72
              case hk72 => (intro wz hSw; (try dsimp only at hSw); go_simp; try with_reducible rfl)
              (try simp only [Act.put]); (try simp only [List.setIfInBounds_toArray]); (try simp only [List.set_cons_succ]); (try simp only [List.set_cons_zero])
              refine wpAnyH_take (i := 22) (oi := { dst := some 59, op := Op.load 3 (Operand.tmp 58), type := 3, pos := "ref.go:107", after := #[{ on := 21, ground := Ground.data }, { on := 12, ground := Ground.guard }], guard := some (12, false) }) (v := ?vk73) rfl (by kernel_rfl) (by kernel_rfl) (by kernel_rfl) (fun _ _ _ h => h) (Or.inl ⟨by rfl, ?hk73⟩) (R2.old ((Old.refl wr).drew) HX.out) ?rk73
              case hk73 => (intro wz hSw; (try dsimp only at hSw); go_simp; try with_reducible rfl)
              (try simp only [Act.put]); (try simp only [List.setIfInBounds_toArray]); (try simp only [List.set_cons_succ]); (try simp only [List.set_cons_zero])
              refine wpAnyH_take (i := 23) (oi := { dst := some 60, op := Op.binOp BinOp.add 3 (Operand.tmp 59) (Operand.const (Value.int IntKind.i64 1)) 3, type := 3, pos := "ref.go:107", after := #[{ on := 22, ground := Ground.data }, { on := 12, ground := Ground.guard }], guard := some (12, false) }) (v := ?vk74) rfl (by kernel_rfl) (by kernel_rfl) (by kernel_rfl) (fun _ _ _ h => h) (Or.inl ⟨by rfl, ?hk74⟩) (R2.old ((Old.refl wr).drew) HX.out) ?rk74
              case hk74 => (intro wz hSw; (try dsimp only at hSw); go_simp; try with_reducible rfl)
              (try simp only [Act.put]); (try simp only [List.setIfInBounds_toArray]); (try simp only [List.set_cons_succ]); (try simp only [List.set_cons_zero])
              refine wpAnyH_take (i := 24) (oi := { dst := some 61, op := Op.indexAddr 22 (Operand.tmp 56) (Operand.tmp 60), type := 0, pos := "ref.go:107", after := #[{ on := 19, ground := Ground.data }, { on := 23, ground := Ground.data }, { on := 12, ground := Ground.guard }], guard := some (12, false) }) (v := ?vk75) rfl (by kernel_rfl) (by kernel_rfl) (by kernel_rfl) (fun _ _ _ h => h) (Or.inl ⟨by rfl, ?hk75⟩) (R2.old ((Old.refl wr).drew) HX.out) ?rk75
              case hk75 => (intro wz hSw; (try dsimp only at hSw); go_simp; try with_reducible rfl)
              (try simp only [Act.put]); (try simp only [List.setIfInBounds_toArray]); (try simp only [List.set_cons_succ]); (try simp only [List.set_cons_zero])
              refine wpAnyH_take (i := 25) (oi := { dst := some 62, op := Op.load 3 (Operand.tmp 61), type := 3, pos := "ref.go:107", after := #[{ on := 24, ground := Ground.data }, { on := 12, ground := Ground.guard }], guard := some (12, false) }) (v := ?vk76) rfl (by kernel_rfl) (by kernel_rfl) (by kernel_rfl) (fun _ _ _ h => h) (Or.inl ⟨by rfl, ?hk76⟩) (R2.old ((Old.refl wr).drew) HX.out) ?rk76
              case hk76 => (intro wz hSw; (try dsimp only at hSw); go_simp; try with_reducible rfl)
              (try simp only [Act.put]); (try simp only [List.setIfInBounds_toArray]); (try simp only [List.set_cons_succ]); (try simp only [List.set_cons_zero])
              refine wpAnyH_take (i := 26) (oi := { dst := some 63, op := Op.binOp BinOp.add 3 (Operand.tmp 55) (Operand.tmp 62) 3, type := 3, pos := "ref.go:107", after := #[{ on := 18, ground := Ground.data }, { on := 25, ground := Ground.data }, { on := 12, ground := Ground.guard }], guard := some (12, false) }) (v := ?vk77) rfl (by kernel_rfl) (by kernel_rfl) (by kernel_rfl) (fun _ _ _ h => h) (Or.inl ⟨by rfl, ?hk77⟩) (R2.old ((Old.refl wr).drew) HX.out) ?rk77
              case hk77 => (intro wz hSw; (try dsimp only at hSw); go_simp; try with_reducible rfl)
              (try simp only [Act.put]); (try simp only [List.setIfInBounds_toArray]); (try simp only [List.set_cons_succ]); (try simp only [List.set_cons_zero])
              refine wpAnyH_take (i := 27) (oi := { dst := some 64, op := Op.binOp BinOp.neq 3 (Operand.tmp 51) (Operand.tmp 63) 3, type := 4, pos := "ref.go:107", after := #[{ on := 14, ground := Ground.data }, { on := 26, ground := Ground.data }, { on := 12, ground := Ground.guard }], guard := some (12, false) }) (v := ?vk78) rfl (by kernel_rfl) (by kernel_rfl) (by kernel_rfl) (fun _ _ _ h => h) (Or.inl ⟨by rfl, ?hk78⟩) (R2.old ((Old.refl wr).drew) HX.out) ?rk78
              case hk78 => (intro wz hSw; (try dsimp only at hSw); go_simp; try with_reducible rfl)
              (try simp only [Act.put]); (try simp only [List.setIfInBounds_toArray]); (try simp only [List.set_cons_succ]); (try simp only [List.set_cons_zero])
              refine wpAnyH_take (i := 28) (oi := { dst := some 65, op := Op.pick (Operand.tmp 49) (Operand.const (Value.bool true)) (Operand.tmp 64), type := 4, pos := "ref.go:107", after := #[{ on := 12, ground := Ground.data }, { on := 27, ground := Ground.data }], guard := none }) (v := ?vk79) rfl (by kernel_rfl) (by kernel_rfl) (by kernel_rfl) (fun _ _ _ h => h) (Or.inl ⟨by rfl, ?hk79⟩) (R2.old ((Old.refl wr).drew) HX.out) ?rk79
              case hk79 => (intro wz hSw; (try dsimp only at hSw); go_simp; try with_reducible rfl)
              (try simp only [Act.put]); (try simp only [List.setIfInBounds_toArray]); (try simp only [List.set_cons_succ]); (try simp only [List.set_cons_zero])
              refine wpAnyH_done (by kernel_rfl) ?_ _
              refine NoPanic.normal ?_
              have UZ := hid ((Old.refl wr).drew)
              have HX1 := hid (show R1 ⟨gb, 0, none⟩ (.int .i64 (n0 : Nat)) _ from (R2.old UZ.out HX.out).1)
              have HU9 := hid (HU.out.trans UZ.out)
              clear HX
              generalize World.drew wr = x9 at *
              have HGr := hid (show gb ≠ rb from by have := HZ3.out; omega)
              have HGW := hid (show w.heap.size ≤ gb from by have := O1.out.size; omega)
              have hJ := HJ.out
              have hG3 := HG3.out
              have s1 : (1 : Int) ≤ (j1 : Int) := by omega
              have s2 : (j1 : Int) ≤ (cz : Int) := by omega
              have s3 : (j2 : Int) ≤ (ln : Int) := by omega
              have s4 : (ln : Int) ≤ (cz : Int) := by omega
              have s1n : 1 ≤ j1 := by omega
              have s2n : j1 ≤ cz := by omega
              have s3n : j2 ≤ ln := by omega
              have s4n : ln ≤ cz := by omega
              have s5 : (0 : Int) ≤ (j2 : Int) := by omega
              have s6 : ¬ cz = 1 := by omega
              have s7 : j1 - 1 = n0 := by omega
              have s8 : ln - j2 = n1 := by omega
              obtain ⟨zc1, s9⟩ : ∃ z, cz - 1 = z := ⟨_, rfl⟩
              obtain ⟨zc2, sa⟩ : ∃ z, cz - j2 = z := ⟨_, rfl⟩
              obtain ⟨o2, so2⟩ : ∃ o2, o2 = (if cz = j2 then 0 else j2) := ⟨_, rfl⟩
              have sb : (if cz = j2 then (some ⟨gb, 0, none⟩ : Option Addr) else some ⟨gb, j2, none⟩) = some ⟨gb, o2, none⟩ := by rw [so2]; split <;> rfl
              have so3 : n1 = 0 ∨ o2 = n0 + 2 := by
                rw [so2]
                by_cases h : cz = j2
                · left; omega
                · right; rw [if_neg h]; omega
              have HV1 := hid (sub_row (HO.out.up UZ.out) HZl.out 1 n0 zc1 1 (.inr rfl) (by omega) (by omega) (by omega))
              have HV2 := hid (sub_row (HO.out.up UZ.out) HZl.out (n0 + 2) n1 zc2 o2 so3 (by omega) (by omega) (by omega))
              obtain ⟨rr, hrr⟩ : ∃ rr, rightL la lc = rr := ⟨_, rfl⟩
              have HRR := hid hrr
              have HRR0 := hid (show rightB n0 (fun i => gI zs (i + 1)) n1 (fun i => gI zs (i + (n0 + 2))) = rr from by
                rw [← hrr]
                unfold rightL
                rw [HLa.out.1, HLa.out.2]
                exact rightB_congr (fun i hi => (HCa.out i hi).symm) (fun i hi => (HCc.out i hi).symm))
              clear hrr so2 so3 hJ hG3 hgbase hcz HO
              go_upto_region 11 with (fail)
              refine wp_region_noPanic ?_
              refine wp_region_held_drew (S := R1 ⟨gb, 0, none⟩ (.int .i64 (n0 : Nat))) (by kernel_rfl) ?_ (fun hHeld => ?_)
              · exact R1.old ((Old.refl x9).drew) HX1.out
              (try simp only [Act.put]); (try simp only [List.setIfInBounds_toArray]); (try simp only [List.set_cons_succ]); (try simp only [List.set_cons_zero])
              clear hHeld
              refine wpAnyH_take (i := 0) (oi := { dst := some 67, op := Op.move (Operand.tmp 4), type := 22, pos := "ref.go:110", after := #[], guard := none }) (v := ?vk84) rfl (by kernel_rfl) (by kernel_rfl) (by kernel_rfl) (fun _ _ _ h => h) (Or.inl ⟨by rfl, ?hk84⟩) (R1.old ((Old.refl x9).drew) HX1.out) ?rk84
              case hk84 => (intro wz hSw; (try dsimp only at hSw); go_simp; try with_reducible rfl)
              (try simp only [Act.put]); (try simp only [List.setIfInBounds_toArray]); (try simp only [List.set_cons_succ]); (try simp only [List.set_cons_zero])
              refine wpAnyH_take (i := 1) (oi := { dst := some 68, op := Op.move (Operand.tmp 4), type := 22, pos := "ref.go:110", after := #[], guard := none }) (v := ?vk85) rfl (by kernel_rfl) (by kernel_rfl) (by kernel_rfl) (fun _ _ _ h => h) (Or.inl ⟨by rfl, ?hk85⟩) (R1.old ((Old.refl x9).drew) HX1.out) ?rk85
              case hk85 => (intro wz hSw; (try dsimp only at hSw); go_simp; try with_reducible rfl)
              (try simp only [Act.put]); (try simp only [List.setIfInBounds_toArray]); (try simp only [List.set_cons_succ]); (try simp only [List.set_cons_zero])
              refine wpAnyH_take (i := 2) (oi := { dst := some 69, op := Op.indexAddr 22 (Operand.tmp 68) (Operand.const (Value.int IntKind.i64 0)), type := 0, pos := "ref.go:110", after := #[{ on := 1, ground := Ground.data }], guard := none }) (v := ?vk86) rfl (by kernel_rfl) (by kernel_rfl) (by kernel_rfl) (fun _ _ _ h => h) (Or.inl ⟨by rfl, ?hk86⟩) (R1.old ((Old.refl x9).drew) HX1.out) ?rk86
              case hk86 => (intro wz hSw; (try dsimp only at hSw); go_simp; try with_reducible rfl)
              (try simp only [Act.put]); (try simp only [List.setIfInBounds_toArray]); (try simp only [List.set_cons_succ]); (try simp only [List.set_cons_zero])
              refine wpAnyH_take (i := 3) (oi := { dst := some 70, op := Op.load 3 (Operand.tmp 69), type := 3, pos := "ref.go:110", after := #[{ on := 2, ground := Ground.data }], guard := none }) (v := ?vk87) rfl (by kernel_rfl) (by kernel_rfl) (by kernel_rfl) (fun _ _ _ h => h) (Or.inl ⟨by rfl, ?hk87⟩) (R1.old ((Old.refl x9).drew) HX1.out) ?rk87
              case hk87 => (intro wz hSw; (try dsimp only at hSw); go_simp; try with_reducible rfl)
              (try simp only [Act.put]); (try simp only [List.setIfInBounds_toArray]); (try simp only [List.set_cons_succ]); (try simp only [List.set_cons_zero])
              refine wpAnyH_take (i := 4) (oi := { dst := some 71, op := Op.binOp BinOp.add 3 (Operand.tmp 70) (Operand.const (Value.int IntKind.i64 1)) 3, type := 3, pos := "ref.go:110", after := #[{ on := 3, ground := Ground.data }], guard := none }) (v := ?vk88) rfl (by kernel_rfl) (by kernel_rfl) (by kernel_rfl) (fun _ _ _ h => h) (Or.inl ⟨by rfl, ?hk88⟩) (R1.old ((Old.refl x9).drew) HX1.out) ?rk88
              case hk88 => (intro wz hSw; (try dsimp only at hSw); go_simp; try with_reducible rfl)
              (try simp only [Act.put]); (try simp only [List.setIfInBounds_toArray]); (try simp only [List.set_cons_succ]); (try simp only [List.set_cons_zero])
              refine wpAnyH_take (i := 5) (oi := { dst := some 72, op := Op.slice 22 (Operand.tmp 67) (some (Operand.const (Value.int IntKind.i64 1))) (some (Operand.tmp 71)) none, type := 22, pos := "ref.go:110", after := #[{ on := 0, ground := Ground.data }, { on := 4, ground := Ground.data }], guard := none }) (v := ?vk89) rfl (by kernel_rfl) (by kernel_rfl) (by kernel_rfl) (fun _ _ _ h => h) (Or.inl ⟨by rfl, ?hk89⟩) (R1.old ((Old.refl x9).drew) HX1.out) ?rk89
              case hk89 => (intro wz hSw; (try dsimp only at hSw); go_simp; try with_reducible rfl)
              (try simp only [Act.put]); (try simp only [List.setIfInBounds_toArray]); (try simp only [List.set_cons_succ]); (try simp only [List.set_cons_zero])
              refine wpAnyH_take (i := 6) (oi := { dst := some 73, op := Op.move (Operand.tmp 4), type := 22, pos := "ref.go:110", after := #[], guard := none }) (v := ?vk90) rfl (by kernel_rfl) (by kernel_rfl) (by kernel_rfl) (fun _ _ _ h => h) (Or.inl ⟨by rfl, ?hk90⟩) (R1.old ((Old.refl x9).drew) HX1.out) ?rk90
              case hk90 => (intro wz hSw; (try dsimp only at hSw); go_simp; try with_reducible rfl)
              (try simp only [Act.put]); (try simp only [List.setIfInBounds_toArray]); (try simp only [List.set_cons_succ]); (try simp only [List.set_cons_zero])
              refine wpAnyH_take (i := 7) (oi := { dst := some 74, op := Op.move (Operand.tmp 4), type := 22, pos := "ref.go:110", after := #[], guard := none }) (v := ?vk91) rfl (by kernel_rfl) (by kernel_rfl) (by kernel_rfl) (fun _ _ _ h => h) (Or.inl ⟨by rfl, ?hk91⟩) (R1.old ((Old.refl x9).drew) HX1.out) ?rk91
              case hk91 => (intro wz hSw; (try dsimp only at hSw); go_simp; try with_reducible rfl)
              (try simp only [Act.put]); (try simp only [List.setIfInBounds_toArray]); (try simp only [List.set_cons_succ]); (try simp only [List.set_cons_zero])
              refine wpAnyH_take (i := 8) (oi := { dst := some 75, op := Op.indexAddr 22 (Operand.tmp 74) (Operand.const (Value.int IntKind.i64 0)), type := 0, pos := "ref.go:110", after := #[{ on := 7, ground := Ground.data }], guard := none }) (v := ?vk92) rfl (by kernel_rfl) (by kernel_rfl) (by kernel_rfl) (fun _ _ _ h => h) (Or.inl ⟨by rfl, ?hk92⟩) (R1.old ((Old.refl x9).drew) HX1.out) ?rk92
              case hk92 => (intro wz hSw; (try dsimp only at hSw); go_simp; try with_reducible rfl)
              (try simp only [Act.put]); (try simp only [List.setIfInBounds_toArray]); (try simp only [List.set_cons_succ]); (try simp only [List.set_cons_zero])
              refine wpAnyH_take (i := 9) (oi := { dst := some 76, op := Op.load 3 (Operand.tmp 75), type := 3, pos := "ref.go:110", after := #[{ on := 8, ground := Ground.data }], guard := none }) (v := ?vk93) rfl (by kernel_rfl) (by kernel_rfl) (by kernel_rfl) (fun _ _ _ h => h) (Or.inl ⟨by rfl, ?hk93⟩) (R1.old ((Old.refl x9).drew) HX1.out) ?rk93
              case hk93 => (intro wz hSw; (try dsimp only at hSw); go_simp; try with_reducible rfl)
              (try simp only [Act.put]); (try simp only [List.setIfInBounds_toArray]); (try simp only [List.set_cons_succ]); (try simp only [List.set_cons_zero])
              refine wpAnyH_take (i := 10) (oi := { dst := some 77, op := Op.binOp BinOp.add 3 (Operand.tmp 76) (Operand.const (Value.int IntKind.i64 2)) 3, type := 3, pos := "ref.go:110", after := #[{ on := 9, ground := Ground.data }], guard := none }) (v := ?vk94) rfl (by kernel_rfl) (by kernel_rfl) (by kernel_rfl) (fun _ _ _ h => h) (Or.inl ⟨by rfl, ?hk94⟩) (R1.old ((Old.refl x9).drew) HX1.out) ?rk94
              case hk94 => (intro wz hSw; (try dsimp only at hSw); go_simp; try with_reducible rfl)
              (try simp only [Act.put]); (try simp only [List.setIfInBounds_toArray]); (try simp only [List.set_cons_succ]); (try simp only [List.set_cons_zero])
              refine wpAnyH_take (i := 11) (oi := { dst := some 78, op := Op.slice 22 (Operand.tmp 73) (some (Operand.tmp 77)) none none, type := 22, pos := "ref.go:110", after := #[{ on := 6, ground := Ground.data }, { on := 10, ground := Ground.data }], guard := none }) (v := ?vk95) rfl (by kernel_rfl) (by kernel_rfl) (by kernel_rfl) (fun _ _ _ h => h) (Or.inl ⟨by rfl, ?hk95⟩) (R1.old ((Old.refl x9).drew) HX1.out) ?rk95
              case hk95 => (intro wz hSw; (try dsimp only at hSw); go_simp; try with_reducible rfl)
              (try simp only [Act.put]); (try simp only [List.setIfInBounds_toArray]); (try simp only [List.set_cons_succ]); (try simp only [List.set_cons_zero])
              refine wpAnyH_take (i := 12) (oi := { dst := some 79, op := Op.build 24 #[(0, Operand.tmp 72), (1, Operand.tmp 78)], type := 24, pos := "ref.go:110", after := #[{ on := 5, ground := Ground.data }, { on := 11, ground := Ground.data }], guard := none }) (v := ?vk96) rfl (by kernel_rfl) (by kernel_rfl) (by kernel_rfl) (fun _ _ _ h => h) (Or.inl ⟨by rfl, ?hk96⟩) (R1.old ((Old.refl x9).drew) HX1.out) ?rk96
              case hk96 => (intro wz hSw; (try dsimp only at hSw); go_simp; try with_reducible rfl)
              (try simp only [Act.put]); (try simp only [List.setIfInBounds_toArray]); (try simp only [List.set_cons_succ]); (try simp only [List.set_cons_zero])
              refine wpAnyH_ready (rs := [13]) (by kernel_rfl) (by simp) ?_
              refine AllReadyH.cons (o := { dst := some 8, op := Op.alloc 24, type := 0, pos := "ref.go:110", after := #[], guard := none }) rfl (fun K hK => ?_) AllReadyH.nil
              · skip
                refine stepAllocC ?_ ?_ ?_
                · rfl
                · rfl
                intro m97 y97 hm97 hy97
                have b97 := old_alloc hy97
                have tt97 : T2 m97 y97 := by rw [hy97, hm97]; exact T2.new _
                have Zm97 : x9.heap.size ≤ m97 := by rw [hm97]; exact ((Old.refl x9).drew).size
                have U97 := ((Old.refl x9).drew).trans b97
                clear hm97 hy97
                refine hK.out _ _ (R1.old U97 HX1.out) (fun _ => ?_)
                clear hK K
                (try simp only [Act.put]); (try simp only [List.setIfInBounds_toArray]); (try simp only [List.set_cons_succ]); (try simp only [List.set_cons_zero])
                refine wpAnyH_ready (rs := [14]) (by kernel_rfl) (by simp) ?_
                refine AllReadyH.cons (o := { dst := none, op := Op.store 24 (Operand.tmp 8) (Operand.tmp 79), type := 0, pos := "ref.go:110", after := #[{ on := 13, ground := Ground.data }, { on := 12, ground := Ground.data }, { on := 0, ground := Ground.phase }, { on := 1, ground := Ground.phase }, { on := 2, ground := Ground.phase }, { on := 3, ground := Ground.phase }, { on := 4, ground := Ground.phase }, { on := 5, ground := Ground.phase }, { on := 6, ground := Ground.phase }, { on := 7, ground := Ground.phase }, { on := 8, ground := Ground.phase }, { on := 9, ground := Ground.phase }, { on := 10, ground := Ground.phase }, { on := 11, ground := Ground.phase }, { on := 12, ground := Ground.phase }, { on := 13, ground := Ground.phase }], guard := none }) rfl (fun K hK => ?_) AllReadyH.nil
                · skip
                  refine stepStoreC ?_ (.tmp 8) (.tmp 79) ?_ m97 (.slice (some ⟨gb, 1, none⟩) n0 zc1) (.slice (some ⟨gb, o2, none⟩) n1 zc2) ?_ ?_ tt97.there rfl rfl ?_
                  · rfl
                  · rfl
                  · rfl
                  · rfl
                  have U98 := Old.setCells Zm97 [.slice (some ⟨gb, 1, none⟩) n0 zc1, .slice (some ⟨gb, o2, none⟩) n1 zc2] 0 U97
                  have X98 := box_set tt97 (.slice (some ⟨gb, 1, none⟩) n0 zc1) (.slice (some ⟨gb, o2, none⟩) n1 zc2)
                  have Q98 := hid Zm97
                  refine hK.out _ _ (R1.old U98 HX1.out) (fun _ => ?_)
                  clear hK K
                  (try simp only [Act.put]); (try simp only [List.setIfInBounds_toArray]); (try simp only [List.set_cons_succ]); (try simp only [List.set_cons_zero])
                  refine wpAnyH_done (by kernel_rfl) ?_ _
                  refine NoPanic.normal ?_
                  have UY := hid U98
                  have XY := hid X98
                  have QY := Q98
                  generalize hwy : World.setCells _ m97 0 _ = wy at *
                  clear hwy
                  generalize m97 = nb at *
                  simp only [Exit.then]
                  have HUy := hid (HU9.out.trans UY.out)
                  have HNr := hid (show nb ≠ rb from by have := QY.out; have := HU9.out.size; have := HZ3.out; omega)
                  have HRg := hid (fun (W : World) (u : Old wy W) => rRight_any (.slice (some ⟨gb, 1, none⟩) n0 zc1) (.slice (some ⟨gb, o2, none⟩) n1 zc2) n0 n1 (fun i => gI zs (i + 1)) (fun i => gI zs (i + (n0 + 2))) W (HV1.out.old (UY.out.trans u)) (HV2.out.old (UY.out.trans u)))
                  rw [HRR0.out] at HRg
                  go_upto_region 12 with (fail)
                  refine wp_region_noPanic ?_
                  refine wp_region_held_drew (S := BxS nb (.slice (some ⟨gb, 1, none⟩) n0 zc1) (.slice (some ⟨gb, o2, none⟩) n1 zc2)) (by kernel_rfl) ?_ (fun hHeld => ?_)
                  · exact BxS.old ((Old.refl wy).drew) XY.out
                  (try simp only [Act.put]); (try simp only [List.setIfInBounds_toArray]); (try simp only [List.set_cons_succ]); (try simp only [List.set_cons_zero])
                  clear hHeld
                  refine wpAnyH_take (i := 0) (oi := { dst := some 80, op := Op.load 24 (Operand.tmp 8), type := 24, pos := "ref.go:111", after := #[], guard := none }) (v := ?vk80) rfl (by kernel_rfl) (by kernel_rfl) (by kernel_rfl) (fun _ _ _ h => h) (Or.inl ⟨by rfl, ?hk80⟩) (BxS.old ((Old.refl wy).drew) XY.out) ?rk80
                  case hk80 => (intro wz hSw; (try dsimp only at hSw); go_simp; try with_reducible rfl)
                  (try simp only [Act.put]); (try simp only [List.setIfInBounds_toArray]); (try simp only [List.set_cons_succ]); (try simp only [List.set_cons_zero])
                  refine wpAnyH_take (i := 1) (oi := { dst := some 81, op := Op.load 24 (Operand.tmp 8), type := 24, pos := "ref.go:111", after := #[], guard := none }) (v := ?vk81) rfl (by kernel_rfl) (by kernel_rfl) (by kernel_rfl) (fun _ _ _ h => h) (Or.inl ⟨by rfl, ?hk81⟩) (BxS.old ((Old.refl wy).drew) XY.out) ?rk81
                  case hk81 => (intro wz hSw; (try dsimp only at hSw); go_simp; try with_reducible rfl)
                  (try simp only [Act.put]); (try simp only [List.setIfInBounds_toArray]); (try simp only [List.set_cons_succ]); (try simp only [List.set_cons_zero])
                  refine wpAnyH_ready (rs := [2]) (by kernel_rfl) (by simp) ?_
                  refine AllReadyH.cons (o := { dst := some 82, op := Op.call { callee := Callee.value (Operand.func 60), args := #[Operand.tmp 81], argTypes := #[24] }, type := 4, pos := "ref.go:111", after := #[{ on := 1, ground := Ground.data }], guard := none }) rfl (fun K hK => ?_) AllReadyH.nil
                  · skip
                    refine wantCall1 ?_ 60 (.tmp 81) #[24] ?_ (.agg #[.slice (some ⟨gb, 1, none⟩) n0 zc1, .slice (some ⟨gb, o2, none⟩) n1 zc2]) ?_ ?_ (enters_of Try.func60 (by kernel_rfl) rfl _ _) ?_
                    · rfl
                    · rfl
                    · rfl
                    · rfl
                    refine (HRg.out _ ((Old.refl wy).drew)).mono ?_
                    rintro o x82 ⟨rfl, b82⟩
                    refine ⟨_, rfl, ?_⟩
                    have U82 := ((Old.refl wy).drew).trans b82
                    refine hK.out _ _ (BxS.old U82 XY.out) (fun _ => ?_)
                    clear hK K
                    (try simp only [Act.put]); (try simp only [List.setIfInBounds_toArray]); (try simp only [List.set_cons_succ]); (try simp only [List.set_cons_zero])
                    refine wpAnyH_ready (rs := [3]) (by kernel_rfl) (by simp) ?_
                    refine AllReadyH.cons (o := { dst := none, op := Op.store 24 (Operand.tmp 2) (Operand.tmp 80), type := 0, pos := "ref.go:111", after := #[{ on := 0, ground := Ground.data }, { on := 2, ground := Ground.chain }, { on := 0, ground := Ground.phase }, { on := 1, ground := Ground.textOnly Departure.lateStores }, { on := 2, ground := Ground.textOnly Departure.lateStoresUnsure }], guard := none }) rfl (fun K hK => ?_) AllReadyH.nil
                    · skip
                      have T83 := T2.old (HUy.out.trans U82) HT.out
                      refine stepStoreC ?_ (.tmp 2) (.tmp 80) ?_ rb (.slice (some ⟨gb, 1, none⟩) n0 zc1) (.slice (some ⟨gb, o2, none⟩) n1 zc2) ?_ ?_ T83.there rfl rfl ?_
                      · rfl
                      · rfl
                      · rfl
                      · rfl
                      have X83 := hid (box_set T83 (.slice (some ⟨gb, 1, none⟩) n0 zc1) (.slice (some ⟨gb, o2, none⟩) n1 zc2))
                      have P83 := hid U82
                      have S83 := BxS.setC (BxS.old U82 XY.out) rb [.slice (some ⟨gb, 1, none⟩) n0 zc1, .slice (some ⟨gb, o2, none⟩) n1 zc2] HNr.out
                      refine hK.out _ _ S83 (fun _ => ?_)
                      clear hK K
                      (try simp only [Act.put]); (try simp only [List.setIfInBounds_toArray]); (try simp only [List.set_cons_succ]); (try simp only [List.set_cons_zero])
                      refine wpAnyH_ready (rs := [4]) (by kernel_rfl) (by simp) ?_
                      refine AllReadyH.cons (o := { dst := some 3, op := Op.assign (Operand.tmp 82), type := 4, pos := "ref.go:111", after := #[{ on := 2, ground := Ground.data }, { on := 3, ground := Ground.chain }, { on := 0, ground := Ground.phase }, { on := 1, ground := Ground.phase }, { on := 2, ground := Ground.phase }, { on := 3, ground := Ground.phase }], guard := none }) rfl (fun K hK => ?_) AllReadyH.nil
                      · skip
                        go_simp
                        refine hK.out _ _ S83 (fun _ => ?_)
                        clear hK K
                        (try simp only [Act.put]); (try simp only [List.setIfInBounds_toArray]); (try simp only [List.set_cons_succ]); (try simp only [List.set_cons_zero])
                        refine wpAnyH_done (by kernel_rfl) ?_ _
                        refine NoPanic.normal ?_
                        have z0 := X83.out.1
                        have z1 := X83.out.2
                        have PU := P83
                        go_wp2
                        refine bodyPost_ret (v := .tuple #[.agg #[.slice (some ⟨gb, 1, none⟩) n0 zc1, .slice (some ⟨gb, o2, none⟩) n1 zc2], .bool rr]) (by simp [results, Try.results52, go_sem, z0, z1]) rfl ?_
                        refine ⟨Old.setCells HZ.out _ 0 (O1.out.trans (HUy.out.trans PU.out)), ?_⟩
                        have hrr := HRR.out
                        cases rr with
                        | true =>
                          left
                          refine ⟨la, lc, some ⟨gb, 1, none⟩, some ⟨gb, o2, none⟩, zc1, zc2, (ld_end HEnd.out la lc).2 ⟨HSh.out, hrr⟩, by rw [HLa.out.1, HLa.out.2], ?_, ?_, (fun g e => by cases e; exact HGW.out), (fun g e => by cases e; exact HGW.out)⟩
                          · rw [HLa.out.1]; exact nrow_set ((HV1.out.old (UY.out.trans PU.out)).congr (fun i hi => (HCa.out i hi).symm)) HGr.out _
                          · rw [HLa.out.2]; exact nrow_set ((HV2.out.old (UY.out.trans PU.out)).congr (fun i hi => (HCc.out i hi).symm)) HGr.out _
                        | false =>
                          right
                          refine ⟨?_, _, _, _, _, _, _, rfl⟩
                          cases e : ldConf L with
                          | none => rfl
                          | some p =>
                            obtain ⟨a', c'⟩ := p
                            obtain ⟨e1, e2⟩ := (ld_end HEnd.out a' c').1 e
                            obtain ⟨rfl, rfl⟩ := shape_one (HSh.out.symm.trans e1)
                            rw [e2] at hrr
                            cases hrr
          · have q3 : ((ln : Int) == (j3 : Int)) = false := by rw [beq_eq_false_iff_ne]; omega
            have q3' : ((ln : Int) != (j3 : Int)) = true := by rw [bne_iff_ne]; omega
            have hne3 : ¬ (ln : Int) = (j3 : Int) := by omega
            have hne4 : ¬ ln = j3 := by omega
            have HN := hid (HNo.out (fun a c e => by
              have s := shape_of e
              have s1 := s.1
              rw [HE0.out] at s1
              have s2 := s.2.1
              rw [show a.length = n0 by omega, e1] at s2
              have := s.2.2
              omega))
            clear hc0 hc1 hblk hgbase e0 e1 hzl hj1 hj2 hj3 g3
            · skip
              refine wp_region_noPanic ?_
              refine wp_region_held_drew (S := R2 ⟨gb, 0, none⟩ (.int .i64 (n0 : Nat)) ⟨gb, j1, none⟩ (.int .i64 (n1 : Nat))) (by kernel_rfl) ?_ (fun hHeld => ?_)
              · exact R2.old ((Old.refl wr).drew) HX.out
              (try simp only [Act.put]); (try simp only [List.setIfInBounds_toArray]); (try simp only [List.set_cons_succ]); (try simp only [List.set_cons_zero])
              clear hHeld
              refine wpAnyH_take (i := 0) (oi := { dst := some 37, op := Op.move (Operand.tmp 4), type := 22, pos := "ref.go:107", after := #[], guard := none }) (v := ?vk22) rfl (by kernel_rfl) (by kernel_rfl) (by kernel_rfl) (fun _ _ _ h => h) (Or.inl ⟨by rfl, ?hk22⟩) (R2.old ((Old.refl wr).drew) HX.out) ?rk22
              case hk22 => (intro wz hSw; (try dsimp only at hSw); go_simp; try with_reducible rfl)
              (try simp only [Act.put]); (try simp only [List.setIfInBounds_toArray]); (try simp only [List.set_cons_succ]); (try simp only [List.set_cons_zero])
              refine wpAnyH_take (i := 1) (oi := { dst := some 38, op := Op.call { callee := Callee.builtin Builtin.len, args := #[Operand.tmp 37], argTypes := #[22] }, type := 3, pos := "ref.go:107", after := #[{ on := 0, ground := Ground.data }], guard := none }) (v := ?vk23) rfl (by kernel_rfl) (by kernel_rfl) (by kernel_rfl) (fun _ _ _ h => h) (Or.inl ⟨by rfl, ?hk23⟩) (R2.old ((Old.refl wr).drew) HX.out) ?rk23
              case hk23 => (intro wz hSw; (try dsimp only at hSw); go_simp; try with_reducible rfl)
              (try simp only [Act.put]); (try simp only [List.setIfInBounds_toArray]); (try simp only [List.set_cons_succ]); (try simp only [List.set_cons_zero])
              refine wpAnyH_take (i := 2) (oi := { dst := some 39, op := Op.binOp BinOp.lss 3 (Operand.tmp 38) (Operand.const (Value.int IntKind.i64 2)) 3, type := 4, pos := "ref.go:107", after := #[{ on := 1, ground := Ground.data }], guard := none }) (v := ?vk24) rfl (by kernel_rfl) (by kernel_rfl) (by kernel_rfl) (fun _ _ _ h => h) (Or.inl ⟨by rfl, ?hk24⟩) (R2.old ((Old.refl wr).drew) HX.out) ?rk24
              case hk24 => (intro wz hSw; (try dsimp only at hSw); go_simp; try with_reducible rfl)
              (try simp only [Act.put]); (try simp only [List.setIfInBounds_toArray]); (try simp only [List.set_cons_succ]); (try simp only [List.set_cons_zero])
              refine wpAnyH_take (i := 3) (oi := { dst := some 40, op := Op.move (Operand.tmp 39), type := 4, pos := "ref.go:107", after := #[{ on := 2, ground := Ground.data }], guard := none }) (v := ?vk25) rfl (by kernel_rfl) (by kernel_rfl) (by kernel_rfl) (fun _ _ _ h => h) (Or.inl ⟨by rfl, ?hk25⟩) (R2.old ((Old.refl wr).drew) HX.out) ?rk25
              case hk25 => (intro wz hSw; (try dsimp only at hSw); go_simp; try with_reducible rfl)
              (try simp only [Act.put]); (try simp only [List.setIfInBounds_toArray]); (try simp only [List.set_cons_succ]); (try simp only [List.set_cons_zero])
              refine wpAnyH_take (i := 4) (oi := { dst := some 41, op := Op.move (Operand.tmp 4), type := 22, pos := "ref.go:107", after := #[{ on := 3, ground := Ground.guard }], guard := some (3, false) }) (v := ?vk26) rfl (by kernel_rfl) (by kernel_rfl) (by kernel_rfl) (fun _ _ _ h => h) (Or.inl ⟨by rfl, ?hk26⟩) (R2.old ((Old.refl wr).drew) HX.out) ?rk26
              case hk26 => (intro wz hSw; (try dsimp only at hSw); go_simp; try with_reducible rfl)
              (try simp only [Act.put]); (try simp only [List.setIfInBounds_toArray]); (try simp only [List.set_cons_succ]); (try simp only [List.set_cons_zero])
              refine wpAnyH_take (i := 5) (oi := { dst := some 42, op := Op.call { callee := Callee.builtin Builtin.len, args := #[Operand.tmp 41], argTypes := #[22] }, type := 3, pos := "ref.go:107", after := #[{ on := 4, ground := Ground.data }, { on := 3, ground := Ground.guard }], guard := some (3, false) }) (v := ?vk27) rfl (by kernel_rfl) (by kernel_rfl) (by kernel_rfl) (fun _ _ _ h => h) (Or.inl ⟨by rfl, ?hk27⟩) (R2.old ((Old.refl wr).drew) HX.out) ?rk27
              case hk27 => (intro wz hSw; (try dsimp only at hSw); go_simp; try with_reducible rfl)
              (try simp only [Act.put]); (try simp only [List.setIfInBounds_toArray]); (try simp only [List.set_cons_succ]); (try simp only [List.set_cons_zero])
              refine wpAnyH_take (i := 6) (oi := { dst := some 43, op := Op.move (Operand.tmp 4), type := 22, pos := "ref.go:107", after := #[{ on := 3, ground := Ground.guard }], guard := some (3, false) }) (v := ?vk28) rfl (by kernel_rfl) (by kernel_rfl) (by kernel_rfl) (fun _ _ _ h => h) (Or.inl ⟨by rfl, ?hk28⟩) (R2.old ((Old.refl wr).drew) HX.out) ?rk28
              case hk28 => (intro wz hSw; (try dsimp only at hSw); go_simp; try with_reducible rfl)
              (try simp only [Act.put]); (try simp only [List.setIfInBounds_toArray]); (try simp only [List.set_cons_succ]); (try simp only [List.set_cons_zero])
              refine wpAnyH_take (i := 7) (oi := { dst := some 44, op := Op.indexAddr 22 (Operand.tmp 43) (Operand.const (Value.int IntKind.i64 0)), type := 0, pos := "ref.go:107", after := #[{ on := 6, ground := Ground.data }, { on := 3, ground := Ground.guard }], guard := some (3, false) }) (v := ?vk29) rfl (by kernel_rfl) (by kernel_rfl) (by kernel_rfl) (fun _ _ _ h => h) (Or.inl ⟨by rfl, ?hk29⟩) (R2.old ((Old.refl wr).drew) HX.out) ?rk29
              case hk29 => (intro wz hSw; (try dsimp only at hSw); go_simp; try with_reducible rfl)
              (try simp only [Act.put]); (try simp only [List.setIfInBounds_toArray]); (try simp only [List.set_cons_succ]); (try simp only [List.set_cons_zero])
              refine wpAnyH_take (i := 8) (oi := { dst := some 45, op := Op.load 3 (Operand.tmp 44), type := 3, pos := "ref.go:107", after := #[{ on := 7, ground := Ground.data }, { on := 3, ground := Ground.guard }], guard := some (3, false) }) (v := ?vk30) rfl (by kernel_rfl) (by kernel_rfl) (by kernel_rfl) (fun _ _ _ h => h) (Or.inl ⟨by rfl, ?hk30⟩) (R2.old ((Old.refl wr).drew) HX.out) ?rk30
              case hk30 => (intro wz hSw; (try dsimp only at hSw); go_simp; try with_reducible rfl)
              (try simp only [Act.put]); (try simp only [List.setIfInBounds_toArray]); (try simp only [List.set_cons_succ]); (try simp only [List.set_cons_zero])
              refine wpAnyH_take (i := 9) (oi := { dst := some 46, op := Op.binOp BinOp.add 3 (Operand.tmp 45) (Operand.const (Value.int IntKind.i64 2)) 3, type := 3, pos := "ref.go:107", after := #[{ on := 8, ground := Ground.data }, { on := 3, ground := Ground.guard }], guard := some (3, false) }) (v := ?vk31) rfl (by kernel_rfl) (by kernel_rfl) (by kernel_rfl) (fun _ _ _ h => h) (Or.inl ⟨by rfl, ?hk31⟩) (R2.old ((Old.refl wr).drew) HX.out) ?rk31
              case hk31 => (intro wz hSw; (try dsimp only at hSw); go_simp; try with_reducible rfl)
              (try simp only [Act.put]); (try simp only [List.setIfInBounds_toArray]); (try simp only [List.set_cons_succ]); (try simp only [List.set_cons_zero])
              refine wpAnyH_take (i := 10) (oi := { dst := some 47, op := Op.binOp BinOp.lss 3 (Operand.tmp 42) (Operand.tmp 46) 3, type := 4, pos := "ref.go:107", after := #[{ on := 5, ground := Ground.data }, { on := 9, ground := Ground.data }, { on := 3, ground := Ground.guard }], guard := some (3, false) }) (v := ?vk32) rfl (by kernel_rfl) (by kernel_rfl) (by kernel_rfl) (fun _ _ _ h => h) (Or.inl ⟨by rfl, ?hk32⟩) (R2.old ((Old.refl wr).drew) HX.out) ?rk32
              case hk32 => (intro wz hSw; (try dsimp only at hSw); go_simp; try with_reducible rfl)
              (try simp only [Act.put]); (try simp only [List.setIfInBounds_toArray]); (try simp only [List.set_cons_succ]); (try simp only [List.set_cons_zero])
              refine wpAnyH_take (i := 11) (oi := { dst := some 48, op := Op.pick (Operand.tmp 40) (Operand.const (Value.bool true)) (Operand.tmp 47), type := 4, pos := "ref.go:107", after := #[{ on := 3, ground := Ground.data }, { on := 10, ground := Ground.data }], guard := none }) (v := ?vk33) rfl (by kernel_rfl) (by kernel_rfl) (by kernel_rfl) (fun _ _ _ h => h) (Or.inl ⟨by rfl, ?hk33⟩) (R2.old ((Old.refl wr).drew) HX.out) ?rk33
              case hk33 => (intro wz hSw; (try dsimp only at hSw); go_simp; try with_reducible rfl)
              (try simp only [Act.put]); (try simp only [List.setIfInBounds_toArray]); (try simp only [List.set_cons_succ]); (try simp only [List.set_cons_zero])
              refine wpAnyH_take (i := 12) (oi := { dst := some 49, op := Op.move (Operand.tmp 48), type := 4, pos := "ref.go:107", after := #[{ on := 11, ground := Ground.data }, { on := 3, ground := Ground.chain }], guard := none }) (v := ?vk34) rfl (by kernel_rfl) (by kernel_rfl) (by kernel_rfl) (fun _ _ _ h => h) (Or.inl ⟨by rfl, ?hk34⟩) (R2.old ((Old.refl wr).drew) HX.out) ?rk34
              case hk34 => (intro wz hSw; (try dsimp only at hSw); go_simp; try with_reducible rfl)
              (try simp only [Act.put]); (try simp only [List.setIfInBounds_toArray]); (try simp only [List.set_cons_succ]); (try simp only [List.set_cons_zero])
              refine wpAnyH_take (i := 13) (oi := { dst := some 50, op := Op.move (Operand.tmp 4), type := 22, pos := "ref.go:107", after := #[{ on := 12, ground := Ground.guard }], guard := some (12, false) }) (v := ?vk35) rfl (by kernel_rfl) (by kernel_rfl) (by kernel_rfl) (fun _ _ _ h => h) (Or.inl ⟨by rfl, ?hk35⟩) (R2.old ((Old.refl wr).drew) HX.out) ?rk35
              case hk35 => (intro wz hSw; (try dsimp only at hSw); go_simp; try with_reducible rfl)
              (try simp only [Act.put]); (try simp only [List.setIfInBounds_toArray]); (try simp only [List.set_cons_succ]); (try simp only [List.set_cons_zero])
              refine wpAnyH_take (i := 14) (oi := { dst := some 51, op := Op.call { callee := Callee.builtin Builtin.len, args := #[Operand.tmp 50], argTypes := #[22] }, type := 3, pos := "ref.go:107", after := #[{ on := 13, ground := Ground.data }, { on := 12, ground := Ground.guard }], guard := some (12, false) }) (v := ?vk36) rfl (by kernel_rfl) (by kernel_rfl) (by kernel_rfl) (fun _ _ _ h => h) (Or.inl ⟨by rfl, ?hk36⟩) (R2.old ((Old.refl wr).drew) HX.out) ?rk36
              case hk36 => (intro wz hSw; (try dsimp only at hSw); go_simp; try with_reducible rfl)
              (try simp only [Act.put]); (try simp only [List.setIfInBounds_toArray]); (try simp only [List.set_cons_succ]); (try simp only [List.set_cons_zero])
              refine wpAnyH_take (i := 15) (oi := { dst := some 52, op := Op.move (Operand.tmp 4), type := 22, pos := "ref.go:107", after := #[{ on := 12, ground := Ground.guard }], guard := some (12, false) }) (v := ?vk37) rfl (by kernel_rfl) (by kernel_rfl) (by kernel_rfl) (fun _ _ _ h => h) (Or.inl ⟨by rfl, ?hk37⟩) (R2.old ((Old.refl wr).drew) HX.out) ?rk37
              case hk37 => (intro wz hSw; (try dsimp only at hSw); go_simp; try with_reducible rfl)
              (try simp only [Act.put]); (try simp only [List.setIfInBounds_toArray]); (try simp only [List.set_cons_succ]); (try simp only [List.set_cons_zero])
              refine wpAnyH_take (i := 16) (oi := { dst := some 53, op := Op.indexAddr 22 (Operand.tmp 52) (Operand.const (Value.int IntKind.i64 0)), type := 0, pos := "ref.go:107", after := #[{ on := 15, ground := Ground.data }, { on := 12, ground := Ground.guard }], guard := some (12, false) }) (v := ?vk38) rfl (by kernel_rfl) (by kernel_rfl) (by kernel_rfl) (fun _ _ _ h => h) (Or.inl ⟨by rfl, ?hk38⟩) (R2.old ((Old.refl wr).drew) HX.out) ?rk38
              case hk38 => (intro wz hSw; (try dsimp only at hSw); go_simp; try with_reducible rfl)
              (try simp only [Act.put]); (try simp only [List.setIfInBounds_toArray]); (try simp only [List.set_cons_succ]); (try simp only [List.set_cons_zero])
              refine wpAnyH_take (i := 17) (oi := { dst := some 54, op := Op.load 3 (Operand.tmp 53), type := 3, pos := "ref.go:107", after := #[{ on := 16, ground := Ground.data }, { on := 12, ground := Ground.guard }], guard := some (12, false) }) (v := ?vk39) rfl (by kernel_rfl) (by kernel_rfl) (by kernel_rfl) (fun _ _ _ h => h) (Or.inl ⟨by rfl, ?hk39⟩) (R2.old ((Old.refl wr).drew) HX.out) ?rk39
              case hk39 => (intro wz hSw; (try dsimp only at hSw); go_simp; try with_reducible rfl)
              (try simp only [Act.put]); (try simp only [List.setIfInBounds_toArray]); (try simp only [List.set_cons_succ]); (try simp only [List.set_cons_zero])
              refine wpAnyH_take (i := 18) (oi := { dst := some 55, op := Op.binOp BinOp.add 3 (Operand.tmp 54) (Operand.const (Value.int IntKind.i64 2)) 3, type := 3, pos := "ref.go:107", after := #[{ on := 17, ground := Ground.data }, { on := 12, ground := Ground.guard }], guard := some (12, false) }) (v := ?vk40) rfl (by kernel_rfl) (by kernel_rfl) (by kernel_rfl) (fun _ _ _ h => h) (Or.inl ⟨by rfl, ?hk40⟩) (R2.old ((Old.refl wr).drew) HX.out) ?rk40
              case hk40 => (intro wz hSw; (try dsimp only at hSw); go_simp; try with_reducible rfl)
              (try simp only [Act.put]); (try simp only [List.setIfInBounds_toArray]); (try simp only [List.set_cons_succ]); (try simp only [List.set_cons_zero])
              refine wpAnyH_take (i := 19) (oi := { dst := some 56, op := Op.move (Operand.tmp 4), type := 22, pos := "ref.go:107", after := #[{ on := 12, ground := Ground.guard }], guard := some (12, false) }) (v := ?vk41) rfl (by kernel_rfl) (by kernel_rfl) (by kernel_rfl) (fun _ _ _ h => h) (Or.inl ⟨by rfl, ?hk41⟩) (R2.old ((Old.refl wr).drew) HX.out) ?rk41
              case hk41 => (intro wz hSw; (try dsimp only at hSw); go_simp; try with_reducible rfl)
              (try simp only [Act.put]); (try simp only [List.setIfInBounds_toArray]); (try simp only [List.set_cons_succ]); (try simp only [List.set_cons_zero])
              refine wpAnyH_take (i := 20) (oi := { dst := some 57, op := Op.move (Operand.tmp 4), type := 22, pos := "ref.go:107", after := #[{ on := 12, ground := Ground.guard }], guard := some (12, false) }) (v := ?vk42) rfl (by kernel_rfl) (by kernel_rfl) (by kernel_rfl) (fun _ _ _ h => h) (Or.inl ⟨by rfl, ?hk42⟩) (R2.old ((Old.refl wr).drew) HX.out) ?rk42
              case hk42 => (intro wz hSw; (try dsimp only at hSw); go_simp; try with_reducible rfl)
              (try simp only [Act.put]); (try simp only [List.setIfInBounds_toArray]); (try simp only [List.set_cons_succ]); (try simp only [List.set_cons_zero])
              refine wpAnyH_take (i := 21) (oi := { dst := some 58, op := Op.indexAddr 22 (Operand.tmp 57) (Operand.const (Value.int IntKind.i64 0)), type := 0, pos := "ref.go:107", after := #[{ on := 20, ground := Ground.data }, { on := 12, ground := Ground.guard }], guard := some (12, false) }) (v := ?vk43) rfl (by kernel_rfl) (by kernel_rfl) (by kernel_rfl) (fun _ _ _ h => h) (Or.inl ⟨by rfl, ?hk43⟩) (R2.old ((Old.refl wr).drew) HX.out) ?rk43
              case hk43 => (intro wz hSw; (try dsimp only at hSw); go_simp; try with_reducible rfl)
              (try simp only [Act.put]); (try simp only [List.setIfInBounds_toArray]); (try simp only [List.set_cons_succ]); (try simp only [List.set_cons_zero])
              refine wpAnyH_take (i := 22) (oi := { dst := some 59, op := Op.load 3 (Operand.tmp 58), type := 3, pos := "ref.go:107", after := #[{ on := 21, ground := Ground.data }, { on := 12, ground := Ground.guard }], guard := some (12, false) }) (v := ?vk44) rfl (by kernel_rfl) (by kernel_rfl) (by kernel_rfl) (fun _ _ _ h => h) (Or.inl ⟨by rfl, ?hk44⟩) (R2.old ((Old.refl wr).drew) HX.out) ?rk44
              case hk44 => (intro wz hSw; (try dsimp only at hSw); go_simp; try with_reducible rfl)
              (try simp only [Act.put]); (try simp only [List.setIfInBounds_toArray]); (try simp only [List.set_cons_succ]); (try simp only [List.set_cons_zero])
              refine wpAnyH_take (i := 23) (oi := { dst := some 60, op := Op.binOp BinOp.add 3 (Operand.tmp 59) (Operand.const (Value.int IntKind.i64 1)) 3, type := 3, pos := "ref.go:107", after := #[{ on := 22, ground := Ground.data }, { on := 12, ground := Ground.guard }], guard := some (12, false) }) (v := ?vk45) rfl (by kernel_rfl) (by kernel_rfl) (by kernel_rfl) (fun _ _ _ h => h) (Or.inl ⟨by rfl, ?hk45⟩) (R2.old ((Old.refl wr).drew) HX.out) ?rk45
              case hk45 => (intro wz hSw; (try dsimp only at hSw); go_simp; try with_reducible rfl)
              (try simp only [Act.put]); (try simp only [List.setIfInBounds_toArray]); (try simp only [List.set_cons_succ]); (try simp only [List.set_cons_zero])
              refine wpAnyH_take (i := 24) (oi := { dst := some 61, op := Op.indexAddr 22 (Operand.tmp 56) (Operand.tmp 60), type := 0, pos := "ref.go:107", after := #[{ on := 19, ground := Ground.data }, { on := 23, ground := Ground.data }, { on := 12, ground := Ground.guard }], guard := some (12, false) }) (v := ?vk46) rfl (by kernel_rfl) (by kernel_rfl) (by kernel_rfl) (fun _ _ _ h => h) (Or.inl ⟨by rfl, ?hk46⟩) (R2.old ((Old.refl wr).drew) HX.out) ?rk46
              case hk46 => (intro wz hSw; (try dsimp only at hSw); go_simp; try with_reducible rfl)
              (try simp only [Act.put]); (try simp only [List.setIfInBounds_toArray]); (try simp only [List.set_cons_succ]); (try simp only [List.set_cons_zero])
              refine wpAnyH_take (i := 25) (oi := { dst := some 62, op := Op.load 3 (Operand.tmp 61), type := 3, pos := "ref.go:107", after := #[{ on := 24, ground := Ground.data }, { on := 12, ground := Ground.guard }], guard := some (12, false) }) (v := ?vk47) rfl (by kernel_rfl) (by kernel_rfl) (by kernel_rfl) (fun _ _ _ h => h) (Or.inl ⟨by rfl, ?hk47⟩) (R2.old ((Old.refl wr).drew) HX.out) ?rk47
              case hk47 => (intro wz hSw; (try dsimp only at hSw); go_simp; try with_reducible rfl)
              (try simp only [Act.put]); (try simp only [List.setIfInBounds_toArray]); (try simp only [List.set_cons_succ]); (try simp only [List.set_cons_zero])
              refine wpAnyH_take (i := 26) (oi := { dst := some 63, op := Op.binOp BinOp.add 3 (Operand.tmp 55) (Operand.tmp 62) 3, type := 3, pos := "ref.go:107", after := #[{ on := 18, ground := Ground.data }, { on := 25, ground := Ground.data }, { on := 12, ground := Ground.guard }], guard := some (12, false) }) (v := ?vk48) rfl (by kernel_rfl) (by kernel_rfl) (by kernel_rfl) (fun _ _ _ h => h) (Or.inl ⟨by rfl, ?hk48⟩) (R2.old ((Old.refl wr).drew) HX.out) ?rk48
              case hk48 => (intro wz hSw; (try dsimp only at hSw); go_simp; try with_reducible rfl)
              (try simp only [Act.put]); (try simp only [List.setIfInBounds_toArray]); (try simp only [List.set_cons_succ]); (try simp only [List.set_cons_zero])
              refine wpAnyH_take (i := 27) (oi := { dst := some 64, op := Op.binOp BinOp.neq 3 (Operand.tmp 51) (Operand.tmp 63) 3, type := 4, pos := "ref.go:107", after := #[{ on := 14, ground := Ground.data }, { on := 26, ground := Ground.data }, { on := 12, ground := Ground.guard }], guard := some (12, false) }) (v := ?vk49) rfl (by kernel_rfl) (by kernel_rfl) (by kernel_rfl) (fun _ _ _ h => h) (Or.inl ⟨by rfl, ?hk49⟩) (R2.old ((Old.refl wr).drew) HX.out) ?rk49
              case hk49 => (intro wz hSw; (try dsimp only at hSw); go_simp; try with_reducible rfl)
              (try simp only [Act.put]); (try simp only [List.setIfInBounds_toArray]); (try simp only [List.set_cons_succ]); (try simp only [List.set_cons_zero])
              refine wpAnyH_take (i := 28) (oi := { dst := some 65, op := Op.pick (Operand.tmp 49) (Operand.const (Value.bool true)) (Operand.tmp 64), type := 4, pos := "ref.go:107", after := #[{ on := 12, ground := Ground.data }, { on := 27, ground := Ground.data }], guard := none }) (v := ?vk50) rfl (by kernel_rfl) (by kernel_rfl) (by kernel_rfl) (fun _ _ _ h => h) (Or.inl ⟨by rfl, ?hk50⟩) (R2.old ((Old.refl wr).drew) HX.out) ?rk50
              case hk50 => (intro wz hSw; (try dsimp only at hSw); go_simp; try with_reducible rfl)
              (try simp only [Act.put]); (try simp only [List.setIfInBounds_toArray]); (try simp only [List.set_cons_succ]); (try simp only [List.set_cons_zero])
              refine wpAnyH_done (by kernel_rfl) ?_ _
              refine NoPanic.normal ?_
              have UZ := hid ((Old.refl wr).drew)
              generalize World.drew wr = w9 at *
              obtain ⟨t0, t1, tf0, tf1⟩ := T2.old (HU.out.trans UZ.out) HT.out
              obtain ⟨z0, z1⟩ := two_set t0 t1 (.slice none 0 0) (.slice none 0 0)
              have Z0 := hid z0
              have Z1 := hid z1
              clear z0 z1
              go_wp2
              have z0 := Z0.out
              have z1 := Z1.out
              exact bodyPost_ret (v := .tuple #[.agg #[.slice none 0 0, .slice none 0 0], .bool false]) (by simp [results, Try.results52, go_sem, z0, z1]) rfl ⟨((O1.out.trans (HU.out.trans UZ.out)).setCell HZ.out _).setCell HZ.out _, .inr ⟨HN.out, none, 0, 0, none, 0, 0, rfl⟩⟩
end Go.Proofs.Ytgpfmohaogppiaa
