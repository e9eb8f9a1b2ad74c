/- sess.readKept at all bytes; conditions: the Reader lies in memory, alive. -/
import Derived.Test.YtefffjlcfghniaaS16
namespace Go.Proofs.Ytefffjlcfghniaa
open Go.RowKit Go.Lib
set_option linter.unusedVariables false
set_option linter.unusedSimpArgs false
set_option maxRecDepth 20000
/-- Items taken off bytes, behind a last one, up to the highest. -/
def tkIs : Nat → Int → Int → List Nat → Option (List It × Int × List Nat)
  | 0, la, _, L => some ([], la, L)
  | k + 1, la, hi, L => match tkW (la + 1) hi L with
    | none => none
    | some (z, A) => match tkV A with
      | none => none
      | some ((c, m), B) => match tkIs k z hi B with
        | none => none
        | some (xs, e, C) => some (⟨z, c, m⟩ :: xs, e, C)
theorem tkIs_succ (k : Nat) (la hi : Int) (L : List Nat) : tkIs (k + 1) la hi L = match tkW (la + 1) hi L with | none => none | some (z, A) => match tkV A with | none => none | some ((c, m), B) => match tkIs k z hi B with | none => none | some (xs, e, C) => some (⟨z, c, m⟩ :: xs, e, C) := rfl
/-- What is kept of a session, taken off bytes. -/
def tkK (L : List Nat) : Option (Int × List It × List Nat) := match tkW 1 1099511627776 L with
  | none => none
  | some (hi, A) => match tkC 8 A with
    | none => none
    | some (n, B) => match tkIs n (max 0 (hi - 8)) hi B with
      | none => none
      | some (xs, e, C) => if e = hi then some (hi, xs, C) else none
def OffI (n k : Nat) (la0 la hi : Int) (B D : List Nat) (xs : List It) : Prop := xs.length = k ∧ k ≤ n ∧ tkIs n la0 hi B = match tkIs (n - k) la hi D with | none => none | some (ys, e, C) => some (xs ++ ys, e, C)
theorem OffI.zero (n : Nat) (la hi : Int) (B : List Nat) : OffI n 0 la la hi B B [] := ⟨rfl, Nat.zero_le _, by
  rw [Nat.sub_zero]
  cases tkIs n la hi B with
  | none => rfl
  | some p => rfl⟩
theorem OffI.step {n k : Nat} {la0 la hi z c m : Int} {B D A D' : List Nat} {xs : List It} (h : OffI n k la0 la hi B D xs) (hk : k < n) (e : tkW (la + 1) hi D = some (z, A)) (e2 : tkV A = some ((c, m), D')) : OffI n (k + 1) la0 z hi B D' (xs ++ [⟨z, c, m⟩]) := by
  obtain ⟨h1, h2, h3⟩ := h
  refine ⟨by simp [h1], hk, ?_⟩
  rw [h3, show n - k = (n - (k + 1)) + 1 by omega, tkIs_succ, e]
  simp only
  rw [e2]
  simp only
  cases tkIs (n - (k + 1)) z hi D' with
  | none => rfl
  | some p => obtain ⟨a, b, d⟩ := p; simp
theorem OffI.stop1 {n k : Nat} {la0 la hi : Int} {B D : List Nat} {xs : List It} (h : OffI n k la0 la hi B D xs) (hk : k < n) (e : tkW (la + 1) hi D = none) : tkIs n la0 hi B = none := by
  obtain ⟨h1, h2, h3⟩ := h
  rw [h3, show n - k = (n - k - 1) + 1 by omega, tkIs_succ, e]
theorem OffI.stop2 {n k : Nat} {la0 la hi z : Int} {B D A : List Nat} {xs : List It} (h : OffI n k la0 la hi B D xs) (hk : k < n) (e : tkW (la + 1) hi D = some (z, A)) (e2 : tkV A = none) : tkIs n la0 hi B = none := by
  obtain ⟨h1, h2, h3⟩ := h
  rw [h3, show n - k = (n - k - 1) + 1 by omega, tkIs_succ, e]
  simp only
  rw [e2]
theorem OffI.full {n : Nat} {la0 la hi : Int} {B D : List Nat} {xs : List It} (h : OffI n n la0 la hi B D xs) : tkIs n la0 hi B = some (xs, la, D) := by
  obtain ⟨h1, h2, h3⟩ := h
  rw [h3, Nat.sub_self]
  simp [tkIs]
theorem tkC8_le {L B : List Nat} {n : Nat} (h : tkC 8 L = some (n, B)) : n ≤ 8 := by
  unfold tkC at h
  split at h
  · cases h
  · split at h
    · rename_i q; cases h; omega
    · cases h
theorem tkW_rng {l m : Int} {L B : List Nat} {z : Int} (h : tkW l m L = some (z, B)) : l ≤ z ∧ z ≤ m := by
  have := (tkW_at h).2
  unfold outB at this
  simp at this
  omega
/-- What readKept answers. -/
def RkPost (R b0 : Nat) (L : List Nat) (w : World) (e : Ending) (w' : World) : Prop := (∃ hi xs B v, tkK L = some (hi, xs, B) ∧ e = .returned v ∧ Own w.heap.size w' v xs ∧ RL w' R b0 B ∧ Pk.Chg [R] w w') ∨ (tkK L = none ∧ Ends R w e w')
set_option maxHeartbeats 8000000 in
set_option maxRecDepth 20000 in
theorem readKept_any (R b0 : Nat) (L : List Nat) (w : World) (h : RL w R b0 L) (hb : b0 ≠ R) (hR : R < w.heap.size) (hb0 : b0 < w.heap.size) :
    Calls Try.prog 34 #[.pointer (some ⟨R, 0, none⟩)] w fun e w' => RkPost R b0 L w e w' := by
  cases h1 : tkW 1 1099511627776 L with
  | none =>
    have HW := hid (within_no R b0 1 1099511627776 L w h hb h1)
    have HM := hid (show tkK L = none from by unfold tkK; rw [h1])
    clear h h1
    unfold Ends Pk.ended at HW
    go_enter Try.func34, Try.ntmps34
    go_wp2_with (go_at_call 33; refine HW.out.mono ?_; rintro e w1 ⟨rfl, r1, c1⟩)
    exact ⟨rfl, .inr ⟨HM.out, rfl, r1, c1⟩⟩
  | some p =>
    obtain ⟨hi, A⟩ := p
    have hhi := tkW_rng h1
    have HW0 := hid (within_at R b0 1 1099511627776 hi L A w h hb h1)
    have lw : IntKind.i64.wrap (hi - 8) = hi - 8 := IntWalk.i64_in _ (by omega)
    cases h2 : tkC 8 A with
    | none =>
      have HM := hid (show tkK L = none from by unfold tkK; rw [h1]; simp only; rw [h2])
      have HCn := hid (fun (W : World) (r : RL W R b0 A) => rdCount_no R b0 8 A W r hb h2)
      unfold Ends Pk.ended at HCn
      clear h h1 h2
      go_enter Try.func34, Try.ntmps34
      go_wp2_with (first | (go_at_call 33; refine HW0.out.mono ?_; rintro e w1 ⟨rfl, r1, c1⟩; have R1 := hid r1; have C1 := hid c1; clear r1 c1) | (go_at_call 32; refine (HCn.out _ R1.out).mono ?_; rintro e w2 ⟨rfl, r2, c2⟩))
      exact ⟨rfl, .inr ⟨HM.out, rfl, r2, C1.out.trans c2⟩⟩
    | some q =>
      obtain ⟨n, B⟩ := q
      have hn8 := tkC8_le h2
      have hmm : (n : Int) ≤ 8 := by omega
      have HM := hid (show tkK L = match tkIs n (max 0 (hi - 8)) hi B with | none => none | some (xs, e, C) => if e = hi then some (hi, xs, C) else none from by unfold tkK; rw [h1]; simp only; rw [h2])
      have HCn := hid (fun (W : World) (r : RL W R b0 A) => rdCount_at R b0 8 n A B W r hb (by omega) h2)
      have HH := hid (And.intro hR hb0)
      clear h h1 h2
      obtain ⟨la0, hla0⟩ : ∃ la0, max 0 (hi - 8) = la0 := ⟨_, rfl⟩
      have hl0 : 0 ≤ la0 ∧ la0 ≤ hi := by omega
      rw [hla0] at HM
      go_enter Try.func34, Try.ntmps34
      go_upto_region 5 with (first | (go_at_call 33; refine HW0.out.mono ?_; rintro e w1 ⟨rfl, r1, c1⟩; have R1 := hid r1; have C1 := hid c1; clear r1 c1) | (go_at_call 32; refine (HCn.out _ R1.out).mono ?_; rintro e w2 ⟨rfl, r2, c2⟩; have R2 := hid r2; have C2 := hid (C1.out.trans c2); clear r2 c2))
      clear HW0 HCn R1 C1
      go_loopw [4, 5, 13] (fun la o i wr => ∃ (j : Nat) (a : Int) (xs : List It) (D : List Nat), j ≤ n ∧ i = .int .i64 (j : Nat) ∧ la = .int .i64 a ∧ (0 ≤ a ∧ a ≤ hi) ∧ OffI n j la0 a hi B D xs ∧ Own w.heap.size wr o xs ∧ RL wr R b0 D ∧ Pk.Chg [R] w wr) (fun _ _ i _ => n - (intOf i).toNat)
      case atStart => exact ⟨0, la0, [], B, Nat.zero_le _, rfl, by first | rw [hla0] | (rw [← hla0]) | (congr 1; omega), hl0, OffI.zero n la0 hi B, Own.nil _ _, R2.out, C2.out⟩
      case round =>
        obtain ⟨j, a, xs, D, hj, rfl, rfl, ha, hof, ho, hr, hc⟩ := hrel
        obtain ⟨pb, cb, e⟩ := ho.len
        have hml := hof.1
        rw [hml] at e
        subst e
        have F := hid hof
        have HO := hid ho
        have HRl := hid hr
        have HCg := hid hc
        clear ho hr hc R2 C2 hof lw hla0
        have HX := hid hml
        clear hml
        by_cases hlt : j < n
        · have l2 : (j : Int) < (n : Int) := by omega
          have lw1 : IntKind.i64.wrap (a + 1) = a + 1 := IntWalk.i64_in _ (by omega)
          cases e1 : tkW (a + 1) hi D with
          | none =>
            have HN := hid (show tkK L = none from by rw [HM.out, F.out.stop1 hlt e1])
            have HW := hid (within_no R b0 (a + 1) hi D wr HRl.out hb e1)
            unfold Ends Pk.ended at HW
            clear e1 HM
            go_wp2_with (go_at_call 33; refine HW.out.mono ?_; rintro e w3 ⟨rfl, r3, c3⟩)
            exact ⟨rfl, .inr ⟨HN.out, rfl, r3, HCg.out.trans c3⟩⟩
          | some p =>
            obtain ⟨z, A'⟩ := p
            have hz := tkW_rng e1
            have HW := hid (within_at R b0 (a + 1) hi z D A' wr HRl.out hb e1)
            have HV0 := hid (fun (W : World) (z1 : R < W.heap.size) (z2 : b0 < W.heap.size) (r : RL W R b0 A') => readVerdict_any R b0 A' W r hb z1 z2)
            cases e2 : tkV A' with
            | none =>
              have HN := hid (show tkK L = none from by rw [HM.out, F.out.stop2 hlt e1 e2])
              have HV := hid (fun (W : World) (z1 : R < W.heap.size) (z2 : b0 < W.heap.size) (r : RL W R b0 A') => (HV0.out W z1 z2 r).mono (R' := fun e w' => e = .panicked (Pk.ended R) ∧ Pk.RF w' R 30 ∧ Pk.Chg [R] W w') (fun e w' q => by
                rcases q with ⟨c, m, B, e3, _⟩ | ⟨_, q⟩
                · rw [e2] at e3; cases e3
                · exact q))
              unfold Pk.ended at HV
              clear e1 e2 HM HV0
              go_wp2_with (first | (go_at_call 33; refine HW.out.mono ?_; rintro e w3 ⟨rfl, r3, c3⟩; have R3 := hid r3; have C3 := hid (HCg.out.trans c3); clear r3 c3) | (go_at_call 55; refine (HV.out _ (by have := C3.out.size; have := HH.out; omega) (by have := C3.out.size; have := HH.out; omega) R3.out).mono ?_; rintro e w4 ⟨rfl, r4, c4⟩))
              exact ⟨rfl, .inr ⟨HN.out, rfl, r4, C3.out.trans c4⟩⟩
            | some q =>
              obtain ⟨⟨vc, vm⟩, D'⟩ := q
              have HF := hid (F.out.step hlt e1 e2)
              have HV := hid (fun (W : World) (z1 : R < W.heap.size) (z2 : b0 < W.heap.size) (r : RL W R b0 A') => (HV0.out W z1 z2 r).mono (R' := fun e w' => e = .returned (.agg #[.int .i64 vc, .int .i64 vm]) ∧ RL w' R b0 D' ∧ Pk.Chg [R] W w') (fun e w' q => by
                rcases q with ⟨c, m, B, e3, q⟩ | ⟨e3, _⟩
                · rw [e2] at e3; cases e3; exact q
                · rw [e2] at e3; cases e3))
              clear e1 e2 HV0 HRl
              go_wp2_with (first | (go_at_call 33; refine HW.out.mono ?_; rintro e w3 ⟨rfl, r3, c3⟩; have R3 := hid r3; have C3 := hid (HCg.out.trans c3); have O3 := hid (HO.out.chgP c3 (fun g e => by have := (World.ownsRow.lt HO.out g e).1; simp; have := HH.out.1; omega)); clear r3 c3) | (go_at_call 55; refine (HV.out _ (by have := C3.out.size; have := HH.out; omega) (by have := C3.out.size; have := HH.out; omega) R3.out).mono ?_; rintro e w4 ⟨rfl, r4, c4⟩; have R4 := hid r4; have C4 := hid (C3.out.trans c4); have O4 := hid (O3.out.chgP c4 (fun g e => by have := (World.ownsRow.lt O3.out g e).1; simp; have := HH.out.1; omega)); clear r4 c4) | (at_builtin; refine wp_appIt rfl (.tmp 20) (.tmp 25) rfl w.heap.size _ xs _ 1 ⟨z, vc, vm⟩ rfl rfl (O4.out.old ((Old.refl _).alloc _)) (by simp) (by simp) (by simp) (by have := HX.out; omega) (by have := C4.out.size; simp; omega) ?_; intro v5 w5 o5 g5 n5; have O5 := hid o5; have G5 := hid g5; clear o5 g5 n5))
              have hbl : ∀ q, (Value.slice pb j cb).ownBlock = some q → w.heap.size ≤ q := fun q e => (World.ownsRow.lt O4.out q e).1
              have CG : Pk.Chg (Value.slice pb j cb).ownBlock.toList w4 w5 := (Pk.Chg.old (S := (Value.slice pb j cb).ownBlock.toList) ((Old.refl w4).alloc _)).trans ⟨G5.out.os, G5.out.tape, G5.out.output, G5.out.size, fun q hq hn => G5.out.block q hq (fun e => hn (by have e2 : (Value.slice pb j cb).ownBlock = some q := e.symm; rw [e2]; simp))⟩
              refine ⟨⟨j + 1, z, _, D', hlt, by go_num, rfl, ⟨by omega, by omega⟩, HF.out, O5.out, R4.out.chg CG (fun e => ?_) (fun e => ?_), C4.out.trans' CG (fun q e => ?_)⟩, by simp [intOf]; omega⟩
              · rw [Option.mem_toList] at e; have := hbl R e; have := HH.out.1; omega
              · rw [Option.mem_toList] at e; have := hbl b0 e; have := HH.out.2; omega
              · rw [Option.mem_toList] at e; exact hbl q e
        · obtain rfl : n = j := by omega
          have HFu := hid F.out.full
          by_cases hae : a = hi
          · subst hae
            have HN := hid (show tkK L = some (a, xs, D) from by rw [HM.out, HFu.out]; simp)
            have hne : (a != a) = false := by simp
            clear HM F HFu
            go_wp2
            go_ret
            exact .inl ⟨a, xs, D, _, HN.out, rfl, HO.out, HRl.out, HCg.out⟩
          · have HN := hid (show tkK L = none from by rw [HM.out, HFu.out]; simp [hae])
            have hne : (a != hi) = true := by rw [bne_iff_ne]; exact hae
            have HFl := hid (fail30 R b0 D wr HRl.out)
            unfold Ends Pk.ended at HFl
            clear HM F HFu
            go_wp2_with (go_at_call 54; refine HFl.out.mono ?_; rintro e w3 ⟨rfl, r3, c3⟩)
            exact ⟨rfl, .inr ⟨HN.out, rfl, r3, HCg.out.trans c3⟩⟩
end Go.Proofs.Ytefffjlcfghniaa
