/- sess.Load's reader at all bytes; conditions: the Reader lies in memory, alive. -/
import Derived.Test.YtefffjlcfghniaaS17
namespace Go.Proofs.Ytefffjlcfghniaa
open Go.RowKit Go.Lib
set_option linter.unusedVariables false
set_option linter.unusedSimpArgs false
set_option maxRecDepth 20000
/-- Sessions taken off bytes, behind a last one. -/
def tkSs : Nat → Int → List Nat → Option (List (Int × List It) × List Nat)
  | 0, _, L => some ([], L)
  | k + 1, la, L => match tkW (la + 1) 1099511627776 L with
    | none => none
    | some (id, A) => match tkK A with
      | none => none
      | some (_, xs, B) => match tkSs k id B with
        | none => none
        | some (ss, C) => some ((id, xs) :: ss, C)
theorem tkSs_succ (k : Nat) (la : Int) (L : List Nat) : tkSs (k + 1) la L = match tkW (la + 1) 1099511627776 L with | none => none | some (id, A) => match tkK A with | none => none | some (_, xs, B) => match tkSs k id B with | none => none | some (ss, C) => some ((id, xs) :: ss, C) := rfl
/-- A table taken off bytes. -/
def tkT (L : List Nat) : Option (List (Int × List It) × List Nat) := match tkC 16 L with | none => none | some (n, A) => tkSs n 0 A
def tbl (ss : List (Int × List It)) : Int → List It := ss.foldl (fun L p => putL L p.1 p.2) (fun _ => [])
theorem tbl_app (ss : List (Int × List It)) (id : Int) (xs : List It) : tbl (ss ++ [(id, xs)]) = putL (tbl ss) id xs := by simp [tbl]
/-- What has been taken off, and what is left to take. -/
structure OffS (n k : Nat) (la : Int) (B D : List Nat) (ss : List (Int × List It)) : Prop where
  len : ss.length = k
  le : k ≤ n
  eq : tkSs n 0 B = match tkSs (n - k) la D with | none => none | some (ys, C) => some (ss ++ ys, C)
  rng : 0 ≤ la ∧ la ≤ 1099511627776
  low : ∀ p ∈ ss, p.1 ≤ la
theorem OffS.zero (n : Nat) (B : List Nat) : OffS n 0 0 B B [] := ⟨rfl, Nat.zero_le _, by
  rw [Nat.sub_zero]
  cases tkSs n 0 B with
  | none => rfl
  | some p => rfl, by omega, fun p h => by cases h⟩
theorem OffS.step {n k : Nat} {la id hi : Int} {B D A D' : List Nat} {ss : List (Int × List It)} {xs : List It} (h : OffS n k la B D ss) (hk : k < n) (e : tkW (la + 1) 1099511627776 D = some (id, A)) (e2 : tkK A = some (hi, xs, D')) : OffS n (k + 1) id B D' (ss ++ [(id, xs)]) := by
  have hr := tkW_rng e
  have h0 := h.rng
  refine ⟨by simp [h.len], hk, ?_, by omega, fun p hp => ?_⟩
  · rw [h.eq, show n - k = (n - (k + 1)) + 1 by omega, tkSs_succ, e]
    simp only
    rw [e2]
    simp only
    cases tkSs (n - (k + 1)) id D' with
    | none => rfl
    | some p => obtain ⟨a, b⟩ := p; simp
  · rcases List.mem_append.1 hp with q | q
    · have := h.low p q; omega
    · obtain rfl : p = (id, xs) := by simpa using q
      exact Int.le_refl _
theorem OffS.new {n k : Nat} {la id : Int} {B D A : List Nat} {ss : List (Int × List It)} (h : OffS n k la B D ss) (e : tkW (la + 1) 1099511627776 D = some (id, A)) : id ∉ ss.map (·.1) := fun hm => by
  obtain ⟨p, hp, q⟩ := List.mem_map.1 hm
  have := h.low p hp
  have := tkW_rng e
  omega
theorem OffS.stop1 {n k : Nat} {la : Int} {B D : List Nat} {ss : List (Int × List It)} (h : OffS n k la B D ss) (hk : k < n) (e : tkW (la + 1) 1099511627776 D = none) : tkSs n 0 B = none := by
  rw [h.eq, show n - k = (n - k - 1) + 1 by omega, tkSs_succ, e]
theorem OffS.stop2 {n k : Nat} {la id : Int} {B D A : List Nat} {ss : List (Int × List It)} (h : OffS n k la B D ss) (hk : k < n) (e : tkW (la + 1) 1099511627776 D = some (id, A)) (e2 : tkK A = none) : tkSs n 0 B = none := by
  rw [h.eq, show n - k = (n - k - 1) + 1 by omega, tkSs_succ, e]
  simp only
  rw [e2]
theorem OffS.full {n : Nat} {la : Int} {B D : List Nat} {ss : List (Int × List It)} (h : OffS n n la B D ss) : tkSs n 0 B = some (ss, D) := by
  rw [h.eq, Nat.sub_self]
  simp [tkSs]
theorem tkC16_le {L B : List Nat} {n : Nat} (h : tkC 16 L = some (n, B)) : n ≤ 16 := by
  unfold tkC at h
  split at h
  · cases h
  · split at h
    · rename_i q; cases h; omega
    · cases h
/-- What the reader answers. -/
def L1P (R b0 tb mb : Nat) (Bs0 : List Nat) (L : List Nat) (w : World) (e : Ending) (w' : World) : Prop := Pk.Chg [R, mb] w w' ∧ ((∃ ss B Bs, tkT L = some (ss, B) ∧ e = .returned (.tuple #[]) ∧ RL w' R b0 B ∧ TabX w' tb mb Bs (ss.map (·.1)) (tbl ss) ∧ ∀ b ∈ Bs, (b ∈ Bs0 ∨ w.heap.size ≤ b) ∧ b < w'.heap.size) ∨ (tkT L = none ∧ e = .panicked (Pk.ended R) ∧ Pk.RF w' R 30))
theorem wantCall1p {P : Program} {ops : Array Oper} {o : Oper} {a : Act} {w : World} {K : Act → World → Prop} {Q : Exit → Act → World → Prop} {E : Prop} (hw : Region.wanted o (yielded ops a.tmps) = true) (F : FuncId) (x : Operand) (ts : Array TypeId)
    (hop : o.op = Op.call { callee := Callee.value (Operand.func F), args := #[x], argTypes := ts }) (v : Value) (hx : a.eval x = v) (hF : a.eval (Operand.func F) = .func (.func F) #[] #[])
    (henter : (callFunc F #[v]).run P w = .ok (.enter F #[v]) w)
    (hc : Calls P F #[v] w fun e w' => ∃ ps, e = .panicked ps ∧ Q (.panic ps) a w') :
    if Region.wanted o (yielded ops a.tmps) = true then Oper.wp P o a w K Q else E := by
  rw [if_pos hw]
  unfold Oper.wp
  simp [execOp, hop, resolve, invoke, hx, hF, Deferred.ofValue]
  rw [henter]
  refine hc.mono ?_
  rintro e w' ⟨r, rfl, hk⟩
  exact hk
set_option maxHeartbeats 8000000 in
set_option maxRecDepth 20000 in
theorem load1_any (R b0 vb tb mb : Nat) (Bs0 : List Nat) (L : List Nat) (w : World) (h : RL w R b0 L) (hb : b0 ≠ R) (hR : R < w.heap.size) (hb0 : b0 < w.heap.size) (hX : TabX w tb mb Bs0 [] (fun _ => [])) (hv : w.cell? ⟨vb, 0, none⟩ = some (.pointer (some ⟨tb, 0, none⟩))) (hBl : ∀ b ∈ Bs0, b < w.heap.size ∧ b ≠ R ∧ b ≠ b0 ∧ b ≠ vb) (hvR : vb ≠ R) :
    Calls Try.prog 31 #[.pointer (some ⟨R, 0, none⟩), .pointer (some ⟨vb, 0, none⟩)] w fun e w' => L1P R b0 tb mb Bs0 L w e w' := by
  cases hT : tkC 16 L with
  | none =>
    have HC := hid (rdCount_no R b0 16 L w h hb hT)
    have HM := hid (show tkT L = none from by unfold tkT; rw [hT])
    unfold Ends Pk.ended at HC
    clear h hT
    go_enter Try.func31, Try.ntmps31
    go_wp2_with (go_at_call 32; refine HC.out.mono ?_; rintro e w1 ⟨rfl, r1, c1⟩)
    exact ⟨rfl, c3' c1, .inr ⟨HM.out, rfl, r1⟩⟩
  | some q =>
    obtain ⟨sn, A0⟩ := q
    have HC := hid (show Calls Try.prog 32 #[.pointer (some ⟨R, 0, none⟩), .int .i64 ((16 : Nat) : Int)] w _ from rdCount_at R b0 16 sn L A0 w h hb (by omega) hT)
    have HM := hid (show tkT L = tkSs sn 0 A0 from by unfold tkT; rw [hT])
    have hS := tkC16_le hT
    have HX0 := hid hX
    have HV0 := hid hv
    have HBl := hid hBl
    have HH := hid (And.intro hR (And.intro hb0 hvR))
    have hmb : mb ∈ Bs0 ∧ tb ∈ Bs0 := by obtain ⟨M, h1, h2, _⟩ := hX; exact ⟨h2, h1⟩
    have HMb := hid hmb
    have hmm : (sn : Int) ≤ 16 := by omega
    clear h hX hv hBl hmb hT
    go_enter Try.func31, Try.ntmps31
    go_upto_region 2 with (go_at_call 32; refine HC.out.mono ?_; rintro e w1 ⟨rfl, r1, c1⟩; have R1 := hid r1; have C1 := hid c1; clear r1 c1)
    have X1 := hid (HX0.out.chg (chg_ofP C1.out) (fun b hb2 => by have := HBl.out b hb2; simp; exact this.2.1))
    clear HC HX0
    go_loopw [3, 6] (fun la i wr => ∃ (k : Nat) (Bs : List Nat) (lv : Int) (D : List Nat) (ss : List (Int × List It)), k ≤ sn ∧ i = .int .i64 (k : Nat) ∧ la = .int .i64 lv ∧ OffS sn k lv A0 D ss ∧ RL wr R b0 D ∧ Pk.Chg [R, mb] w wr ∧ TabX wr tb mb Bs (ss.map (·.1)) (tbl ss) ∧ ∀ b ∈ Bs, (b ∈ Bs0 ∨ w.heap.size ≤ b) ∧ b < wr.heap.size) (fun _ i _ => sn - (intOf i).toNat)
    case atStart => exact ⟨0, Bs0, 0, A0, [], Nat.zero_le _, rfl, rfl, OffS.zero sn A0, R1.out, c3' C1.out, X1.out, fun b hb2 => ⟨.inl hb2, Nat.lt_of_lt_of_le (HBl.out b hb2).1 C1.out.size⟩⟩
    case round =>
      obtain ⟨k, Bs, la, D, ss, hk, rfl, rfl, hof, hrl, hcg, hx, hbs⟩ := hrel
      have F := hid hof
      have hlr := hof.rng
      have HRl := hid hrl
      have HCg := hid hcg
      have HX' := hid hx
      have HBs := hid hbs
      clear hrl hcg hx hbs R1 C1 X1 hof
      by_cases hlt : k < sn
      · have l2 : (k : Int) < (sn : Int) := by omega
        have lw1 : IntKind.i64.wrap (la + 1) = la + 1 := IntWalk.i64_in _ (by omega)
        cases e1 : tkW (la + 1) 1099511627776 D with
        | none =>
          have HN := hid (show tkT L = none from by rw [HM.out, F.out.stop1 hlt e1])
          have HW := hid (within_no R b0 (la + 1) 1099511627776 D wr HRl.out hb e1)
          unfold Ends Pk.ended at HW
          clear e1 HM
          go_wp2_with (go_at_call 33; refine HW.out.mono ?_; rintro e w3 ⟨rfl, r3, c3⟩)
          exact ⟨rfl, HCg.out.trans (c3' c3), .inr ⟨HN.out, rfl, r3⟩⟩
        | some pp =>
          obtain ⟨id, A⟩ := pp
          have hz := tkW_rng e1
          have HW := hid (within_at R b0 (la + 1) 1099511627776 id D A wr HRl.out hb e1)
          have HIn := hid (F.out.new e1)
          have HNid := hid (show N64 id from ⟨by omega, by omega⟩)
          have HF0 := hid (fun hi xs D' (e2 : tkK A = some (hi, xs, D')) => F.out.step hlt e1 e2)
          have HN0 := hid (fun (e2 : tkK A = none) => show tkT L = none from by rw [HM.out, F.out.stop2 hlt e1 e2])
          clear e1 hz F HRl
          go_upto_region 4 with (go_at_call 33; refine HW.out.mono ?_; rintro e w3 ⟨rfl, r3, c3⟩; have R3 := hid r3; have C3 := hid c3; clear r3 c3)
          have HX := hid (HX'.out.chg (chg_ofP C3.out) (fun b hb2 => by have h1 := HBs.out b hb2; simp; intro e; rcases h1.1 with q | q; exact (HBl.out b q).2.1 e; have := HH.out.1; omega))
          have HS2 := hid (show S2 vb tb mb w3 from ⟨(HCg.out.trans (c3' C3.out)).cell' HV0.out (by simp; exact ⟨HH.out.2.2, fun e => (HBl.out mb HMb.out.1).2.2.2 e.symm⟩), by obtain ⟨M, _, _, _, h4, _⟩ := HX.out; exact h4⟩)
          have HNe := hid (show vb ≠ R ∧ tb ≠ R from ⟨HH.out.2.2, (HBl.out tb HMb.out.2).2.1⟩)
          have HNm := hid (show vb ≠ mb ∧ tb ≠ mb from ⟨fun e => (HBl.out mb HMb.out.1).2.2.2 e.symm, by obtain ⟨M, _, _, h3, _⟩ := HX.out; exact h3⟩)
          have HRn := hid (show ∀ b ∈ Bs, b ∉ [R] from fun b hb2 => by have h1 := HBs.out b hb2; simp; intro e; rcases h1.1 with q | q; exact (HBl.out b q).2.1 e; have := HH.out.1; omega)
          have HZ3 := hid (show wr.heap.size ≤ w3.heap.size ∧ w.heap.size ≤ wr.heap.size from ⟨C3.out.size, HCg.out.size⟩)
          have HFr := hid (show ∀ g, w3.heap.size ≤ g → g ∉ Bs from fun g hg hm => by have := (HBs.out g hm).2; have := HZ3.out; omega)
          have HK0 := hid (fun (W : World) (u : Old w3 W) => readKept_any R b0 A W (R3.out.chg (S := []) (Pk.Chg.old u) (by simp) (by simp)) hb (by have := u.size; have := HZ3.out; have := HH.out; omega) (by have := u.size; have := HZ3.out; have := HH.out; omega))
          cases e2 : tkK A with
          | none =>
            have HN := hid (HN0.out e2)
            have HK := hid (fun (W : World) (u : Old w3 W) => (HK0.out W u).mono (R' := fun e w' => e = .panicked (Pk.ended R) ∧ Pk.RF w' R 30 ∧ Pk.Chg [R] W w') (fun e w' q => by
              rcases q with ⟨hi, xs, B, v, e3, _⟩ | ⟨_, q⟩
              · rw [e2] at e3; cases e3
              · exact q))
            clear e2 HM HN0 HF0 HK0
            refine wp_region_held_drew (S := S2 vb tb mb) (by kernel_rfl) ?_ (fun hHeld => ?_)
            · exact S2.old ((Old.refl w3).drew) HS2.out
            (try simp only [Act.put]); (try simp only [List.setIfInBounds_toArray]); (try simp only [List.set_cons_succ]); (try simp only [List.set_cons_zero])
            clear hHeld
            refine wpAnyH_take (i := 0) (oi := { dst := some 12, op := Op.load 23 (Operand.tmp 1), type := 23, pos := "bytes.go:39", after := #[], guard := none }) (v := ?vk7) rfl (by kernel_rfl) (by kernel_rfl) (by kernel_rfl) (fun _ _ _ h => h) (Or.inl ⟨by rfl, ?hk7⟩) (S2.old ((Old.refl w3).drew) HS2.out) ?rk7
            case hk7 => (intro wz hSw; (try dsimp only at hSw); go_simp; try with_reducible rfl)
            (try simp only [Act.put]); (try simp only [List.setIfInBounds_toArray]); (try simp only [List.set_cons_succ]); (try simp only [List.set_cons_zero])
            refine wpAnyH_take (i := 1) (oi := { dst := some 13, op := Op.nilCheck (Operand.tmp 12), type := 0, pos := "bytes.go:39", after := #[{ on := 0, ground := Ground.data }], guard := none }) (v := ?vk8) rfl (by kernel_rfl) (by kernel_rfl) (by kernel_rfl) (fun _ _ _ h => h) (Or.inl ⟨by rfl, ?hk8⟩) (S2.old ((Old.refl w3).drew) HS2.out) ?rk8
            case hk8 => (intro wz hSw; (try dsimp only at hSw); go_simp; try with_reducible rfl)
            (try simp only [Act.put]); (try simp only [List.setIfInBounds_toArray]); (try simp only [List.set_cons_succ]); (try simp only [List.set_cons_zero])
            refine wpAnyH_take (i := 2) (oi := { dst := some 14, op := Op.fieldAddr 60 (Operand.tmp 13) 0, type := 0, pos := "bytes.go:39", after := #[{ on := 1, ground := Ground.data }], guard := none }) (v := ?vk9) rfl (by kernel_rfl) (by kernel_rfl) (by kernel_rfl) (fun _ _ _ h => h) (Or.inl ⟨by rfl, ?hk9⟩) (S2.old ((Old.refl w3).drew) HS2.out) ?rk9
            case hk9 => (intro wz hSw; (try dsimp only at hSw); go_simp; try with_reducible rfl)
            (try simp only [Act.put]); (try simp only [List.setIfInBounds_toArray]); (try simp only [List.set_cons_succ]); (try simp only [List.set_cons_zero])
            refine wpAnyH_take (i := 3) (oi := { dst := some 15, op := Op.load 58 (Operand.tmp 14), type := 58, pos := "bytes.go:39", after := #[{ on := 2, ground := Ground.data }], guard := none }) (v := ?vk10) rfl (by kernel_rfl) (by kernel_rfl) (by kernel_rfl) (fun _ _ _ h => h) (Or.inl ⟨by rfl, ?hk10⟩) (S2.old ((Old.refl w3).drew) HS2.out) ?rk10
            case hk10 => (intro wz hSw; (try dsimp only at hSw); go_simp; try with_reducible rfl)
            (try simp only [Act.put]); (try simp only [List.setIfInBounds_toArray]); (try simp only [List.set_cons_succ]); (try simp only [List.set_cons_zero])
            refine wpAnyH_take (i := 4) (oi := { dst := some 16, op := Op.move (Operand.tmp 3), type := 2, pos := "bytes.go:39", after := #[], guard := none }) (v := ?vk11) rfl (by kernel_rfl) (by kernel_rfl) (by kernel_rfl) (fun _ _ _ h => h) (Or.inl ⟨by rfl, ?hk11⟩) (S2.old ((Old.refl w3).drew) HS2.out) ?rk11
            case hk11 => (intro wz hSw; (try dsimp only at hSw); go_simp; try with_reducible rfl)
            (try simp only [Act.put]); (try simp only [List.setIfInBounds_toArray]); (try simp only [List.set_cons_succ]); (try simp only [List.set_cons_zero])
            refine wpAnyH_take (i := 5) (oi := { dst := some 17, op := Op.move (Operand.tmp 0), type := 76, pos := "bytes.go:39", after := #[], guard := none }) (v := ?vk12) rfl (by kernel_rfl) (by kernel_rfl) (by kernel_rfl) (fun _ _ _ h => h) (Or.inl ⟨by rfl, ?hk12⟩) (S2.old ((Old.refl w3).drew) HS2.out) ?rk12
            case hk12 => (intro wz hSw; (try dsimp only at hSw); go_simp; try with_reducible rfl)
            (try simp only [Act.put]); (try simp only [List.setIfInBounds_toArray]); (try simp only [List.set_cons_succ]); (try simp only [List.set_cons_zero])
            refine wpAnyH_ready (rs := [6]) (by kernel_rfl) (by simp) ?_
            refine AllReadyH.cons (o := { dst := some 18, op := Op.call { callee := Callee.value (Operand.func 34), args := #[Operand.tmp 17], argTypes := #[76] }, type := 61, pos := "bytes.go:39", after := #[{ on := 5, ground := Ground.data }], guard := none }) rfl (fun K hK => ?_) AllReadyH.nil
            · skip
              refine wantCall1p ?_ 34 (.tmp 17) #[76] ?_ (.pointer (some ⟨R, 0, none⟩)) ?_ ?_ (enters_of Try.func34 (by kernel_rfl) rfl _ _) ?_
              · rfl
              · rfl
              · rfl
              · rfl
              refine (HK.out _ ((Old.refl _).drew)).mono ?_
              rintro o xk ⟨rfl, rk, ck⟩
              refine ⟨_, rfl, ?_⟩
              clear hK K
              have CK := hid ck
              exact ⟨rfl, (HCg.out.trans (c3' C3.out)).trans (c3' CK.out.ofDrew), .inr ⟨HN.out, rfl, rk⟩⟩
          | some pq =>
            obtain ⟨hi, xs, D'⟩ := pq
            have HF := hid (HF0.out hi xs D' e2)
            have HK := hid (fun (W : World) (u : Old w3 W) => (HK0.out W u).mono (R' := fun e w' => ∃ v, e = .returned v ∧ Own W.heap.size w' v xs ∧ RL w' R b0 D' ∧ Pk.Chg [R] W w') (fun e w' q => by
              rcases q with ⟨hi', xs', B, v, e3, q⟩ | ⟨e3, _⟩
              · rw [e2] at e3; cases e3; exact ⟨v, q⟩
              · rw [e2] at e3; cases e3))
            clear e2 HN0 HF0 HK0
            refine wp_region_noPanic ?_
            refine wp_region_held_drew (S := S2 vb tb mb) (by kernel_rfl) ?_ (fun hHeld => ?_)
            · exact S2.old ((Old.refl w3).drew) HS2.out
            (try simp only [Act.put]); (try simp only [List.setIfInBounds_toArray]); (try simp only [List.set_cons_succ]); (try simp only [List.set_cons_zero])
            clear hHeld
            refine wpAnyH_take (i := 0) (oi := { dst := some 12, op := Op.load 23 (Operand.tmp 1), type := 23, pos := "bytes.go:39", after := #[], guard := none }) (v := ?vk1) rfl (by kernel_rfl) (by kernel_rfl) (by kernel_rfl) (fun _ _ _ h => h) (Or.inl ⟨by rfl, ?hk1⟩) (S2.old ((Old.refl w3).drew) HS2.out) ?rk1
            case hk1 => (intro wz hSw; (try dsimp only at hSw); go_simp; try with_reducible rfl)
            (try simp only [Act.put]); (try simp only [List.setIfInBounds_toArray]); (try simp only [List.set_cons_succ]); (try simp only [List.set_cons_zero])
            refine wpAnyH_take (i := 1) (oi := { dst := some 13, op := Op.nilCheck (Operand.tmp 12), type := 0, pos := "bytes.go:39", after := #[{ on := 0, ground := Ground.data }], guard := none }) (v := ?vk2) rfl (by kernel_rfl) (by kernel_rfl) (by kernel_rfl) (fun _ _ _ h => h) (Or.inl ⟨by rfl, ?hk2⟩) (S2.old ((Old.refl w3).drew) HS2.out) ?rk2
            case hk2 => (intro wz hSw; (try dsimp only at hSw); go_simp; try with_reducible rfl)
            (try simp only [Act.put]); (try simp only [List.setIfInBounds_toArray]); (try simp only [List.set_cons_succ]); (try simp only [List.set_cons_zero])
            refine wpAnyH_take (i := 2) (oi := { dst := some 14, op := Op.fieldAddr 60 (Operand.tmp 13) 0, type := 0, pos := "bytes.go:39", after := #[{ on := 1, ground := Ground.data }], guard := none }) (v := ?vk3) rfl (by kernel_rfl) (by kernel_rfl) (by kernel_rfl) (fun _ _ _ h => h) (Or.inl ⟨by rfl, ?hk3⟩) (S2.old ((Old.refl w3).drew) HS2.out) ?rk3
            case hk3 => (intro wz hSw; (try dsimp only at hSw); go_simp; try with_reducible rfl)
            (try simp only [Act.put]); (try simp only [List.setIfInBounds_toArray]); (try simp only [List.set_cons_succ]); (try simp only [List.set_cons_zero])
            refine wpAnyH_take (i := 3) (oi := { dst := some 15, op := Op.load 58 (Operand.tmp 14), type := 58, pos := "bytes.go:39", after := #[{ on := 2, ground := Ground.data }], guard := none }) (v := ?vk4) rfl (by kernel_rfl) (by kernel_rfl) (by kernel_rfl) (fun _ _ _ h => h) (Or.inl ⟨by rfl, ?hk4⟩) (S2.old ((Old.refl w3).drew) HS2.out) ?rk4
            case hk4 => (intro wz hSw; (try dsimp only at hSw); go_simp; try with_reducible rfl)
            (try simp only [Act.put]); (try simp only [List.setIfInBounds_toArray]); (try simp only [List.set_cons_succ]); (try simp only [List.set_cons_zero])
            refine wpAnyH_take (i := 4) (oi := { dst := some 16, op := Op.move (Operand.tmp 3), type := 2, pos := "bytes.go:39", after := #[], guard := none }) (v := ?vk5) rfl (by kernel_rfl) (by kernel_rfl) (by kernel_rfl) (fun _ _ _ h => h) (Or.inl ⟨by rfl, ?hk5⟩) (S2.old ((Old.refl w3).drew) HS2.out) ?rk5
            case hk5 => (intro wz hSw; (try dsimp only at hSw); go_simp; try with_reducible rfl)
            (try simp only [Act.put]); (try simp only [List.setIfInBounds_toArray]); (try simp only [List.set_cons_succ]); (try simp only [List.set_cons_zero])
            refine wpAnyH_take (i := 5) (oi := { dst := some 17, op := Op.move (Operand.tmp 0), type := 76, pos := "bytes.go:39", after := #[], guard := none }) (v := ?vk6) rfl (by kernel_rfl) (by kernel_rfl) (by kernel_rfl) (fun _ _ _ h => h) (Or.inl ⟨by rfl, ?hk6⟩) (S2.old ((Old.refl w3).drew) HS2.out) ?rk6
            case hk6 => (intro wz hSw; (try dsimp only at hSw); go_simp; try with_reducible rfl)
            (try simp only [Act.put]); (try simp only [List.setIfInBounds_toArray]); (try simp only [List.set_cons_succ]); (try simp only [List.set_cons_zero])
            refine wpAnyH_ready (rs := [6]) (by kernel_rfl) (by simp) ?_
            refine AllReadyH.cons (o := { dst := some 18, op := Op.call { callee := Callee.value (Operand.func 34), args := #[Operand.tmp 17], argTypes := #[76] }, type := 61, pos := "bytes.go:39", after := #[{ on := 5, ground := Ground.data }], guard := none }) rfl (fun K hK => ?_) AllReadyH.nil
            · skip
              refine wantCall1 ?_ 34 (.tmp 17) #[76] ?_ (.pointer (some ⟨R, 0, none⟩)) ?_ ?_ (enters_of Try.func34 (by kernel_rfl) rfl _ _) ?_
              · rfl
              · rfl
              · rfl
              · rfl
              refine (HK.out _ ((Old.refl _).drew)).mono ?_
              rintro o xk ⟨vk, rfl, ok, rk, ck⟩
              refine ⟨_, rfl, ?_⟩
              have OK := hid ok
              have RK := hid rk
              have CK := hid ck
              have SK : S2 vb tb mb xk := ⟨ck.cell' HS2.out.1 (by simp; exact HNe.out.1), ck.cell' HS2.out.2 (by simp; exact HNe.out.2)⟩
              clear ok rk ck
              refine hK.out _ _ SK (fun _ => ?_)
              clear hK K
              (try simp only [Act.put]); (try simp only [List.setIfInBounds_toArray]); (try simp only [List.set_cons_succ]); (try simp only [List.set_cons_zero])
              refine wpAnyH_ready (rs := [7]) (by kernel_rfl) (by simp) ?_
              refine AllReadyH.cons (o := { dst := none, op := Op.mapUpdate 58 (Operand.tmp 15) (Operand.tmp 16) (Operand.tmp 18), type := 0, pos := "bytes.go:39", after := #[{ on := 3, ground := Ground.data }, { on := 4, ground := Ground.data }, { on := 6, ground := Ground.data }, { on := 6, ground := Ground.chain }, { on := 0, ground := Ground.phase }, { on := 1, ground := Ground.phase }, { on := 2, ground := Ground.phase }, { on := 3, ground := Ground.phase }, { on := 4, ground := Ground.phase }, { on := 5, ground := Ground.phase }, { on := 6, ground := Ground.phase }], guard := none }) rfl (fun K hK => ?_) AllReadyH.nil
              · skip
                have TK := hid (HX.out.chg (chg_ofP (CK.out.ofDrew)) HRn.out)
                obtain ⟨wm, hrun, hadd, hcm⟩ := TK.out.add HIn.out HNid.out (OK.out.mono0) (fun g e => HFr.out g (by have := (World.ownsRow.lt OK.out g e).1; simpa using this))
                refine stepMapPut ?_ (.tmp 15) (.tmp 16) (.tmp 18) ?_ mb id vk ?_ ?_ ?_ wm hrun ?_
                · rfl
                · rfl
                · rfl
                · rfl
                · rfl
                have HA := hid hadd
                have HCm := hid hcm
                have SM : S2 vb tb mb wm := ⟨hcm.cell SK.1 (by simp; exact HNm.out.1), hcm.cell SK.2 (by simp; exact HNm.out.2)⟩
                clear hadd hcm hrun
                refine hK.out _ _ SM (fun _ => ?_)
                clear hK K
                (try simp only [Act.put]); (try simp only [List.setIfInBounds_toArray]); (try simp only [List.set_cons_succ]); (try simp only [List.set_cons_zero])
                refine wpAnyH_done (by kernel_rfl) ?_ _
                refine NoPanic.normal ?_
                have hmbR := (HBl.out mb HMb.out.1)
                have CZ := hid ((HCg.out.trans (c3' C3.out)).trans ((c3' CK.out.ofDrew).trans (c4' HCm.out)))
                go_wp2
                go_roundw
                case rel =>
                  refine ⟨k + 1, Bs ++ vk.ownBlock.toList, id, D', ss ++ [(id, xs)], hlt, by go_num, rfl, HF.out, RK.out.chg (chg_toP HCm.out) (by simp; exact fun e => hmbR.2.1 e.symm) (by simp; exact fun e => hmbR.2.2.1 e.symm), CZ.out, by rw [tbl_app, List.map_append]; exact HA.out, fun b hb2 => ?_⟩
                  rcases List.mem_append.1 hb2 with q | q
                  · have h1 := HBs.out b q; have h2 := C3.out.size; have h3 := CK.out.ofDrew.size; have h4 := HCm.out.size; exact ⟨h1.1, by omega⟩
                  · rw [Option.mem_toList] at q; have h1 := World.ownsRow.lt OK.out b q; have h2 := HZ3.out; have h4 := HCm.out.size; have h5 : w3.heap.size ≤ b := (by simpa using h1.1); exact ⟨.inr (by omega), by omega⟩
                case measure => simp [intOf]; omega
      · obtain rfl : sn = k := by omega
        have HN := hid (show tkT L = some (ss, D) from HM.out.trans F.out.full)
        clear HM F
        go_wp2
        refine bodyPost_end (v := .tuple #[]) (by simp [results, Try.results31, go_sem]) rfl ⟨HCg.out, .inl ⟨ss, D, Bs, HN.out, rfl, HRl.out, HX'.out, HBs.out⟩⟩
end Go.Proofs.Ytefffjlcfghniaa
