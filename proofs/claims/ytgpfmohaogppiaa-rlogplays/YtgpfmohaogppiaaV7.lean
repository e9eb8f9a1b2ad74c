/- conf.Load at all bytes; conditions: the bytes lie in memory. -/
import Derived.Test.YtgpfmohaogppiaaV1
import Derived.Test.YtgpfmohaogppiaaPkC
namespace Go.Proofs.Ytgpfmohaogppiaa
open Go.RowKit Go.Lib
set_option linter.unusedVariables false
set_option linter.unusedSimpArgs false
set_option maxRecDepth 20000
def RL (w : World) (R b0 : Nat) (L : List Nat) : Prop := Pk.RB w R b0 L.length (Pk.gd L)
theorem gd_drop (L : List Nat) (k : Nat) : Pk.gd (L.drop k) = Pk.sh k (Pk.gd L) := by
  funext i
  simp [Pk.gd, Pk.sh]
def tkN (L : List Nat) : Option (Int × List Nat) := if Pk.lnK (Pk.gd L) L.length = 0 then none else some (Pk.lnV (Pk.gd L) L.length, L.drop (Pk.lnK (Pk.gd L) L.length))
def tkC (most : Nat) (L : List Nat) : Option (Nat × List Nat) := match tkN L with | none => none | some (z, B) => if 0 ≤ z ∧ z ≤ (most : Int) then some (z.toNat, B) else none
def Ends (R : Nat) (w : World) (e : Ending) (w' : World) : Prop := e = .panicked (Pk.ended R) ∧ Pk.RF w' R 30 ∧ Pk.Chg [R] w w'
theorem RL.drop {w : World} {R b0 k : Nat} {L : List Nat} (h : Pk.RB w R b0 (L.length - k) (Pk.sh k (Pk.gd L))) : RL w R b0 (L.drop k) := by
  unfold RL
  rw [gd_drop, List.length_drop]
  exact h
theorem tkN_none {L : List Nat} (h : tkN L = none) : Pk.lnK (Pk.gd L) L.length = 0 := by
  unfold tkN at h
  split at h
  · assumption
  · cases h
theorem RL.chg {S : List Nat} {w w' : World} {R b0 : Nat} {L : List Nat} (h : RL w R b0 L) (c : Pk.Chg S w w') (hR : R ∉ S) (hb : b0 ∉ S) : RL w' R b0 L := Pk.RB.chg h c hR hb
theorem Pk.Chg.old {S : List Nat} {w w' : World} (h : Old w w') : Pk.Chg S w w' := ⟨h.os, h.tape, h.output, h.size, fun k hk _ => Below.block h k hk⟩
theorem Pk.Chg.cell' {S : List Nat} {w w' : World} (c : Pk.Chg S w w') {p : Addr} {v : Value} (h : w.cell? p = some v) (hn : p.block ∉ S) : w'.cell? p = some v := Pk.Chg.cell c h hn
theorem Pk.Chg.fr {S : List Nat} {w w' : World} (c : Pk.Chg S w w') {p : Addr} {v : Value} (h : w.cell? p = some v) (hf : w.frozen? p = false) (hn : p.block ∉ S) : w'.frozen? p = false := by
  rw [World.frozen?_of_block (w := w) (c.block p.block (World.block_lt_of_cell? w p h) hn)]; exact hf
theorem Pk.Chg.set' (w : World) (p : Addr) (v : Value) : Pk.Chg [p.block] w (w.setCell p v) := ⟨rfl, rfl, rfl, by simp, fun k hk hn => Below.heap_setCell w p v k (fun e => hn (by simp [e]))⟩
theorem Pk.Chg.trans' {S T : List Nat} {a b c : World} (h : Pk.Chg S a b) (k : Pk.Chg T b c) (hT : ∀ j ∈ T, a.heap.size ≤ j) : Pk.Chg S a c := ⟨k.os.trans h.os, k.tape.trans h.tape, k.output.trans h.output, Nat.le_trans h.size k.size, fun i hi hn => (k.block i (Nat.lt_of_lt_of_le hi h.size) (fun e => by have := hT i e; omega)).trans (h.block i hi hn)⟩
set_option maxHeartbeats 400000 in
set_option maxRecDepth 20000 in
theorem rdCount_no (R b0 most : Nat) (L : List Nat) (w : World) (h : RL w R b0 L) (hb : b0 ≠ R) (hn : tkC most L = none) : Calls Try.prog 63 #[.pointer (some ⟨R, 0, none⟩), .int .i64 (most : Int)] w fun e w' => Ends R w e w' := by
  refine Pk.rcount_no R b0 _ _ (most : Int) w h hb ?_
  unfold tkC tkN at hn
  by_cases q : Pk.lnK (Pk.gd L) L.length = 0
  · exact .inl q
  · rw [if_neg q] at hn
    simp only at hn
    split at hn
    · cases hn
    · rename_i k
      right; omega
set_option maxHeartbeats 400000 in
set_option maxRecDepth 20000 in
theorem rdCount_at (R b0 most n : Nat) (L B : List Nat) (w : World) (h : RL w R b0 L) (hb : b0 ≠ R) (hm : most ≤ 1000000) (hn : tkC most L = some (n, B)) : Calls Try.prog 63 #[.pointer (some ⟨R, 0, none⟩), .int .i64 (most : Int)] w fun e w' => e = .returned (.int .i64 (n : Int)) ∧ RL w' R b0 B ∧ Pk.Chg [R] w w' := by
  unfold tkC tkN at hn
  by_cases q : Pk.lnK (Pk.gd L) L.length = 0
  · rw [if_pos q] at hn; cases hn
  · rw [if_neg q] at hn
    simp only at hn
    split at hn
    · rename_i k
      cases hn
      refine (Pk.rcount_ok R b0 _ _ (most : Int) w h hb q k.1 k.2 (by omega)).mono fun e w' p => ⟨?_, RL.drop p.2.1, p.2.2⟩
      rw [p.1, show ((Pk.lnV (Pk.gd L) L.length).toNat : Int) = Pk.lnV (Pk.gd L) L.length by omega]
    · cases hn
set_option maxHeartbeats 400000 in
set_option maxRecDepth 20000 in
def tkCs : Nat → List Nat → Option (List Int × List Nat)
  | 0, L => some ([], L)
  | k + 1, L => match tkC 7 L with
    | none => none
    | some (n, B) => match tkCs k B with
      | none => none
      | some (ns, C) => some ((n : Int) :: ns, C)
theorem tkCs_succ (k : Nat) (L : List Nat) : tkCs (k + 1) L = match tkC 7 L with | none => none | some (n, B) => match tkCs k B with | none => none | some (ns, C) => some ((n : Int) :: ns, C) := rfl
/-- Members taken off bytes. -/
def tkM (L : List Nat) : Option (List Int × List Nat) := match tkC 7 L with | none => none | some (n, B) => tkCs n B
theorem tkC_le {L B : List Nat} {n : Nat} (h : tkC 7 L = some (n, B)) : n ≤ 7 := by
  unfold tkC at h
  split at h
  · cases h
  · split at h
    · rename_i q; cases h; omega
    · cases h
/-- What has been taken off, and what is left to take. -/
def Off (n k : Nat) (B D : List Nat) (ms : List Int) : Prop := ms.length = k ∧ k ≤ n ∧ tkCs n B = match tkCs (n - k) D with | none => none | some (ns, C) => some (ms ++ ns, C)
theorem Off.zero (n : Nat) (B : List Nat) : Off n 0 B B [] := ⟨rfl, Nat.zero_le _, by
  rw [Nat.sub_zero]
  cases tkCs n B with
  | none => rfl
  | some p => rfl⟩
theorem Off.step {n k q : Nat} {B D D' : List Nat} {ms : List Int} (h : Off n k B D ms) (hk : k < n) (e : tkC 7 D = some (q, D')) : Off n (k + 1) B D' (ms ++ [(q : Int)]) := by
  obtain ⟨h1, h2, h3⟩ := h
  refine ⟨by simp [h1], hk, ?_⟩
  rw [h3, show n - k = (n - (k + 1)) + 1 by omega, tkCs_succ, e]
  simp only
  cases tkCs (n - (k + 1)) D' with
  | none => rfl
  | some p => obtain ⟨a, b⟩ := p; simp
theorem Off.stop {n k : Nat} {B D : List Nat} {ms : List Int} (h : Off n k B D ms) (hk : k < n) (e : tkC 7 D = none) : tkCs n B = none := by
  obtain ⟨h1, h2, h3⟩ := h
  rw [h3, show n - k = (n - k - 1) + 1 by omega, tkCs_succ, e]
theorem Off.full {n : Nat} {B D : List Nat} {ms : List Int} (h : Off n n B D ms) : tkCs n B = some (ms, D) := by
  obtain ⟨h1, h2, h3⟩ := h
  rw [h3, Nat.sub_self]
  simp [tkCs]
/-- What readMembers answers. -/
def RmPost (R b0 : Nat) (L : List Nat) (w : World) (e : Ending) (w' : World) : Prop := (∃ ms B v, tkM L = some (ms, B) ∧ e = .returned v ∧ RL w' R b0 B ∧ OwnI w.heap.size w' v ms ∧ ms.length ≤ 7 ∧ Pk.Chg [R] w w') ∨ (tkM L = none ∧ Ends R w e w')
theorem OwnI.chgP {base : Nat} {S : List Nat} {w w' : World} {v : Value} {L : List Int} (h : OwnI base w v L) (u : Pk.Chg S w w') (hn : ∀ g, v.ownBlock = some g → g ∉ S) : OwnI base w' v L := h.chg ⟨u.os, u.tape, u.output, u.size, u.block⟩ hn
set_option maxHeartbeats 4000000 in
set_option maxRecDepth 20000 in
theorem readMembers_any (R b0 : Nat) (L : List Nat) (w : World) (h : RL w R b0 L) (hb : b0 ≠ R) (hR : R < w.heap.size) (hb0 : b0 < w.heap.size) :
    Calls Try.prog 56 #[.pointer (some ⟨R, 0, none⟩)] w fun e w' => RmPost R b0 L w e w' := by
  cases hT : tkC 7 L with
  | none =>
    have HC := hid (rdCount_no R b0 7 L w h hb hT)
    have HM := hid (show tkM L = none from by unfold tkM; rw [hT])
    clear h hT
    unfold Ends at HC
    unfold Pk.ended at HC
    go_enter Try.func56, Try.ntmps56
    go_wp2_with (first | (go_at_call 63; refine HC.out.mono ?_; rintro e w1 ⟨rfl, r1, c1⟩))
    exact ⟨rfl, .inr ⟨HM.out, rfl, r1, c1⟩⟩
  | some p =>
    obtain ⟨n, B⟩ := p
    have HC := hid (rdCount_at R b0 7 n L B w h hb (by omega) hT)
    have hn7 := tkC_le hT
    have HM := hid (show tkM L = tkCs n B from by unfold tkM; rw [hT])
    have hmm : (n : Int) ≤ 7 := by omega
    clear h hT
    go_enter Try.func56, Try.ntmps56
    go_wp2_with (first | (go_at_call 63; refine HC.out.mono ?_; rintro e w1 ⟨rfl, r1, c1⟩; have R1 := hid r1; have C1 := hid c1; clear r1 c1))
    have HH := hid (And.intro hR hb0)
    clear HC
    go_loopw [3, 6] (fun v i wr => ∃ (k : Nat) (D : List Nat) (ms : List Int), k ≤ n ∧ i = .int .i64 (k : Nat) ∧ Off n k B D ms ∧ RL wr R b0 D ∧ OwnI w.heap.size wr v ms ∧ Pk.Chg [R] w wr) (fun _ i _ => n - (intOf i).toNat)
    case atStart => exact ⟨0, B, [], Nat.zero_le _, rfl, Off.zero n B, R1.out, ⟨rfl, .inl ⟨rfl, rfl⟩⟩, C1.out⟩
    case round =>
      obtain ⟨k, D, ms, hk, rfl, hof, hrl, hown, hcg⟩ := hrel
      have F := hid hof
      have O := hid hown
      have U := hid hcg
      obtain ⟨pv, cv, ev⟩ := hown.len
      have hml := hof.1
      rw [hml] at ev
      subst ev
      clear hof hown hcg R1 C1
      by_cases hlt : k < n
      · have l2 : (k : Int) < (n : Int) := by omega
        cases e : tkC 7 D with
        | none =>
          have HN := hid (F.out.stop hlt e)
          have HC := hid (rdCount_no R b0 7 D wr hrl hb e)
          unfold Ends at HC
          unfold Pk.ended at HC
          clear hrl e
          go_wp2_with (first | (go_at_call 63; refine HC.out.mono ?_; rintro e w3 ⟨rfl, r3, c3⟩))
          exact ⟨rfl, .inr ⟨HM.out.trans HN.out, rfl, r3, U.out.trans c3⟩⟩
        | some p =>
          obtain ⟨q, D'⟩ := p
          have HF := hid (F.out.step hlt e)
          have HC := hid (rdCount_at R b0 7 q D D' wr hrl hb (by omega) e)
          clear hrl e
          go_wp2_with (first | (go_at_call 63; refine HC.out.mono ?_; rintro e w3 ⟨rfl, r3, c3⟩; have O3 := hid (O.out.chgP c3 (fun g e => by have := (World.ownsRow.lt O.out g e).1; simp; have := HH.out.1; omega)); have R3 := hid r3; have U3 := hid (U.out.trans c3); clear r3 c3) | (at_builtin; refine wp_appI rfl (.tmp 8) (.tmp 11) rfl w.heap.size _ ms _ 1 (q : Int) rfl rfl (O3.out.up ((Old.refl _).alloc _)) (cell_oneI _ _ _ rfl) (by rw [hml]; omega) (by have := U3.out.size; simp; omega) ?_; intro v4 w4 o4 g4 _; have O4 := hid o4; have G4 := hid g4; clear o4 g4))
          have hbl : ∀ j, (Value.slice pv k cv).ownBlock = some j → w.heap.size ≤ j := fun j e => (World.ownsRow.lt O3.out j e).1
          have CG : Pk.Chg (Value.slice pv k cv).ownBlock.toList w3 w4 := (Pk.Chg.old (S := (Value.slice pv k cv).ownBlock.toList) ((Old.refl w3).alloc _)).trans ⟨G4.out.os, G4.out.tape, G4.out.output, G4.out.size, fun j hj hn => G4.out.block j hj (fun e => hn (by have e2 : (Value.slice pv k cv).ownBlock = some j := e.symm; rw [e2]; simp))⟩
          refine ⟨⟨k + 1, D', ms ++ [(q : Int)], hlt, by go_num, HF.out, R3.out.chg CG (fun e => ?_) (fun e => ?_), O4.out, U3.out.trans' CG (fun j e => ?_)⟩, by simp [intOf]; omega⟩
          · rw [Option.mem_toList] at e; have := hbl R e; have := HH.out.1; omega
          · rw [Option.mem_toList] at e; have := hbl b0 e; have := HH.out.2; omega
          · rw [Option.mem_toList] at e; exact hbl j e
      · obtain rfl : n = k := by omega
        have HFu := hid F.out.full
        go_wp2
        go_ret
        exact .inl ⟨ms, D, _, HM.out.trans HFu.out, rfl, hrl, O.out, by omega, U.out⟩
end Go.Proofs.Ytgpfmohaogppiaa
