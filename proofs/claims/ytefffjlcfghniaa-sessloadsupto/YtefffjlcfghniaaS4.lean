/- sess' Load where a table's bytes stand; conditions: the bytes lie in memory. -/
import Derived.Test.YtefffjlcfghniaaS3
namespace Go.Proofs.Ytefffjlcfghniaa
open Go.RowKit Go.Lib
set_option linter.unusedVariables false
set_option linter.unusedSimpArgs false
set_option maxRecDepth 20000
/-- A table in memory, its map named. -/
def TabX (w : World) (tb mb : Nat) (Bs : List Nat) (ks : List Int) (L : Int → List It) : Prop :=
  ∃ M, tb ∈ Bs ∧ mb ∈ Bs ∧ tb ≠ mb ∧ w.cell? ⟨tb, 0, none⟩ = some (.map (some mb)) ∧ MapIs w mb M ∧ M.map (·.1) = ks ∧
    (∀ p ∈ M, Own 0 w p.2 (L p.1) ∧ ∀ g, p.2.ownBlock = some g → g ∈ Bs ∧ g ≠ tb ∧ g ≠ mb) ∧
    (∀ p ∈ M, ∀ q ∈ M, p.1 ≠ q.1 → ∀ g, p.2.ownBlock = some g → q.2.ownBlock ≠ some g) ∧ ∀ k, k ∉ ks → L k = []
theorem TabX.tab {w : World} {tb mb : Nat} {Bs : List Nat} {ks : List Int} {L : Int → List It} (h : TabX w tb mb Bs ks L) : TabIs w tb Bs ks L := by
  obtain ⟨M, q⟩ := h
  exact ⟨mb, M, q⟩
theorem TabX.chg {S : List Nat} {w w' : World} {tb mb : Nat} {Bs : List Nat} {ks : List Int} {L : Int → List It} (h : TabX w tb mb Bs ks L) (u : Chg S w w') (hn : ∀ b ∈ Bs, b ∉ S) : TabX w' tb mb Bs ks L := by
  obtain ⟨M, h1, h2, h3, h4, h5, h6, h7, h8⟩ := h
  exact ⟨M, h1, h2, h3, u.cell h4 (hn tb h1), h5.chg u (hn mb h2), h6, fun p hp => ⟨(h7 p hp).1.chg u (fun g e => hn g ((h7 p hp).2 g e).1), (h7 p hp).2⟩, h8⟩
theorem chg_ofP {S : List Nat} {w w' : World} (u : Pk.Chg S w w') : Chg S w w' := ⟨u.os, u.tape, u.output, u.size, u.block⟩
theorem Pk.Chg.ofDrew {S : List Nat} {w w' : World} (u : Pk.Chg S w.drew w') : Pk.Chg S w w' := ⟨u.os, u.tape, u.output, u.size, u.block⟩
theorem c3' {R mb : Nat} {w w' : World} (c : Pk.Chg [R] w w') : Pk.Chg [R, mb] w w' := ⟨c.os, c.tape, c.output, c.size, fun k hk hn => c.block k hk (fun e => hn (by simp at e; simp [e]))⟩
theorem chg_toP {S : List Nat} {w w' : World} (u : Chg S w w') : Pk.Chg S w w' := ⟨u.os, u.tape, u.output, u.size, u.block⟩
theorem c4' {R mb : Nat} {w w' : World} (c : Chg [mb] w w') : Pk.Chg [R, mb] w w' := ⟨c.os, c.tape, c.output, c.size, fun k hk hn => c.block k hk (fun e => hn (by simp at e; simp [e]))⟩
theorem Own.mono0 {base : Nat} {w : World} {v : Value} {L : List It} (h : Own base w v L) : Own 0 w v L := by
  refine ⟨h.1, ?_⟩
  rcases h.2 with e | ⟨g, cap, cur, e, hb', r⟩
  · exact .inl e
  · exact .inr ⟨g, cap, cur, e, Nat.zero_le _, r⟩
/-- One session more. -/
theorem TabX.add {w : World} {tb mb : Nat} {Bs : List Nat} {ks : List Int} {L : Int → List It} {s : Int} {T : List It} {v : Value} (h : TabX w tb mb Bs ks L) (hs : s ∉ ks) (hN : N64 s) (o : Own 0 w v T) (hg : ∀ g, v.ownBlock = some g → g ∉ Bs) :
    ∃ w', (Instr.mapUpdate 58 (.map (some mb)) (.int .i64 s) v).run Try.prog w = .ok () w' ∧ TabX w' tb mb (Bs ++ v.ownBlock.toList) (ks ++ [s]) (putL L s T) ∧ Chg [mb] w w' := by
  obtain ⟨M, h1, h2, h3, h4, h5, h6, h7, h8, h9⟩ := h
  obtain ⟨w', q1, q2, q3, q4⟩ := h5.put hN v
  have hne : ∀ p ∈ M, p.1 ≠ s := fun p hp e => hs (by rw [← h6, ← e]; exact List.mem_map_of_mem hp)
  rw [mput_new hne] at q2
  have vne : ∀ g, v.ownBlock = some g → g ≠ tb ∧ g ≠ mb := fun g e => ⟨fun q => hg g e (q ▸ h1), fun q => hg g e (q ▸ h2)⟩
  refine ⟨w', q1, ⟨M ++ [(s, v)], List.mem_append_left _ h1, List.mem_append_left _ h2, h3, q3.cell h4 (by simpa using h3), q2, by rw [List.map_append, h6]; rfl, ?_, ?_, ?_⟩, q3⟩
  · intro p hp
    rcases List.mem_append.1 hp with hp | hp
    · refine ⟨?_, fun g e => ⟨List.mem_append_left _ ((h7 p hp).2 g e).1, ((h7 p hp).2 g e).2⟩⟩
      unfold putL
      rw [if_neg (hne p hp)]
      exact (h7 p hp).1.chg q3 (fun g e => by have := ((h7 p hp).2 g e).2.2; simpa using this)
    · obtain rfl : p = (s, v) := by simpa using hp
      refine ⟨?_, fun g e => ⟨List.mem_append_right _ (by rw [Option.mem_toList]; exact e), vne g e⟩⟩
      unfold putL
      rw [if_pos rfl]
      exact o.chg q3 (fun g e => by have := (vne g e).2; simpa using this)
  · intro p hp q hq hpq g e1 e2
    rcases List.mem_append.1 hp with hp | hp <;> rcases List.mem_append.1 hq with hq | hq
    · exact h8 p hp q hq hpq g e1 e2
    · obtain rfl : q = (s, v) := by simpa using hq
      exact hg g e2 ((h7 p hp).2 g e1).1
    · obtain rfl : p = (s, v) := by simpa using hp
      exact hg g e1 ((h7 q hq).2 g e2).1
    · obtain rfl : p = (s, v) := by simpa using hp
      obtain rfl : q = (s, v) := by simpa using hq
      exact hpq rfl
  · intro k hk
    rw [List.mem_append, not_or] at hk
    unfold putL
    rw [if_neg (fun e => hk.2 (by rw [e]; simp))]
    exact h9 k hk.1
abbrev S2 (vb tb mb : Nat) : World → Prop := fun wz => wz.cell? ⟨vb, 0, none⟩ = some (.pointer (some ⟨tb, 0, none⟩)) ∧ wz.cell? ⟨tb, 0, none⟩ = some (.map (some mb))
theorem S2.old {vb tb mb : Nat} {w w' : World} (u : Old w w') (h : S2 vb tb mb w) : S2 vb tb mb w' := ⟨u.keep h.1, u.keep h.2⟩
/-- What is read of the first so many sessions. -/
def LT (L : Int → List It) (S : List Int) (k : Nat) : Int → List It := fun id => if id ∈ S.take k then L id else []
def lastK (S : List Int) (k : Nat) : Int := if k = 0 then 0 else S.getD (k - 1) 0
def restB (L : Int → List It) (S : List Int) (k : Nat) : List Nat := numB ((S.drop k).flatMap (secN L))
theorem restB_step (L : Int → List It) (S : List Int) (k : Nat) (h : k < S.length) : restB L S k = Pk.numL (S.getD k 0) ++ (Pk.numL (hiL (L (S.getD k 0))) ++ (Pk.numL (((L (S.getD k 0)).length : Nat) : Int) ++ (numB (itN (L (S.getD k 0))) ++ restB L S (k + 1)))) := by
  have e : S.getD k 0 = S[k] := by rw [List.getD_eq_getElem?_getD, List.getElem?_eq_getElem h]; rfl
  rw [e]
  unfold restB
  rw [List.drop_eq_getElem_cons h, List.flatMap_cons, numB_app]
  unfold secN
  rw [numB_app]
  simp [numB_cons, numB, List.append_assoc]
theorem LT_step (L : Int → List It) (S : List Int) (k : Nat) (h : k < S.length) : putL (LT L S k) (S.getD k 0) (L (S.getD k 0)) = LT L S (k + 1) := by
  have e : S.getD k 0 = S[k] := by rw [List.getD_eq_getElem?_getD, List.getElem?_eq_getElem h]; rfl
  funext id
  unfold putL LT
  rw [List.take_succ_eq_append_getElem h, e]
  by_cases q : id = S[k]
  · rw [if_pos q, if_pos (List.mem_append_right _ (by rw [q]; exact List.mem_singleton.2 rfl)), q]
  · rw [if_neg q]
    by_cases r : id ∈ S.take k
    · rw [if_pos r, if_pos (List.mem_append_left _ r)]
    · rw [if_neg r, if_neg (by rw [List.mem_append, not_or]; exact ⟨r, by simpa using q⟩)]
theorem take_get (S : List Int) (k : Nat) (h : k < S.length) : S.take (k + 1) = S.take k ++ [S.getD k 0] := by
  rw [List.take_succ_eq_append_getElem h, List.getD_eq_getElem?_getD, List.getElem?_eq_getElem h]
  rfl
theorem last_step {S : List Int} (hp : S.Pairwise (· < ·)) (hr : ∀ z ∈ S, 1 ≤ z ∧ z ≤ 1099511627776) (k : Nat) (h : k < S.length) : lastK S k + 1 ≤ S.getD k 0 ∧ lastK S (k + 1) = S.getD k 0 ∧ (0 ≤ lastK S k ∧ lastK S k ≤ 1099511627776) ∧ (1 ≤ S.getD k 0 ∧ S.getD k 0 ≤ 1099511627776) ∧ S.getD k 0 ∉ S.take k := by
  have g : ∀ i, (hi : i < S.length) → S.getD i 0 = S[i] := fun i hi => by rw [List.getD_eq_getElem?_getD, List.getElem?_eq_getElem hi]; rfl
  have h1 := hr S[k] (List.getElem_mem h)
  rw [g k h]
  have hn : S[k] ∉ S.take k := fun hm => by
    obtain ⟨i, hi, e⟩ := List.getElem_of_mem hm
    rw [List.length_take] at hi
    rw [List.getElem_take] at e
    have := List.pairwise_iff_getElem.1 hp i k (by omega) h (by omega)
    omega
  unfold lastK
  by_cases e : k = 0
  · subst e
    simp only [if_true, Nat.zero_add]
    rw [if_neg (by omega), Nat.sub_self, g 0 h]
    exact ⟨by omega, rfl, by omega, h1, hn⟩
  · rw [if_neg e, if_neg (by omega), Nat.add_sub_cancel, g k h, g (k - 1) (by omega)]
    have h2 := hr S[k - 1] (List.getElem_mem (by omega))
    have := List.pairwise_iff_getElem.1 hp (k - 1) k (by omega) h (by omega)
    exact ⟨by omega, rfl, by omega, h1, hn⟩
theorem wantCall1 {P : Program} {ops : Array Oper} {o : Oper} {a : Act} {w : World} {K : Act → World → Prop} {Q : Exit → Act → World → Prop} {E : Prop} (hw : Region.wanted o (yielded ops a.tmps) = true) (F : FuncId) (x : Operand) (ts : Array TypeId)
    (hop : o.op = Op.call { callee := Callee.value (Operand.func F), args := #[x], argTypes := ts }) (v : Value) (hx : a.eval x = v) (hF : a.eval (Operand.func F) = .func (.func F) #[] #[])
    (henter : (callFunc F #[v]).run P w = .ok (.enter F #[v]) w)
    (hc : Calls P F #[v] w fun e w' => ∃ r, e = .returned r ∧ K (a.put o.dst r) w') :
    if Region.wanted o (yielded ops a.tmps) = true then Oper.wp P o a w K Q else E := by
  rw [if_pos hw]
  unfold Oper.wp
  simp [execOp, hop, resolve, invoke, hx, hF, Deferred.ofValue]
  rw [henter]
  refine hc.mono ?_
  rintro e w' ⟨r, rfl, hk⟩
  exact hk
set_option maxHeartbeats 8000000 in
set_option maxRecDepth 20000 in
theorem load1_ok (R b0 vb tb mb : Nat) (Bs0 : List Nat) (L : Int → List It) (S : List Int) (w : World) (h : RL w R b0 (numB (tabN L S S.length))) (hb : b0 ≠ R) (hR : R < w.heap.size) (hb0 : b0 < w.heap.size) (hX : TabX w tb mb Bs0 [] (fun _ => [])) (hv : w.cell? ⟨vb, 0, none⟩ = some (.pointer (some ⟨tb, 0, none⟩))) (hBl : ∀ b ∈ Bs0, b < w.heap.size ∧ b ≠ R ∧ b ≠ b0 ∧ b ≠ vb) (hvR : vb ≠ R) (hS : S.length ≤ 16) (hp : S.Pairwise (· < ·)) (hr : ∀ z ∈ S, 1 ≤ z ∧ z ≤ 1099511627776) (hK : ∀ z ∈ S, Kp (L z)) :
    Calls Try.prog 31 #[.pointer (some ⟨R, 0, none⟩), .pointer (some ⟨vb, 0, none⟩)] w fun e w' => e = .returned (.tuple #[]) ∧ RL w' R b0 [] ∧ Pk.Chg [R, mb] w w' ∧ ∃ Bs, TabX w' tb mb Bs S (LT L S S.length) ∧ ∀ b ∈ Bs, (b ∈ Bs0 ∨ w.heap.size ≤ b) ∧ b < w'.heap.size := by
  have HC := hid (show Calls Try.prog 32 #[.pointer (some ⟨R, 0, none⟩), .int .i64 ((16 : Nat) : Int)] w _ from rdCount_at R b0 16 S.length _ (restB L S 0) w h hb (by omega) (by
    unfold tabN
    rw [List.take_length, numB_cons]
    unfold tkC
    rw [tkN_at _ ⟨by omega, by omega⟩]
    simp only
    rw [if_pos ⟨by omega, by omega⟩]
    simp [restB]))
  have HSt := hid (fun k hk => last_step hp hr k hk)
  have HRs := hid (fun k hk => restB_step L S k hk)
  have HLt := hid (fun k hk => LT_step L S k hk)
  have HTg := hid (fun k hk => take_get S k hk)
  have HKp := hid (fun k (hk : k < S.length) => hK (S.getD k 0) (by rw [List.getD_eq_getElem?_getD, List.getElem?_eq_getElem hk]; exact List.getElem_mem hk))
  have HL0 := hid (show LT L S 0 = fun _ => [] from by funext id; simp [LT])
  have HR0 := hid (show restB L S S.length = [] from by simp [restB, numB])
  have HX0 := hid hX
  have HV0 := hid hv
  have HBl := hid hBl
  have HH := hid (And.intro hR (And.intro hb0 hvR))
  have HWi := hid (fun (z l : Int) (C : List Nat) (W : World) (hz : N64 z) (r : RL W R b0 (Pk.numL z ++ C)) (hl : l ≤ z ∧ z ≤ 1099511627776) => within_ok R b0 l 1099511627776 z C W hz r hb hl)
  have HTn := hid (List.take_length (l := S))
  have hmb : mb ∈ Bs0 ∧ tb ∈ Bs0 := by obtain ⟨M, h1, h2, _⟩ := hX; exact ⟨h2, h1⟩
  have HMb := hid hmb
  have hmm : ((S.length : Nat) : Int) ≤ 16 := by omega
  clear h hX hv hBl hp hr hK hmb
  obtain ⟨sn, hsn⟩ : ∃ sn, S.length = sn := ⟨_, rfl⟩
  rw [hsn] at HC HSt HRs HLt HTg HKp HR0 HTn hmm hS ⊢
  clear hsn
  go_enter Try.func31, Try.ntmps31
  go_upto_region 2 with (go_at_call 32; refine HC.out.mono ?_; rintro e w1 ⟨rfl, r1, c1⟩; have R1 := hid r1; have C1 := hid c1; clear r1 c1)
  have X1 := hid (HX0.out.chg (chg_ofP C1.out) (fun b hb2 => by have := HBl.out b hb2; simp; exact this.2.1))
  clear HC HX0
  go_loopw [3, 6] (fun la i wr => ∃ (k : Nat) (Bs : List Nat), k ≤ sn ∧ i = .int .i64 (k : Nat) ∧ la = .int .i64 (lastK S k) ∧ RL wr R b0 (restB L S k) ∧ Pk.Chg [R, mb] w wr ∧ TabX wr tb mb Bs (S.take k) (LT L S k) ∧ ∀ b ∈ Bs, (b ∈ Bs0 ∨ w.heap.size ≤ b) ∧ b < wr.heap.size) (fun _ i _ => sn - (intOf i).toNat)
  case atStart => exact ⟨0, Bs0, Nat.zero_le _, rfl, rfl, R1.out, ⟨C1.out.os, C1.out.tape, C1.out.output, C1.out.size, fun k hk hn => C1.out.block k hk (fun e => hn (by simp at e; simp [e]))⟩, by rw [HL0.out]; exact X1.out, fun b hb2 => ⟨.inl hb2, Nat.lt_of_lt_of_le (HBl.out b hb2).1 C1.out.size⟩⟩
  case round =>
    obtain ⟨k, Bs, hk, rfl, rfl, hrl, hcg, hx, hbs⟩ := hrel
    have HRl := hid hrl
    have HCg := hid hcg
    have HX' := hid hx
    have HBs := hid hbs
    clear hrl hcg hx hbs R1 C1 X1
    by_cases hlt : k < sn
    · obtain ⟨s1, s2, s3, s4, s5⟩ := HSt.out k hlt
      have l2 : (k : Int) < (sn : Int) := by omega
      have lw1 : IntKind.i64.wrap (lastK S k + 1) = lastK S k + 1 := IntWalk.i64_in _ (by omega)
      have hD := HRs.out k hlt
      rw [hD] at HRl
      have HW := hid (HWi.out (S.getD k 0) (lastK S k + 1) _ wr ⟨by omega, by omega⟩ HRl.out ⟨s1, s4.2⟩)
      have HIn := hid s5
      have HNid := hid (show N64 (S.getD k 0) from ⟨by omega, by omega⟩)
      have HKk := hid (HKp.out k hlt)
      have HLtk := hid (HLt.out k hlt)
      have HTgk := hid (HTg.out k hlt)
      have HLs := hid s2
      clear HSt HRs HLt HTg HKp HWi HRl hD s1 s2 s3 s4 s5
      generalize S.getD k 0 = id at *
      generalize hla : lastK S k = la at *
      clear hla
      go_upto_region 4 with (go_at_call 33; refine HW.out.mono ?_; rintro e w3 ⟨rfl, r3, c3⟩; have R3 := hid r3; have C3 := hid c3; clear r3 c3)
      have HX := hid (HX'.out.chg (chg_ofP C3.out) (fun b hb2 => by have h1 := HBs.out b hb2; simp; intro e; rcases h1.1 with q | q; exact (HBl.out b q).2.1 e; have := HH.out.1; omega))
      have HS2 := hid (show S2 vb tb mb w3 from ⟨(HCg.out.trans (c3' C3.out)).cell' HV0.out (by simp; exact ⟨HH.out.2.2, fun e => (HBl.out mb HMb.out.1).2.2.2 e.symm⟩), by obtain ⟨M, _, _, _, h4, _⟩ := HX.out; exact h4⟩)
      have HNe := hid (show vb ≠ R ∧ tb ≠ R from ⟨HH.out.2.2, (HBl.out tb HMb.out.2).2.1⟩)
      have HNm := hid (show vb ≠ mb ∧ tb ≠ mb from ⟨fun e => (HBl.out mb HMb.out.1).2.2.2 e.symm, by obtain ⟨M, _, _, h3, _⟩ := HX.out; exact h3⟩)
      have HRn := hid (show ∀ b ∈ Bs, b ∉ [R] from fun b hb2 => by have h1 := HBs.out b hb2; simp; intro e; rcases h1.1 with q | q; exact (HBl.out b q).2.1 e; have := HH.out.1; omega)
      have HZ3 := hid (show wr.heap.size ≤ w3.heap.size ∧ w.heap.size ≤ wr.heap.size from ⟨C3.out.size, HCg.out.size⟩)
      have HFr := hid (show ∀ g, w3.heap.size ≤ g → g ∉ Bs from fun g hg hm => by have := (HBs.out g hm).2; have := HZ3.out; omega)
      have HK := hid (fun (W : World) (u : Old w3 W) => readKept_ok R b0 (L id) (restB L S (k + 1)) W (R3.out.chg (S := []) (Pk.Chg.old u) (by simp) (by simp)) hb (by have := u.size; have := HZ3.out; have := HH.out; omega) (by have := u.size; have := HZ3.out; have := HH.out; omega) HKk.out)
      refine wp_region_noPanic ?_
      refine wp_region_held_drew (S := S2 vb tb mb) (by kernel_rfl) ?_ (fun hHeld => ?_)
      · exact S2.old ((Old.refl w3).drew) HS2.out
      (try simp only [Act.put]); (try simp only [List.setIfInBounds_toArray]); (try simp only [List.set_cons_succ]); (try simp only [List.set_cons_zero])
      clear hHeld
      refine wpAnyH_take (i := 0) (oi := { dst := some 12, op := Op.load 23 (Operand.tmp 1), type := 23, pos := "bytes.go:39", after := #[], guard := none }) (v := ?vk1) rfl (by kernel_rfl) (by kernel_rfl) (by kernel_rfl) (fun _ _ _ h => h) (Or.inl ⟨by rfl, ?hk1⟩) (S2.old ((Old.refl w3).drew) HS2.out) ?rk1
      case hk1 => (intro wz hSw; (try dsimp only at hSw); go_simp; try with_reducible rfl)
      (try simp only [Act.put]); (try simp only [List.setIfInBounds_toArray]); (try simp only [List.set_cons_succ]); (try simp only [List.set_cons_zero])
      refine wpAnyH_take (i := 1) (oi := { dst := some 13, op := Op.nilCheck (Operand.tmp 12), type := 0, pos := "bytes.go:39", after := #[{ on := 0, ground := Ground.data }], guard := none }) (v := ?vk2) rfl (by kernel_rfl) (by kernel_rfl) (by kernel_rfl) (fun _ _ _ h => h) (Or.inl ⟨by rfl, ?hk2⟩) (S2.old ((Old.refl w3).drew) HS2.out) ?rk2
      case hk2 => (intro wz hSw; (try dsimp only at hSw); go_simp; try with_reducible rfl)
      (try simp only [Act.put]); (try simp only [List.setIfInBounds_toArray]); (try simp only [List.set_cons_succ]); (try simp only [List.set_cons_zero])
      refine wpAnyH_take (i := 2) (oi := { dst := some 14, op := Op.fieldAddr 60 (Operand.tmp 13) 0, type := 0, pos := "bytes.go:39", after := #[{ on := 1, ground := Ground.data }], guard := none }) (v := ?vk3) rfl (by kernel_rfl) (by kernel_rfl) (by kernel_rfl) (fun _ _ _ h => h) (Or.inl ⟨by rfl, ?hk3⟩) (S2.old ((Old.refl w3).drew) HS2.out) ?rk3
      case hk3 => (intro wz hSw; (try dsimp only at hSw); go_simp; try with_reducible rfl)
      (try simp only [Act.put]); (try simp only [List.setIfInBounds_toArray]); (try simp only [List.set_cons_succ]); (try simp only [List.set_cons_zero])
      refine wpAnyH_take (i := 3) (oi := { dst := some 15, op := Op.load 58 (Operand.tmp 14), type := 58, pos := "bytes.go:39", after := #[{ on := 2, ground := Ground.data }], guard := none }) (v := ?vk4) rfl (by kernel_rfl) (by kernel_rfl) (by kernel_rfl) (fun _ _ _ h => h) (Or.inl ⟨by rfl, ?hk4⟩) (S2.old ((Old.refl w3).drew) HS2.out) ?rk4
      case hk4 => (intro wz hSw; (try dsimp only at hSw); go_simp; try with_reducible rfl)
      (try simp only [Act.put]); (try simp only [List.setIfInBounds_toArray]); (try simp only [List.set_cons_succ]); (try simp only [List.set_cons_zero])
      refine wpAnyH_take (i := 4) (oi := { dst := some 16, op := Op.move (Operand.tmp 3), type := 2, pos := "bytes.go:39", after := #[], guard := none }) (v := ?vk5) rfl (by kernel_rfl) (by kernel_rfl) (by kernel_rfl) (fun _ _ _ h => h) (Or.inl ⟨by rfl, ?hk5⟩) (S2.old ((Old.refl w3).drew) HS2.out) ?rk5
      case hk5 => (intro wz hSw; (try dsimp only at hSw); go_simp; try with_reducible rfl)
      (try simp only [Act.put]); (try simp only [List.setIfInBounds_toArray]); (try simp only [List.set_cons_succ]); (try simp only [List.set_cons_zero])
      refine wpAnyH_take (i := 5) (oi := { dst := some 17, op := Op.move (Operand.tmp 0), type := 76, pos := "bytes.go:39", after := #[], guard := none }) (v := ?vk6) rfl (by kernel_rfl) (by kernel_rfl) (by kernel_rfl) (fun _ _ _ h => h) (Or.inl ⟨by rfl, ?hk6⟩) (S2.old ((Old.refl w3).drew) HS2.out) ?rk6
      case hk6 => (intro wz hSw; (try dsimp only at hSw); go_simp; try with_reducible rfl)
      (try simp only [Act.put]); (try simp only [List.setIfInBounds_toArray]); (try simp only [List.set_cons_succ]); (try simp only [List.set_cons_zero])
      refine wpAnyH_ready (rs := [6]) (by kernel_rfl) (by simp) ?_
      refine AllReadyH.cons (o := { dst := some 18, op := Op.call { callee := Callee.value (Operand.func 34), args := #[Operand.tmp 17], argTypes := #[76] }, type := 61, pos := "bytes.go:39", after := #[{ on := 5, ground := Ground.data }], guard := none }) rfl (fun K hK => ?_) AllReadyH.nil
      · skip
        refine wantCall1 ?_ 34 (.tmp 17) #[76] ?_ (.pointer (some ⟨R, 0, none⟩)) ?_ ?_ (enters_of Try.func34 (by kernel_rfl) rfl _ _) ?_
        · rfl
        · rfl
        · rfl
        · rfl
        refine (HK.out _ ((Old.refl _).drew)).mono ?_
        rintro o xk ⟨vk, rfl, ok, rk, ck⟩
        refine ⟨_, rfl, ?_⟩
        have OK := hid ok
        have RK := hid rk
        have CK := hid ck
        have SK : S2 vb tb mb xk := ⟨ck.cell' HS2.out.1 (by simp; exact HNe.out.1), ck.cell' HS2.out.2 (by simp; exact HNe.out.2)⟩
        clear ok rk ck
        refine hK.out _ _ SK (fun _ => ?_)
        clear hK K
        (try simp only [Act.put]); (try simp only [List.setIfInBounds_toArray]); (try simp only [List.set_cons_succ]); (try simp only [List.set_cons_zero])
        refine wpAnyH_ready (rs := [7]) (by kernel_rfl) (by simp) ?_
        refine AllReadyH.cons (o := { dst := none, op := Op.mapUpdate 58 (Operand.tmp 15) (Operand.tmp 16) (Operand.tmp 18), type := 0, pos := "bytes.go:39", after := #[{ on := 3, ground := Ground.data }, { on := 4, ground := Ground.data }, { on := 6, ground := Ground.data }, { on := 6, ground := Ground.chain }, { on := 0, ground := Ground.phase }, { on := 1, ground := Ground.phase }, { on := 2, ground := Ground.phase }, { on := 3, ground := Ground.phase }, { on := 4, ground := Ground.phase }, { on := 5, ground := Ground.phase }, { on := 6, ground := Ground.phase }], guard := none }) rfl (fun K hK => ?_) AllReadyH.nil
        · skip
          have TK := hid (HX.out.chg (chg_ofP (CK.out.ofDrew)) HRn.out)
          obtain ⟨wm, hrun, hadd, hcm⟩ := TK.out.add HIn.out HNid.out (OK.out.mono0) (fun g e => HFr.out g (by have := (World.ownsRow.lt OK.out g e).1; simpa using this))
          refine stepMapPut ?_ (.tmp 15) (.tmp 16) (.tmp 18) ?_ mb id vk ?_ ?_ ?_ wm hrun ?_
          · rfl
          · rfl
          · rfl
          · rfl
          · rfl
          have HA := hid hadd
          have HCm := hid hcm
          have SM : S2 vb tb mb wm := ⟨hcm.cell SK.1 (by simp; exact HNm.out.1), hcm.cell SK.2 (by simp; exact HNm.out.2)⟩
          clear hadd hcm hrun
          refine hK.out _ _ SM (fun _ => ?_)
          clear hK K
          (try simp only [Act.put]); (try simp only [List.setIfInBounds_toArray]); (try simp only [List.set_cons_succ]); (try simp only [List.set_cons_zero])
          refine wpAnyH_done (by kernel_rfl) ?_ _
          refine NoPanic.normal ?_
          have hmbR := (HBl.out mb HMb.out.1)
          have CZ := hid ((HCg.out.trans (c3' C3.out)).trans ((c3' CK.out.ofDrew).trans (c4' HCm.out)))
          go_wp2
          go_roundw
          case rel =>
            refine ⟨k + 1, Bs ++ vk.ownBlock.toList, hlt, by go_num, by rw [HLs.out], RK.out.chg (chg_toP HCm.out) (by simp; exact fun e => hmbR.2.1 e.symm) (by simp; exact fun e => hmbR.2.2.1 e.symm), CZ.out, by rw [HTgk.out, ← HLtk.out]; exact HA.out, fun b hb2 => ?_⟩
            rcases List.mem_append.1 hb2 with q | q
            · have h1 := HBs.out b q; have h2 := C3.out.size; have h3 := CK.out.ofDrew.size; have h4 := HCm.out.size; exact ⟨h1.1, by omega⟩
            · rw [Option.mem_toList] at q; have h1 := World.ownsRow.lt OK.out b q; have h2 := HZ3.out; have h4 := HCm.out.size; have h5 : w3.heap.size ≤ b := (by simpa using h1.1); exact ⟨.inr (by omega), by omega⟩
          case measure => simp [intOf]; omega
    · obtain rfl : k = sn := by omega
      rw [HR0.out] at HRl
      rw [HTn.out] at HX'
      clear HSt HRs HLt HTg HKp HWi
      go_wp2
      refine bodyPost_end (v := .tuple #[]) (by simp [results, Try.results31, go_sem]) rfl ⟨rfl, HRl.out, HCg.out, Bs, HX'.out, HBs.out⟩
end Go.Proofs.Ytefffjlcfghniaa
