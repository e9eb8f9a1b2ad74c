/- sess' readers where a table's bytes stand; conditions: the Reader lies in memory, alive. -/
import Derived.Test.YtefffjlcfghniaaS2
namespace Go.Proofs.Ytefffjlcfghniaa
open Go.RowKit Go.Lib
set_option linter.unusedVariables false
set_option linter.unusedSimpArgs false
set_option maxRecDepth 20000
def RL (w : World) (R b0 : Nat) (L : List Nat) : Prop := Pk.RB w R b0 L.length (Pk.gd L)
theorem gd_drop (L : List Nat) (k : Nat) : Pk.gd (L.drop k) = Pk.sh k (Pk.gd L) := by
  funext i
  simp [Pk.gd, Pk.sh]
def tkN (L : List Nat) : Option (Int × List Nat) := if Pk.lnK (Pk.gd L) L.length = 0 then none else some (Pk.lnV (Pk.gd L) L.length, L.drop (Pk.lnK (Pk.gd L) L.length))
def tkC (most : Nat) (L : List Nat) : Option (Nat × List Nat) := match tkN L with | none => none | some (z, B) => if 0 ≤ z ∧ z ≤ (most : Int) then some (z.toNat, B) else none
def Ends (R : Nat) (w : World) (e : Ending) (w' : World) : Prop := e = .panicked (Pk.ended R) ∧ Pk.RF w' R 30 ∧ Pk.Chg [R] w w'
theorem RL.drop {w : World} {R b0 k : Nat} {L : List Nat} (h : Pk.RB w R b0 (L.length - k) (Pk.sh k (Pk.gd L))) : RL w R b0 (L.drop k) := by
  unfold RL
  rw [gd_drop, List.length_drop]
  exact h
theorem tkN_none {L : List Nat} (h : tkN L = none) : Pk.lnK (Pk.gd L) L.length = 0 := by
  unfold tkN at h
  split at h
  · assumption
  · cases h
theorem RL.chg {S : List Nat} {w w' : World} {R b0 : Nat} {L : List Nat} (h : RL w R b0 L) (c : Pk.Chg S w w') (hR : R ∉ S) (hb : b0 ∉ S) : RL w' R b0 L := Pk.RB.chg h c hR hb
theorem Pk.Chg.old {S : List Nat} {w w' : World} (h : Old w w') : Pk.Chg S w w' := ⟨h.os, h.tape, h.output, h.size, fun k hk _ => Below.block h k hk⟩
theorem Pk.Chg.cell' {S : List Nat} {w w' : World} (c : Pk.Chg S w w') {p : Addr} {v : Value} (h : w.cell? p = some v) (hn : p.block ∉ S) : w'.cell? p = some v := Pk.Chg.cell c h hn
theorem Pk.Chg.fr {S : List Nat} {w w' : World} (c : Pk.Chg S w w') {p : Addr} {v : Value} (h : w.cell? p = some v) (hf : w.frozen? p = false) (hn : p.block ∉ S) : w'.frozen? p = false := by
  rw [World.frozen?_of_block (w := w) (c.block p.block (World.block_lt_of_cell? w p h) hn)]; exact hf
theorem Pk.Chg.set' (w : World) (p : Addr) (v : Value) : Pk.Chg [p.block] w (w.setCell p v) := ⟨rfl, rfl, rfl, by simp, fun k hk hn => Below.heap_setCell w p v k (fun e => hn (by simp [e]))⟩
theorem Pk.Chg.trans' {S T : List Nat} {a b c : World} (h : Pk.Chg S a b) (k : Pk.Chg T b c) (hT : ∀ j ∈ T, a.heap.size ≤ j) : Pk.Chg S a c := ⟨k.os.trans h.os, k.tape.trans h.tape, k.output.trans h.output, Nat.le_trans h.size k.size, fun i hi hn => (k.block i (Nat.lt_of_lt_of_le hi h.size) (fun e => by have := hT i e; omega)).trans (h.block i hi hn)⟩
theorem tkN_at (z : Int) (h : -9223372036854775808 ≤ z ∧ z ≤ 9223372036854775807) (B : List Nat) : tkN (Pk.numL z ++ B) = some (z, B) := by
  obtain ⟨e1, e2⟩ := Pk.num_at_head z h.1 h.2 (Pk.gd (Pk.numL z ++ B)) (Pk.numL z ++ B).length (by simp) (fun i hi => Pk.gd_left _ _ _ hi)
  have hp := (Pk.num_len z h.1 h.2).1
  unfold tkN
  rw [e1, e2, if_neg (by omega), List.drop_left]
theorem byRow_slice {w : World} {v : Value} {n : Nat} {x : Nat → Nat} (h : Pk.ByRow w v n x) : ∃ a c, v = .slice a n c := by
  rcases h with ⟨h0, a, c, e, _⟩ | ⟨_, _, b, off, cap, e, _⟩
  · exact ⟨a, c, by rw [e, h0]⟩
  · exact ⟨_, _, e⟩
theorem Own.chgP {base : Nat} {S : List Nat} {w w' : World} {v : Value} {L : List It} (h : Own base w v L) (u : Pk.Chg S w w') (hn : ∀ g, v.ownBlock = some g → g ∉ S) : Own base w' v L := h.chg ⟨u.os, u.tape, u.output, u.size, u.block⟩ hn
theorem two_set {W : World} {rb : Nat} {p q : Value} (h0 : W.cell? ⟨rb, 0, none⟩ = some p) (h1 : W.cell? ⟨rb, 1, none⟩ = some q) (a b : Value) : ((W.setCell ⟨rb, 0, none⟩ a).setCell ⟨rb, 1, none⟩ b).cell? ⟨rb, 0, none⟩ = some a ∧ ((W.setCell ⟨rb, 0, none⟩ a).setCell ⟨rb, 1, none⟩ b).cell? ⟨rb, 1, none⟩ = some b := by
  refine ⟨?_, World.cell?_setCell_same _ _ _ (u := q) ?_⟩
  · rw [World.cell?_setCell_other _ _ _ _ (by simp)]; exact World.cell?_setCell_same _ _ _ h0
  · rw [World.cell?_setCell_other _ _ _ _ (by simp)]; exact h1
theorem numB_app (A B : List Int) : numB (A ++ B) = numB A ++ numB B := by unfold numB; rw [List.flatMap_append]
theorem numB_cons (z : Int) (B : List Int) : numB (z :: B) = Pk.numL z ++ numB B := by unfold numB; rw [List.flatMap_cons]
set_option maxHeartbeats 400000 in
set_option maxRecDepth 20000 in
theorem rdCount_no (R b0 most : Nat) (L : List Nat) (w : World) (h : RL w R b0 L) (hb : b0 ≠ R) (hn : tkC most L = none) : Calls Try.prog 32 #[.pointer (some ⟨R, 0, none⟩), .int .i64 (most : Int)] w fun e w' => Ends R w e w' := by
  refine Pk.rcount_no R b0 _ _ (most : Int) w h hb ?_
  unfold tkC tkN at hn
  by_cases q : Pk.lnK (Pk.gd L) L.length = 0
  · exact .inl q
  · rw [if_neg q] at hn
    simp only at hn
    split at hn
    · cases hn
    · rename_i k
      right; omega
set_option maxHeartbeats 400000 in
set_option maxRecDepth 20000 in
theorem rdCount_at (R b0 most n : Nat) (L B : List Nat) (w : World) (h : RL w R b0 L) (hb : b0 ≠ R) (hm : most ≤ 1000000) (hn : tkC most L = some (n, B)) : Calls Try.prog 32 #[.pointer (some ⟨R, 0, none⟩), .int .i64 (most : Int)] w fun e w' => e = .returned (.int .i64 (n : Int)) ∧ RL w' R b0 B ∧ Pk.Chg [R] w w' := by
  unfold tkC tkN at hn
  by_cases q : Pk.lnK (Pk.gd L) L.length = 0
  · rw [if_pos q] at hn; cases hn
  · rw [if_neg q] at hn
    simp only at hn
    split at hn
    · rename_i k
      cases hn
      refine (Pk.rcount_ok R b0 _ _ (most : Int) w h hb q k.1 k.2 (by omega)).mono fun e w' p => ⟨?_, RL.drop p.2.1, p.2.2⟩
      rw [p.1, show ((Pk.lnV (Pk.gd L) L.length).toNat : Int) = Pk.lnV (Pk.gd L) L.length by omega]
    · cases hn
set_option maxHeartbeats 400000 in
set_option maxRecDepth 20000 in
theorem rdNum_at (R b0 : Nat) (z : Int) (L B : List Nat) (w : World) (h : RL w R b0 L) (hb : b0 ≠ R) (hn : tkN L = some (z, B)) : Calls Try.prog 53 #[.pointer (some ⟨R, 0, none⟩)] w fun e w' => e = .returned (.int .i64 z) ∧ RL w' R b0 B ∧ Pk.Chg [R] w w' := by
  unfold tkN at hn
  by_cases q : Pk.lnK (Pk.gd L) L.length = 0
  · rw [if_pos q] at hn; cases hn
  · rw [if_neg q] at hn
    cases hn
    exact (Pk.rnum_ok R b0 _ _ w h hb q).mono fun e w' p => ⟨p.1, RL.drop p.2.1, p.2.2⟩
set_option maxHeartbeats 1000000 in
set_option maxRecDepth 20000 in
theorem within_ok (R b0 : Nat) (l m z : Int) (B : List Nat) (w : World) (hN : N64 z) (h : RL w R b0 (Pk.numL z ++ B)) (hb : b0 ≠ R) (hz : l ≤ z ∧ z ≤ m) :
    Calls Try.prog 33 #[.pointer (some ⟨R, 0, none⟩), .int .i64 l, .int .i64 m] w fun e w' => e = .returned (.int .i64 z) ∧ RL w' R b0 B ∧ Pk.Chg [R] w w' := by
  have HN := hid (rdNum_at R b0 z _ B w h hb (tkN_at z hN B))
  have HO := hid (fun W => outside_any z l m W)
  have ho : outB z l m = false := by unfold outB; rw [Bool.or_eq_false_iff, decide_eq_false_iff_not, decide_eq_false_iff_not]; omega
  rw [ho] at HO
  clear h hN hz ho
  go_enter Try.func33, Try.ntmps33
  go_wp2_with (first | (go_at_call 53; refine HN.out.mono ?_; rintro e w1 ⟨rfl, r1, c1⟩; have R1 := hid r1; have C1 := hid c1; clear r1 c1) | (go_at_call 24; refine (HO.out _).mono ?_; rintro e w2 ⟨rfl, u2⟩; have U2 := hid u2; clear u2))
  go_ret
  exact ⟨rfl, R1.out.chg (S := []) (Pk.Chg.old U2.out) (by simp) (by simp), C1.out.trans (Pk.Chg.old U2.out)⟩
set_option maxHeartbeats 2000000 in
set_option maxRecDepth 20000 in
theorem readVerdict_ok (R b0 : Nat) (c m : Int) (B : List Nat) (w : World) (h : RL w R b0 (Pk.numL c ++ (Pk.numL m ++ B))) (hb : b0 ≠ R) (hR : R < w.heap.size) (hb0 : b0 < w.heap.size) (hc : 0 ≤ c ∧ c ≤ 999) (hm : 0 ≤ m ∧ m ≤ 1099511627776) :
    Calls Try.prog 55 #[.pointer (some ⟨R, 0, none⟩)] w fun e w' => e = .returned (.agg #[.int .i64 c, .int .i64 m]) ∧ RL w' R b0 B ∧ Pk.Chg [R] w w' := by
  have HW1 := hid (fun (W : World) (r : RL W R b0 (Pk.numL c ++ (Pk.numL m ++ B))) => within_ok R b0 0 999 c _ W ⟨by omega, by omega⟩ r hb hc)
  have HW2 := hid (fun (W : World) (r : RL W R b0 (Pk.numL m ++ B)) => within_ok R b0 0 1099511627776 m _ W ⟨by omega, by omega⟩ r hb hm)
  have HR := hid h
  have HH := hid (And.intro hR hb0)
  have tok1 : True := trivial
  clear h
  go_enter Try.func55, Try.ntmps55
  go_upto_region 1 with (fail)
  have y0 : (w.alloc (.cells #[.int .i64 0, .int .i64 0] 28)).cell? ⟨w.heap.size, 0, none⟩ = some (.int .i64 0) := by simp
  have y1 : (w.alloc (.cells #[.int .i64 0, .int .i64 0] 28)).cell? ⟨w.heap.size, 1, none⟩ = some (.int .i64 0) := by simp
  have f0 : (w.alloc (.cells #[.int .i64 0, .int .i64 0] 28)).frozen? ⟨w.heap.size, 0, none⟩ = false := by simp
  have f1 : (w.alloc (.cells #[.int .i64 0, .int .i64 0] 28)).frozen? ⟨w.heap.size, 1, none⟩ = false := by simp
  have HR1 := hid (HR.out.chg (S := []) (Pk.Chg.old ((Old.refl w).alloc (.cells #[.int .i64 0, .int .i64 0] 28))) (by simp) (by simp))
  have C0 := hid (show Pk.Chg [R] w (w.alloc (.cells #[.int .i64 0, .int .i64 0] 28)) from Pk.Chg.old ((Old.refl w).alloc _))
  have HV := hid (show w.heap.size ≠ R ∧ w.heap.size ≠ b0 ∧ w.heap.size ≤ w.heap.size from by have := HH.out; omega)
  generalize w.alloc (.cells #[.int .i64 0, .int .i64 0] 28) = w1 at *
  obtain ⟨vb, hvb⟩ : ∃ vb, w.heap.size = vb := ⟨_, rfl⟩
  have HVb := hid (show w.heap.size ≤ vb by omega)
  rw [hvb] at y0 y1 f0 f1 HV ⊢
  clear hvb HR HH
  go_wp2_with (first | (go_at_call 33; have _t := tok1; clear tok1 _t; refine (HW1.out _ HR1.out).mono ?_; rintro e w2 ⟨rfl, r2, c2⟩; have R2 := hid r2; have C2 := hid c2; have q0 := c2.cell' y0 (by simp; exact HV.out.1); have q1 := c2.cell' y1 (by simp; exact HV.out.1); have g0 := c2.fr y0 f0 (by simp; exact HV.out.1); have g1 := c2.fr y1 f1 (by simp; exact HV.out.1); clear r2 c2 y0 y1 f0 f1) | (go_at_call 33; refine (HW2.out _ R2.out).mono ?_; rintro e w3 ⟨rfl, r3, c3⟩; have R3 := hid r3; have C3 := hid c3; have x0 := c3.cell' q0 (by simp; exact HV.out.1); have x1 := c3.cell' q1 (by simp; exact HV.out.1); have h0 := c3.fr q0 g0 (by simp; exact HV.out.1); have h1 := c3.fr q1 g1 (by simp; exact HV.out.1); clear r3 c3 q0 q1 g0 g1))
  obtain ⟨z0, z1⟩ := two_set x0 x1 (.int .i64 c) (.int .i64 m)
  have CS := hid (show Pk.Chg [vb] w3 ((w3.setCell ⟨vb, 0, none⟩ (.int .i64 c)).setCell ⟨vb, 1, none⟩ (.int .i64 m)) from (Pk.Chg.set' w3 ⟨vb, 0, none⟩ _).trans (Pk.Chg.set' _ ⟨vb, 1, none⟩ _))
  refine bodyPost_ret (v := .agg #[.int .i64 c, .int .i64 m]) (by simp [results, Try.results55, go_sem, z0, z1]) rfl ⟨rfl, R3.out.chg CS.out (by simp; exact fun e => HV.out.1 e.symm) (by simp; exact fun e => HV.out.2.1 e.symm), ((C0.out.trans C2.out).trans C3.out).trans' CS.out (by simp; exact HVb.out)⟩
theorem infoItZ : (Try.prog.info? 71).map (fun i => (i.zero, i.size, i.bytes)) = some (some (.agg #[.int .i64 0, .int .i64 0, .int .i64 0]), 3, 24) := by kernel_rfl
theorem wp_appIt {ops : Array Oper} {rest : List Oper} {o : Oper} {a : Act} {Q : Exit → Act → World → Prop} {w : World} (hgd : o.guard = none) (s x : Operand)
    (ho : o.op = .call { callee := .builtin .append, args := #[s, x], argTypes := #[61, 61] }) (base : Nat) (v : Value) (L : List It) (g c1 : Nat) (y : It)
    (hs : a.eval s = v) (hx : a.eval x = .slice (some ⟨g, 0, none⟩) 1 c1) (hown : Own base w v L) (hc0 : w.cell? ⟨g, 0, none⟩ = some (.int .i64 y.n)) (hc1 : w.cell? ⟨g, 1, none⟩ = some (.int .i64 y.c)) (hc2 : w.cell? ⟨g, 2, none⟩ = some (.int .i64 y.m)) (hb : L.length + 1 ≤ 1000000) (hbase : base ≤ w.heap.size)
    (h : ∀ v' w', Own base w' v' (L ++ [y]) → w.grownBy w' v.ownBlock → (v'.ownBlock = v.ownBlock ∨ v'.ownBlock = some w.heap.size) → wpList Try.prog ops Q rest (a.put o.dst v') w') : wpList Try.prog ops Q (o :: rest) a w := by
  obtain ⟨i0, hi, hz0, hz1, hz2⟩ := info_parts infoItZ
  refine wpList_append_own_at w hgd s x 61 ho base 71 i0 _ 3 24 Try.underlying61 hi hz0 hz1 hz2 rfl (by decide) v L.length (itcs L) hs hown ⟨g, 0, none⟩ 1 c1 (itc y) hx rfl ?_ ?_ (by unfold maxLen; omega) (by omega) hbase ?_
  · intro j u hj
    rw [Go.WideShapes.add_plain]
    match j with
    | 0 => simp [itc] at hj; subst hj; exact hc0
    | 1 => simp [itc] at hj; subst hj; exact hc1
    | 2 => simp [itc] at hj; subst hj; exact hc2
    | j + 3 => simp [itc] at hj
  · intro u hu; exact itc_one y u hu
  · intro v' w' h1 h2 h3 h4
    refine h v' w' ?_ h2 h4
    unfold Own
    rw [← itcs_one1 y, itcs_app] at h1
    simpa using h1
/-- The number of the item ahead. -/
def lastV (hi : Int) (T : List It) (j : Nat) : Int := if j = 0 then max 0 (hi - 8) else (atI T (j - 1)).n
/-- What is kept of a session, as Load asks for it. -/
structure Kp (T : List It) : Prop where
  ne : T ≠ []
  rise : Rise T
  seq : ∀ x ∈ T, 1 ≤ x.n ∧ x.n ≤ 1099511627776
  win : ∀ x ∈ T, hiL T - 8 < x.n
  len : T.length ≤ 8
  vo : ∀ x ∈ T, (0 ≤ x.c ∧ x.c ≤ 999) ∧ 0 ≤ x.m ∧ x.m ≤ 1099511627776
theorem Kp.step {T : List It} (h : Kp T) (j : Nat) (hj : j < T.length) : lastV (hiL T) T j + 1 ≤ (atI T j).n ∧ (atI T j).n ≤ hiL T ∧ lastV (hiL T) T (j + 1) = (atI T j).n ∧ (0 ≤ lastV (hiL T) T j ∧ lastV (hiL T) T j ≤ 1099511627776) ∧ (1 ≤ (atI T j).n ∧ (atI T j).n ≤ 1099511627776) ∧ (0 ≤ (atI T j).c ∧ (atI T j).c ≤ 999) ∧ 0 ≤ (atI T j).m ∧ (atI T j).m ≤ 1099511627776 := by
  have hm : ∀ i, i < T.length → atI T i ∈ T := fun i hi => by rw [atI_get T i hi]; exact List.getElem_mem hi
  have h1 := h.seq _ (hm j hj)
  have h2 := h.win _ (hm j hj)
  have h3 := rise_last h.rise (hm j hj)
  have h4 := h.vo _ (hm j hj)
  obtain ⟨y, hy, ey⟩ := hiL_mem h.ne
  have h5 := h.seq y hy
  by_cases e : j = 0
  · subst e
    unfold lastV
    simp only [if_true, Nat.zero_add, Nat.sub_self]
    rw [if_neg (by omega)]
    refine ⟨by omega, h3, rfl, by omega, h1, h4⟩
  · have h6 := h.seq _ (hm (j - 1) (by omega))
    have h7 : (atI T (j - 1)).n < (atI T j).n := by
      have := List.pairwise_iff_getElem.1 h.rise (j - 1) j (by omega) hj (by omega)
      rw [atI_get T (j - 1) (by omega), atI_get T j hj]
      exact this
    unfold lastV
    rw [if_neg e, if_neg (by omega), Nat.add_sub_cancel]
    exact ⟨by omega, h3, rfl, by omega, h1, h4⟩
theorem Kp.end {T : List It} (h : Kp T) : lastV (hiL T) T T.length = hiL T := by
  have : T.length ≠ 0 := fun e => h.ne (List.length_eq_zero_iff.1 e)
  unfold lastV hiL
  rw [if_neg this, if_neg this]
theorem itN_drop (T : List It) (j : Nat) (h : j < T.length) : numB (itN (T.drop j)) = Pk.numL (atI T j).n ++ (Pk.numL (atI T j).c ++ (Pk.numL (atI T j).m ++ numB (itN (T.drop (j + 1))))) := by
  rw [List.drop_eq_getElem_cons h]
  unfold itN
  rw [List.flatMap_cons, ← atI_get T j h]
  simp [numB_cons, numB_app, numB, List.append_assoc]
set_option maxHeartbeats 8000000 in
set_option maxRecDepth 20000 in
theorem readKept_ok (R b0 : Nat) (T : List It) (B : List Nat) (w : World) (h : RL w R b0 (Pk.numL (hiL T) ++ (Pk.numL ((T.length : Nat) : Int) ++ (numB (itN T) ++ B)))) (hb : b0 ≠ R) (hR : R < w.heap.size) (hb0 : b0 < w.heap.size) (hT : Kp T) :
    Calls Try.prog 34 #[.pointer (some ⟨R, 0, none⟩)] w fun e w' => ∃ v, e = .returned v ∧ Own w.heap.size w' v T ∧ RL w' R b0 B ∧ Pk.Chg [R] w w' := by
  obtain ⟨y, hy, ey⟩ := hiL_mem hT.ne
  have hyr := hT.seq y hy
  have hhi : 1 ≤ hiL T ∧ hiL T ≤ 1099511627776 := by rw [ey]; exact hyr
  have hl8 := hT.len
  have HW0 := hid (within_ok R b0 1 1099511627776 (hiL T) _ w ⟨by omega, by omega⟩ h hb hhi)
  have HCn := hid (fun (W : World) (r : RL W R b0 (Pk.numL ((T.length : Nat) : Int) ++ (numB (itN T) ++ B))) => rdCount_at R b0 8 T.length _ (numB (itN T) ++ B) W r hb (by omega) (by
    unfold tkC
    rw [tkN_at _ ⟨by omega, by omega⟩]
    simp only
    rw [if_pos ⟨by omega, by omega⟩]
    simp))
  have HWi := hid (fun (z l : Int) (C : List Nat) (W : World) (hz : N64 z) (r : RL W R b0 (Pk.numL z ++ C)) (hl : l ≤ z ∧ z ≤ hiL T) => within_ok R b0 l (hiL T) z C W hz r hb hl)
  have HSt := hid (fun j hj => hT.step j hj)
  have HEn := hid hT.end
  have HDr := hid (fun j hj => itN_drop T j hj)
  have HH := hid (And.intro hR hb0)
  have HD0 := hid (show numB (itN (T.drop 0)) = numB (itN T) from by rw [List.drop_zero])
  have HDn := hid (show numB (itN (T.drop T.length)) = [] from by rw [List.drop_length]; rfl)
  have HTk := hid (fun j (hj : j < T.length) => show T.take (j + 1) = T.take j ++ [atI T j] from by rw [List.take_succ_eq_append_getElem hj, atI_get T j hj])
  have HTn := hid (List.take_length (l := T))
  have HTl := hid (fun j => show (T.take j).length ≤ T.length from by rw [List.length_take]; omega)
  have hmm : ((T.length : Nat) : Int) ≤ 8 := by omega
  have lw : IntKind.i64.wrap (hiL T - 8) = hiL T - 8 := IntWalk.i64_in _ (by omega)
  have HL0 := hid (show lastV (hiL T) T 0 = max 0 (hiL T - 8) from rfl)
  clear h hT hy ey hyr
  generalize hiL T = hi at *
  obtain ⟨tl, htl⟩ : ∃ tl, T.length = tl := ⟨_, rfl⟩
  rw [htl] at HW0 HCn HSt HDr HEn HDn HTk HTn HTl hmm hl8
  clear htl
  go_enter Try.func34, Try.ntmps34
  go_upto_region 5 with (first | (go_at_call 33; refine HW0.out.mono ?_; rintro e w1 ⟨rfl, r1, c1⟩; have R1 := hid r1; have C1 := hid c1; clear r1 c1) | (go_at_call 32; refine (HCn.out _ R1.out).mono ?_; rintro e w2 ⟨rfl, r2, c2⟩; have R2 := hid r2; have C2 := hid (C1.out.trans c2); clear r2 c2))
  clear HW0 HCn R1 C1
  go_loopw [4, 5, 13] (fun la o i wr => ∃ j : Nat, j ≤ tl ∧ i = .int .i64 (j : Nat) ∧ la = .int .i64 (lastV hi T j) ∧ Own w.heap.size wr o (T.take j) ∧ RL wr R b0 (numB (itN (T.drop j)) ++ B) ∧ Pk.Chg [R] w wr) (fun _ _ i _ => tl - (intOf i).toNat)
  case atStart => exact ⟨0, Nat.zero_le _, rfl, by rw [HL0.out], Own.nil _ _, by rw [HD0.out]; exact R2.out, C2.out⟩
  case round =>
    obtain ⟨j, hj, rfl, rfl, ho, hr, hc⟩ := hrel
    obtain ⟨pb, cb, e⟩ := ho.len
    obtain ⟨ln, hln⟩ : ∃ ln, (T.take j).length = ln := ⟨_, rfl⟩
    rw [hln] at e
    subst e
    have HO := hid ho
    have HRl := hid hr
    have HCg := hid hc
    clear ho hr hc hln R2 C2
    by_cases hlt : j < tl
    · obtain ⟨s1, s2, s3, s4, s5, s6, s7⟩ := HSt.out j hlt
      have HD := hid (HDr.out j hlt)
      have HTj := hid (HTk.out j hlt)
      have HTlj := hid (HTl.out j)
      have l2 : (j : Int) < (tl : Int) := by omega
      have lw1 : IntKind.i64.wrap (lastV hi T j + 1) = lastV hi T j + 1 := IntWalk.i64_in _ (by omega)
      rw [HD.out, List.append_assoc] at HRl
      have HW := hid (HWi.out (atI T j).n (lastV hi T j + 1) _ wr ⟨by omega, by omega⟩ HRl.out ⟨s1, s2⟩)
      have HV := hid (fun (W : World) (z1 : R < W.heap.size) (z2 : b0 < W.heap.size) r => readVerdict_ok R b0 (atI T j).c (atI T j).m (numB (itN (T.drop (j + 1))) ++ B) W r hb z1 z2 s6 s7)
      have HL1 := hid s3
      clear HSt HDr HTk HTl HWi HD HRl s1 s2 s3 s4 s5 s6 s7
      generalize hla : lastV hi T j = la at *
      generalize hxx : atI T j = x at *
      clear hla hxx
      go_wp2_with (first | (go_at_call 33; refine HW.out.mono ?_; rintro e w3 ⟨rfl, r3, c3⟩; have R3 := hid r3; have C3 := hid (HCg.out.trans c3); have O3 := hid (HO.out.chgP c3 (fun g e => by have := (World.ownsRow.lt HO.out g e).1; simp; have := HH.out.1; omega)); clear r3 c3) | (go_at_call 55; refine (HV.out _ (by have := C3.out.size; have := HH.out; omega) (by have := C3.out.size; have := HH.out; omega) (by have := R3.out; rw [List.append_assoc, List.append_assoc] at this; exact this)).mono ?_; rintro e w4 ⟨rfl, r4, c4⟩; have R4 := hid r4; have C4 := hid (C3.out.trans c4); have O4 := hid (O3.out.chgP c4 (fun g e => by have := (World.ownsRow.lt O3.out g e).1; simp; have := HH.out.1; omega)); clear r4 c4) | (at_builtin; refine wp_appIt rfl (.tmp 20) (.tmp 25) rfl w.heap.size _ (T.take j) _ 1 x rfl rfl (O4.out.old ((Old.refl _).alloc _)) (by simp) (by simp) (by simp) (by have := HTlj.out; omega) (by have := C4.out.size; simp; omega) ?_; intro v5 w5 o5 g5 n5; have O5 := hid o5; have G5 := hid g5; clear o5 g5 n5))
      have hbl : ∀ q, (Value.slice pb ln cb).ownBlock = some q → w.heap.size ≤ q := fun q e => (World.ownsRow.lt O4.out q e).1
      have CG : Pk.Chg (Value.slice pb ln cb).ownBlock.toList w4 w5 := (Pk.Chg.old (S := (Value.slice pb ln cb).ownBlock.toList) ((Old.refl w4).alloc _)).trans ⟨G5.out.os, G5.out.tape, G5.out.output, G5.out.size, fun q hq hn => G5.out.block q hq (fun e => hn (by have e2 : (Value.slice pb ln cb).ownBlock = some q := e.symm; rw [e2]; simp))⟩
      refine ⟨⟨j + 1, hlt, by go_num, by rw [HL1.out], by rw [HTj.out]; exact O5.out, R4.out.chg CG (fun e => ?_) (fun e => ?_), C4.out.trans' CG (fun q e => ?_)⟩, by simp [intOf]; omega⟩
      · rw [Option.mem_toList] at e; have := hbl R e; have := HH.out.1; omega
      · rw [Option.mem_toList] at e; have := hbl b0 e; have := HH.out.2; omega
      · rw [Option.mem_toList] at e; exact hbl q e
    · obtain rfl : j = tl := by omega
      have HE := hid HEn.out
      have hne : ((hi : Int) != hi) = false := by simp
      rw [HEn.out]
      rw [HDn.out, List.nil_append] at HRl
      rw [HTn.out] at HO
      clear HSt HDr HTk HTl HWi
      go_wp2
      go_ret
      exact ⟨_, rfl, HO.out, HRl.out, HCg.out⟩
end Go.Proofs.Ytefffjlcfghniaa
