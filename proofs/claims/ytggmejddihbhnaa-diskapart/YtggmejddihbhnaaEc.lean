/- The law DiskWrites' walk; condition: the rows' lengths have reach. -/
import Derived.Test.YtggmejddihbhnaaEb
namespace Go.Proofs.Ytggmejddihbhnaa
open Go.RowKit Go.Lib Go.ChangeShapes Go.WideShapes
set_option linter.unusedVariables false
set_option linter.unusedSimpArgs false
set_option maxRecDepth 20000
theorem bytesU8 : Try.prog.bytesOf 5 = 1 := by kernel_rfl
theorem open_bytesB {H : Type} {enc : TypeId × Value → H} {w : World} {base : Nat} {v : Value} {d : DataW H} {ps : List MemPlace} (hv : Value.okWide Try.prog w .any base 22 v) (h : DataW.Trod enc Try.prog w 0 (fun _ => true) true 22 v d ps) (hz : ∀ k ∈ d.weights Try.prog 22, k ≤ reachBytes) : ∃ L : List Nat, Rw w v L ∧ L.length ≤ 140737488355328 := by
  obtain ⟨n, x, hb⟩ := Pk.open_bytes hv h
  obtain ⟨L, hl, hr⟩ := ByRow.rw hb
  refine ⟨L, hr, ?_⟩
  obtain ⟨a, c, e⟩ := hr.len
  subst e
  obtain ⟨fuel, hf⟩ := h
  have hfit := row_fits Try.underlying22 bytesU8 (len_row Try.underlying22 hf) hz
  simp only [reachBytes] at hfit
  omega
theorem overL_eq (W M : List Nat) (k : Nat) (h : k ≤ W.length) : overL W k M = W.take k ++ (M ++ W.drop (k + M.length)) := by
  unfold overL splice
  rw [List.take_append_of_le_length h, List.drop_append]
  congr 2
  rw [List.drop_replicate, show k + M.length - W.length - (k + M.length - W.length) = 0 by omega]
  simp
theorem overL_nil (W : List Nat) (k : Nat) (h : k ≤ W.length) : overL W k [] = W := by
  rw [overL_eq W [] k h]; simp
theorem overL_set (W b : List Nat) (k i c : Nat) (hk : k ≤ W.length) (hi : i < b.length) (hb : b.getD i 0 = c) (h : k + i < W.length) : (overL W k (b.take i)).set (k + i) c = overL W k (b.take (i + 1)) := by
  have e : b[i] = c := by rw [← hb, List.getD_eq_getElem?_getD, List.getElem?_eq_getElem hi]; rfl
  have l1 : (b.take i).length = i := by simp; omega
  have l2 : (b.take (i + 1)).length = i + 1 := by simp; omega
  rw [overL_eq W _ k hk, overL_eq W _ k hk, l1, l2, List.take_succ_eq_append_getElem hi, e, ← List.append_assoc, List.set_append_right _ _ (by simp; omega), List.length_append, l1, List.length_take, show k + i - (min k W.length + i) = 0 by omega, List.drop_eq_getElem_cons h, List.set_cons_zero]
  simp [Nat.add_assoc]
theorem overL_put (W b : List Nat) (k i c : Nat) (hk : k ≤ W.length) (hi : i < b.length) (hb : b.getD i 0 = c) (h : ¬ k + i < W.length) : overL W k (b.take i) ++ [c] = overL W k (b.take (i + 1)) := by
  have e : b[i] = c := by rw [← hb, List.getD_eq_getElem?_getD, List.getElem?_eq_getElem hi]; rfl
  have l1 : (b.take i).length = i := by simp; omega
  have l2 : (b.take (i + 1)).length = i + 1 := by simp; omega
  rw [overL_eq W _ k hk, overL_eq W _ k hk, l1, l2, List.take_succ_eq_append_getElem hi, e, List.drop_of_length_le (by omega), List.drop_of_length_le (by omega)]
  simp
theorem cat_gd (L M : List Nat) : Pk.cat L.length (gd L) (gd M) = gd (L ++ M) := by
  funext i
  unfold Pk.cat
  by_cases h : i < L.length
  · rw [if_pos h]; simp [gd, List.getElem?_append_left h]
  · rw [if_neg h]; simp [gd, List.getElem?_append_right (by omega : L.length ≤ i)]
theorem wp_appL {ops : Array Oper} {rest : List Oper} {o : Oper} {a : Act} {Q : Exit → Act → World → Prop} {w : World} (hgd : o.guard = none) (s x : Operand)
    (ho : o.op = .call { callee := .builtin .append, args := #[s, x], argTypes := #[22, 22] }) (v u : Value) (L M : List Nat)
    (hs : a.eval s = v) (hx : a.eval x = u) (hown : Own w v L) (hrow : Rw w u M) (hb : L.length + M.length ≤ 140737488355328)
    (h : ∀ v' w', Own w' v' (L ++ M) → Grow w v w' v' → wpList Try.prog ops Q rest (a.put o.dst v') w') : wpList Try.prog ops Q (o :: rest) a w := by
  refine Pk.wp_app hgd s x ho 0 v u L.length M.length (gd L) (gd M) hs hx hown hrow hb (Nat.zero_le _) (fun v' w' h1 h2 h3 => ?_)
  have o' : Own w' v' (L ++ M) := by
    unfold Own
    rw [List.length_append, ← cat_gd]
    exact h1
  refine h v' w' o' ⟨⟨h2.by_.os, h2.by_.tape, h2.by_.output, h2.by_.size, fun k hk hn => h2.by_.block k hk (fun e => hn (by rw [Option.mem_toList]; exact e.symm))⟩, fun g e => ?_⟩
  rcases h2.row with r | r
  · exact .inl (by rw [← r]; exact e)
  · exact .inr ⟨r g e, (h1.own.lt g e).2⟩
/-- A row of the law's own grows beside a disk. -/
theorem Dsk.grow {w0 W W' : World} {db : Nat} {p : PD} {v v' : Value} (h : Dsk w0 W db p v.ownBlock.toList) (hn : ∀ g, v.ownBlock = some g → w0.heap.size ≤ g) (g : Grow W v W' v') : Dsk w0 W' db p v'.ownBlock.toList ∧ ∀ g, v'.ownBlock = some g → w0.heap.size ≤ g := by
  obtain ⟨d, h1, h2, h3, h4, h5, h6⟩ := h
  have uB : ChgB (fun b => b ∈ v.ownBlock.toList) W W' := ChgB.of g.1 (fun b e => e)
  refine ⟨⟨d, h1, h2, h3.chg uB (fun b hb e => (h6 b e).1 hb), h4, uB.old h5 (fun b e => hn b (Option.mem_toList.1 e)), fun b hb => ?_⟩, fun b e => ?_⟩
  · rw [Option.mem_toList] at hb
    rcases g.2 b hb with z | z
    · have q := h6 b (by rw [Option.mem_toList]; exact z)
      exact ⟨q.1, by have := g.1.size; omega⟩
    · exact ⟨fun e => by have := h3.lt b e; omega, z.2⟩
  · rcases g.2 b e with z | z
    · exact hn b z
    · have := h5.size; omega
def qn (s : ByteArray) (L : List Nat) : PD := ⟨[(s, ⟨L, []⟩)], false, 0⟩
def sX : ByteArray := ⟨#[120]⟩
def sY : ByteArray := ⟨#[121]⟩
theorem misX : [sX].any misN = false := by kernel_rfl
theorem misY : [sY].any misN = false := by kernel_rfl
theorem misXY : [sX, sY].any misN = false := by kernel_rfl
theorem neXY : sX ≠ sY := by decide
theorem qn_down (s : ByteArray) (L : List Nat) : (qn s L).stepd = qn s L := rfl
theorem qn_on (s : ByteArray) (L : List Nat) (h : [s].any misN = false) : onE (qn s L) [s] = 0 := by
  unfold onE faultC
  rw [qn_down, h]
  simp [qn, getP]
theorem qn_at (s : ByteArray) (L : List Nat) : fileAt (qn s L) s = ⟨L, []⟩ := by simp [fileAt, qn, getP]
theorem q_create : createC pd0 sX = 0 ∧ createP pd0 sX = qn sX [] := ⟨by kernel_rfl, by kernel_rfl⟩
theorem q_write (L M : List Nat) (k : Nat) (hk : k ≤ L.length) (hM : k + M.length ≤ 65536) : writeC (qn sX L) sX (k : Int) M = 0 ∧ writeP (qn sX L) sX (k : Int) M = qn sX (overL L k M) := by
  have c : writeC (qn sX L) sX (k : Int) M = 0 := by
    unfold writeC
    rw [qn_on sX L misX, if_pos rfl, qn_at, if_neg (by simp [beyB]; omega), if_neg (by omega)]
  refine ⟨c, ?_⟩
  unfold writeP
  rw [if_pos c, qn_at, qn_down]
  simp [qn, setP]
theorem q_read (s : ByteArray) (L : List Nat) (h : [s].any misN = false) : readC (qn s L) s = 0 ∧ readL (qn s L) s = L := by
  have c : readC (qn s L) s = 0 := by
    unfold readC faultC
    rw [h]
    simp [qn, getP]
  refine ⟨c, ?_⟩
  unfold readL
  rw [if_pos c, qn_at]
theorem q_cut (L : List Nat) (k : Nat) (hk : k ≤ L.length) : cutC (qn sX L) sX (k : Int) = 0 ∧ cutP (qn sX L) sX (k : Int) = qn sX (L.take k) := by
  have c : cutC (qn sX L) sX (k : Int) = 0 := by
    unfold cutC
    rw [qn_on sX L misX, if_pos rfl, qn_at, if_neg (by simp [beyB]; omega)]
  refine ⟨c, ?_⟩
  unfold cutP
  rw [if_pos c, qn_at, qn_down]
  simp [qn, setP]
theorem q_rename (L : List Nat) : renameC (qn sX L) sX sY = 0 ∧ renameP (qn sX L) sX sY = qn sY L := by
  have c : renameC (qn sX L) sX sY = 0 := by
    unfold renameC onE faultC
    rw [qn_down, misXY]
    simp [qn, getP]
  refine ⟨c, ?_⟩
  unfold renameP
  rw [if_pos c, qn_at, qn_down]
  simp [qn, putP, delP]
theorem q_readX (L : List Nat) : readC (qn sY L) sX = 4 := by
  unfold readC faultC
  rw [misX]
  simp [qn, getP, neXY.symm]
theorem q_beyond (L M : List Nat) : writeC (qn sY L) sY ((L.length : Int) + 1) M = 1 := by
  unfold writeC
  rw [qn_on sY L misY, if_pos rfl, qn_at, if_pos (by simp [beyB]; omega)]
theorem sameL (v u : Value) (L : List Nat) (w : World) (h1 : Rw w v L) (h2 : Rw w u L) : Calls Try.prog 20 #[v, u] w fun e w' => e = .returned (.bool true) ∧ Old w w' :=
  (Pk.sameBytes_eq v u L.length (gd L) (gd L) w h1 h2 (fun _ _ => rfl)).mono fun e w' h => ⟨h.1, by obtain ⟨m, q⟩ := h.2; rw [q]; exact (Old.refl w).drewN m⟩
theorem Rw.one (w : World) (c g : Nat) (hc : c < 256) (hg : w.heap.size = g) : Rw (w.alloc (.cells #[.int .u8 (c : Int)] 5)) (.slice (some ⟨g, 0, none⟩) 1 1) [c] := by
  subst hg
  have h := own_of (L := [c]) (cap := 1) (alloc_at w (.cells #[.int .u8 (c : Int)] 5)) (by simp) (by unfold maxLen; omega) (by simp) (by simp [bv]) (fun x hx => by simp at hx; omega)
  exact h.row
theorem over_max (W b : List Nat) (k i : Nat) (hi : i ≤ b.length) : (overL W k (b.take i)).length = max W.length (k + i) := by
  rw [overL_len, List.length_take, show min i b.length = i by omega]
set_option maxHeartbeats 4000000 in
set_option maxRecDepth 20000 in
theorem writesLaw (v1 v2 : Value) (A B : List Nat) (at_ n0 : Int) (w : World) (h1 : Rw w v1 A) (b1 : A.length ≤ 140737488355328) (h2 : Rw w v2 B) (b2 : B.length ≤ 140737488355328) : Calls Try.prog 4 #[v1, v2, .int .i64 at_, .int .i64 n0] w fun e w' => e = .returned (.bool true) ∧ Old w w' := by
  obtain ⟨m, hm, he⟩ := and_mask at_ 8191 (by omega)
  have he' : bits .and .i64 at_ 8191 = (m : Int) := he
  obtain ⟨m2, hm2, he2⟩ := and_mask n0 8191 (by omega)
  have he2' : bits .and .i64 n0 8191 = (m2 : Int) := he2
  clear he he2
  obtain ⟨pa, ca, e1⟩ := h1.len
  obtain ⟨pb, cb, e2⟩ := h2.len
  subst e1 e2
  have HA := hid h1
  have HB := hid h2
  clear h1 h2
  have HLA := hid (show ∃ la, la = A.length from ⟨_, rfl⟩)
  generalize ha : A.length = la at *
  generalize hb : B.length = lb at *
  have HA0 := hid ha
  have HB0 := hid hb
  clear ha hb
  go_enter Try.func4, Try.ntmps4
  by_cases hbig : 4000 < la + lb
  · have l1 : (4000 : Int) < (la : Int) + (lb : Int) := by omega
    clear hbig
    go_wp2_with (first | (go_at_call 9; refine (newD w _ (Old.refl _)).mono ?_; rintro e w1 ⟨db, rfl, d1, _⟩; have D1 := hid d1; clear d1) | (go_at_call 10; refine (alive_any _).mono ?_; rintro e w2 ⟨rfl, u2⟩; have D2 := hid (D1.out.old u2); clear u2))
    go_ret
    exact ⟨rfl, D2.out.base⟩
  · have l1 : (la : Int) + (lb : Int) ≤ 4000 := by omega
    obtain ⟨k, hk⟩ : ∃ k, k = m % (la + 1) := ⟨_, rfl⟩
    have hkl : k ≤ la := by have := Nat.mod_lt m (show 0 < la + 1 by omega); omega
    have hkz : (m : Int) % ((la : Int) + 1) = (k : Int) := by rw [hk]; simp
    clear hbig hk
    go_upto_region 9 with (first | (go_at_call 9; refine (newD w _ (Old.refl _)).mono ?_; rintro e w1 ⟨db, rfl, d1, _⟩; have D1 := hid d1; clear d1) | (go_at_call 10; refine (alive_any _).mono ?_; rintro e w2 ⟨rfl, u2⟩; have D2 := hid (D1.out.old u2); clear u2) | (go_at_call 11; refine (createD w _ db _ _ sX D2.out).mono ?_; rintro e w3 ⟨rfl, d3, _⟩; rw [q_create.1]; rw [q_create.2] at d3; have D3 := hid d3; clear d3) | (go_at_call 13; refine (writeD w _ db _ _ sX 0 _ A D3.out (HA.out.old D3.out.base) (fun h0 g e => .inl (HA.out.lt (List.length_pos_iff.2 h0) g e)) (by omega)).mono ?_; rintro e w4 ⟨rfl, d4, _⟩; have PW := q_write [] A 0 (Nat.zero_le _) (by rw [HA0.out]; omega); rw [show ((0 : Nat) : Int) = 0 from rfl] at PW; rw [PW.1]; rw [PW.2, over0 [] A (.inl rfl)] at d4; have D4 := hid d4; clear d4 PW D3) | (go_at_call 13; refine (writeD w _ db _ _ sX k _ B D4.out (HB.out.old D4.out.base) (fun h0 g e => .inl (HB.out.lt (List.length_pos_iff.2 h0) g e)) (by omega)).mono ?_; rintro e w5 ⟨rfl, d5, _⟩; have PW := q_write A B k (by rw [HA0.out]; exact hkl) (by rw [HB0.out]; omega); rw [PW.1]; rw [PW.2] at d5; have D5 := hid d5; clear d5 PW D4))
    clear D1 D2
    have hAl := hid (show A.length ≤ 4000 from by rw [HA0.out]; omega)
    go_upto_region 10 with (at_builtin; refine wp_appL rfl (.tmp 54) (.tmp 55) rfl _ _ [] A rfl rfl (Own.of (base := 0) (Pk.OwnB.empty (Nat.zero_le _) rfl)) (HA.out.old (D5.out.base.alloc _)) (by have := hAl.out; simp; omega) ?_; intro v6 w6 o6 g6; have O6 := hid (show Own w6 v6 A from o6); have DG := hid (Dsk.grow (v := .slice (some ⟨w5.heap.size, 0, none⟩) 0 0) (D5.out.add ((Old.refl w5).alloc (.cells #[] 5)) [w5.heap.size] (by simp)) (fun g e => by cases e; exact D5.out.base.size) g6); clear o6 g6)
    have HBc := hid (show ∀ i, i < lb → ∃ b off, pb = some ⟨b, off, none⟩ ∧ B.getD i 0 < 256 ∧ ∀ W, Old w W → W.cell? ⟨b, off + i, none⟩ = some (.int .u8 ((B.getD i 0 : Nat) : Int)) from fun i hi => by
      rcases HB.out with ⟨h0, _⟩ | ⟨h0, hmx, b, off, cap, hv, hc, hcp⟩
      · rw [HB0.out] at h0; omega
      · injection hv with e1 e2 e3
        exact ⟨b, off, e1, (hc i (by rw [HB0.out]; exact hi)).1, fun W u => u.keep (hc i (by rw [HB0.out]; exact hi)).2⟩)
    have HX := hid (show ∀ i, i ≤ lb → (overL A k (B.take i)).length = max la (k + i) from fun i hi => by rw [over_max A B k i (by rw [HB0.out]; exact hi), HA0.out])
    have HX0 := hid (show overL A k (B.take 0) = A from overL_nil A k (by rw [HA0.out]; exact hkl))
    have HXe := hid (show overL A k (B.take lb) = overL A k B from by rw [← HB0.out, List.take_length])
    have HXs := hid (show ∀ i c, i < lb → B.getD i 0 = c → k + i < la → (overL A k (B.take i)).set (k + i) c = overL A k (B.take (i + 1)) from fun i c hi hb h => overL_set A B k i c (by rw [HA0.out]; exact hkl) (by rw [HB0.out]; exact hi) hb (by rw [HA0.out]; exact h))
    have HXp := hid (show ∀ i c, i < lb → B.getD i 0 = c → ¬ k + i < la → overL A k (B.take i) ++ [c] = overL A k (B.take (i + 1)) from fun i c hi hb h => overL_put A B k i c (by rw [HA0.out]; exact hkl) (by rw [HB0.out]; exact hi) hb (by rw [HA0.out]; exact h))
    clear HLA D5 hAl
    go_wp2
    go_loopw [10, 59] (fun vw c wr => ∃ (i : Nat) (X : List Nat) (pw : Option Addr) (ln cw : Nat), i ≤ lb ∧ c = .int .i64 (i : Nat) ∧ vw = .slice pw ln cw ∧ ln = max la (k + i) ∧ X = overL A k (B.take i) ∧ Own wr (.slice pw ln cw) X ∧ Dsk w wr db (qn sX (overL A k B)) (Value.slice pw ln cw).ownBlock.toList ∧ ∀ g, (Value.slice pw ln cw).ownBlock = some g → w.heap.size ≤ g) (fun _ c _ => lb - (intOf c).toNat)
    case atStart =>
      obtain ⟨pw, cw, e⟩ := O6.out.len
      have o6 := O6.out
      have dg := DG.out
      rw [e] at o6 dg
      exact ⟨0, A, pw, A.length, cw, Nat.zero_le _, rfl, e, by rw [HA0.out]; omega, HX0.out.symm, o6, dg.1, dg.2⟩
    case round =>
      obtain ⟨i, X, pw, ln, cw, hi, rfl, rfl, hln, hX, hO, hD, hN⟩ := hrel
      have HO := hid hO
      have HD := hid hD
      have HN := hid hN
      have HXi := hid hX
      have HLn := hid hln
      have hXl := hid (show X.length = ln from by rw [hX, HX.out i hi, hln])
      have hlnb : ln ≤ 8000 := by omega
      clear hO hD hN hX O6 DG HX0
      by_cases hlt : i < lb
      · obtain ⟨bb, boff, e, hc256, hcell⟩ := HBc.out i hlt
        subst e
        have cB := hcell wr HD.out.base
        have HBv := hid (show ∃ c, B.getD i 0 = c from ⟨_, rfl⟩)
        obtain ⟨c, hc⟩ := HBv.out
        have HC := hid hc
        rw [hc] at cB hc256
        have l2 : (0 : Int) ≤ (i : Int) := by omega
        have l3 : (i : Int) < (lb : Int) := by omega
        clear hc HBv hcell
        by_cases hki : k + i < la
        · have hln2 : k + i < ln := by omega
          obtain ⟨g, cg, e⟩ := HO.out.shape (by rw [hXl.out]; omega)
          injection e with e1 e2 e3
          subst e1 e3
          clear e2
          obtain ⟨c1, c2, -, c4, c5⟩ := HO.out.cellAt (k + i) (by rw [hXl.out]; exact hln2)
          have HO1 := hid (HO.out.set (k + i) c (by rw [hXl.out]; exact hln2) hc256)
          have HD1 := hid (HD.out.wr (Chg.set (S := [g]) wr ⟨g, k + i, none⟩ (.int .u8 (c : Int)) (by simp)) (fun b hb => by cases List.mem_singleton.1 hb; exact ⟨by simp [Value.ownBlock], HN.out g rfl⟩))
          have HXn := hid (HXs.out i c hlt HC.out hki)
          have hlm := hid (show ln = max la (k + (i + 1)) from by have := HLn.out; omega)
          have l4 : (0 : Int) ≤ (k : Int) + (i : Int) := by omega
          have l5 : (k : Int) + (i : Int) < (ln : Int) := by omega
          clear HO HD HX HXp hln hki
          generalize X.getD (k + i) 0 = old at *
          go_wp2
          go_roundw
          case rel => exact ⟨i + 1, X.set (k + i) c, some ⟨g, 0, none⟩, ln, cw, hlt, by go_num, rfl, hlm.out, by rw [HXi.out]; exact HXn.out, HO1.out, HD1.out, HN.out⟩
          case measure => simp [intOf]; omega
        · have l4 : ¬ ((k : Int) + (i : Int) < (ln : Int)) := by omega
          have HXn := hid (HXp.out i c hlt HC.out hki)
          have hlm := hid (show ln + 1 = max la (k + (i + 1)) from by have := HLn.out; omega)
          clear HX HXs hln hki
          go_wp2_with (at_builtin; refine wp_appL rfl (.tmp 76) (.tmp 78) rfl _ _ X [c] rfl rfl (HO.out.old ((Old.refl wr).alloc (.cells #[.int .u8 (c : Int)] 5))) (Rw.one wr c _ hc256 rfl) (by rw [hXl.out]; simp; omega) ?_; intro v' w' o' g'; have O' := hid o'; have DG := hid (Dsk.grow (v := .slice pw ln cw) (HD.out.old ((Old.refl wr).alloc (.cells #[.int .u8 (c : Int)] 5))) HN.out g'); obtain ⟨pv, cv, ev⟩ := o'.len; rw [List.length_append, hXl.out, List.length_singleton] at ev; subst ev; clear o' g')
          go_roundw
          case rel => exact ⟨i + 1, X ++ [c], pv, ln + 1, cv, hlt, by go_num, rfl, hlm.out, by rw [HXi.out]; exact HXn.out, O'.out, DG.out.1, DG.out.2⟩
          case measure => simp [intOf]; omega
      · obtain rfl : i = lb := by omega
        have hXB : overL A k B = X := by rw [HXi.out, HXe.out]
        rw [hXB] at HD
        have HD2 := hid HD.out
        clear HD hXB HX HXe HXs HXp HXi HBc HA hlt hln
        rcases HO.out.cases with ⟨e, e0⟩ | ⟨g, cap, cur, e, -, g1, g2, -, -⟩
        · injection e with e1 e2 e3
          subst e1 e2 e3
          have HQc := hid (show cutC (qn sX X) sX 0 = 0 ∧ cutP (qn sX X) sX 0 = qn sX (X.take 0) from q_cut X 0 (Nat.zero_le _))
          have HQl := hid (show 0 ≤ X.length from Nat.zero_le _)
          have HQb := hid (show writeC (qn sY (X.take 0)) sY 1 B = 1 from q_beyond (X.take 0) B)
          clear e0 HLn hXl
          go_wp2_with (first | (go_at_call 17; refine (readD w _ db _ _ sX HD2.out).mono ?_; rintro e w7 ⟨v7, rfl, o7, u7, -⟩; rw [(q_read sX X misX).1]; rw [(q_read sX X misX).2] at o7; have R7 := hid o7.row; have O7 := hid (HO.out.old u7); have D7 := hid (HD2.out.old u7); clear u7 o7 HD2 HO) | (go_at_call 20; refine (sameL _ _ X _ R7.out O7.out.row).mono ?_; rintro e w8 ⟨rfl, u8⟩; have O8 := hid (O7.out.old u8); have D8 := hid (D7.out.old u8); clear u8 R7 O7 D7) | (go_at_call 21; refine (cutD w _ db _ _ sX _ D8.out).mono ?_; rintro e w9 ⟨rfl, d9, k9⟩; have QC := HQc.out; rw [QC.1]; rw [QC.2] at d9; have O9 := hid (O8.out.kp k9 (fun g' e => Option.mem_toList.2 e)); have D9 := hid d9; clear d9 k9 QC O8 D8) | (go_at_call 22; refine (renameD w _ db _ _ sX sY D9.out).mono ?_; rintro e w10 ⟨rfl, d10, k10⟩; rw [(q_rename _).1]; rw [(q_rename _).2] at d10; have O10 := hid (O9.out.kp k10 (fun g' e => Option.mem_toList.2 e)); have D10 := hid d10; clear d10 k10 O9 D9) | (go_at_call 17; refine (readD w _ db _ _ sY D10.out).mono ?_; rintro e w11 ⟨v11, rfl, o11, u11, -⟩; rw [(q_read sY _ misY).1]; rw [(q_read sY _ misY).2] at o11; have R11 := hid o11.row; have O11 := hid (O10.out.old u11); have D11 := hid (D10.out.old u11); clear u11 o11 D10 O10) | (go_at_call 17; refine (readD w _ db _ _ sX D11.out).mono ?_; rintro e w12 ⟨v12, rfl, -, u12, -⟩; rw [q_readX]; have R12 := hid (R11.out.old u12); have O12 := hid (O11.out.old u12); have D12 := hid (D11.out.old u12); clear u12 R11 D11 O11) | (go_at_call 20; refine (sameL _ _ (X.take 0) _ R12.out (O12.out.row.take 0 HQl.out)).mono ?_; rintro e w13 ⟨rfl, u13⟩; have D13 := hid (D12.out.old u13); clear u13 R12 O12 D12) | (go_at_call 13; refine (writeD w _ db _ _ sY 1 _ B D13.out (HB.out.old D13.out.base) (fun h0 g' e => .inl (HB.out.lt (List.length_pos_iff.2 h0) g' e)) (by omega)).mono ?_; rintro e w14 ⟨rfl, d14, -⟩; rw [HQb.out]; have D14 := hid d14.base; clear d14 D13))
          go_ret
          exact ⟨rfl, D14.out⟩
        · injection e with e1 e2 e3
          subst e1 e3
          clear e2
          rw [hXl.out] at g1
          unfold maxLen at g2
          obtain ⟨q, hq⟩ : ∃ q, q = m2 % (ln + 1) := ⟨_, rfl⟩
          have hql : q ≤ ln := by have := Nat.mod_lt m2 (show 0 < ln + 1 by omega); omega
          have hqz : (m2 : Int) % ((ln : Int) + 1) = (q : Int) := by rw [hq]; simp
          have HQc := hid (q_cut X q (by rw [hXl.out]; exact hql))
          have HQl := hid (show q ≤ X.length from by rw [hXl.out]; exact hql)
          have HQb := hid (show writeC (qn sY (X.take q)) sY ((q : Int) + 1) B = 1 from by
            have e := q_beyond (X.take q) B
            rw [List.length_take, hXl.out, show min q ln = q by omega] at e
            exact e)
          have z1 : (q : Int) ≤ (cw : Int) := by omega
          have z2 : (cw : Int) ≤ 9223372036854775807 := by omega
          have z3 : (0 : Int) ≤ (q : Int) := by omega
          have z4 : (ln : Int) ≤ 8000 := by omega
          clear hq HLn hXl g1 g2
          go_wp2_with (first | (go_at_call 17; refine (readD w _ db _ _ sX HD2.out).mono ?_; rintro e w7 ⟨v7, rfl, o7, u7, -⟩; rw [(q_read sX X misX).1]; rw [(q_read sX X misX).2] at o7; have R7 := hid o7.row; have O7 := hid (HO.out.old u7); have D7 := hid (HD2.out.old u7); clear u7 o7 HD2 HO) | (go_at_call 20; refine (sameL _ _ X _ R7.out O7.out.row).mono ?_; rintro e w8 ⟨rfl, u8⟩; have O8 := hid (O7.out.old u8); have D8 := hid (D7.out.old u8); clear u8 R7 O7 D7) | (go_at_call 21; refine (cutD w _ db _ _ sX _ D8.out).mono ?_; rintro e w9 ⟨rfl, d9, k9⟩; have QC := HQc.out; rw [QC.1]; rw [QC.2] at d9; have O9 := hid (O8.out.kp k9 (fun g' e => Option.mem_toList.2 e)); have D9 := hid d9; clear d9 k9 QC O8 D8) | (go_at_call 22; refine (renameD w _ db _ _ sX sY D9.out).mono ?_; rintro e w10 ⟨rfl, d10, k10⟩; rw [(q_rename _).1]; rw [(q_rename _).2] at d10; have O10 := hid (O9.out.kp k10 (fun g' e => Option.mem_toList.2 e)); have D10 := hid d10; clear d10 k10 O9 D9) | (go_at_call 17; refine (readD w _ db _ _ sY D10.out).mono ?_; rintro e w11 ⟨v11, rfl, o11, u11, -⟩; rw [(q_read sY _ misY).1]; rw [(q_read sY _ misY).2] at o11; have R11 := hid o11.row; have O11 := hid (O10.out.old u11); have D11 := hid (D10.out.old u11); clear u11 o11 D10 O10) | (go_at_call 17; refine (readD w _ db _ _ sX D11.out).mono ?_; rintro e w12 ⟨v12, rfl, -, u12, -⟩; rw [q_readX]; have R12 := hid (R11.out.old u12); have O12 := hid (O11.out.old u12); have D12 := hid (D11.out.old u12); clear u12 R11 D11 O11) | (go_at_call 20; refine (sameL _ _ (X.take q) _ R12.out (O12.out.row.take q HQl.out)).mono ?_; rintro e w13 ⟨rfl, u13⟩; have D13 := hid (D12.out.old u13); clear u13 R12 O12 D12) | (go_at_call 13; refine (writeD w _ db _ _ sY ((q : Int) + 1) _ B D13.out (HB.out.old D13.out.base) (fun h0 g' e => .inl (HB.out.lt (List.length_pos_iff.2 h0) g' e)) (by omega)).mono ?_; rintro e w14 ⟨rfl, d14, -⟩; rw [HQb.out]; have D14 := hid d14.base; clear d14 D13))
          go_ret
          exact ⟨rfl, D14.out⟩
end Go.Proofs.Ytggmejddihbhnaa
