/- sub's readKeys and readSpans where no such rows stand; conditions: the Reader lies in memory, alive. -/
import Derived.Test.YtajoodkapiifcaaGreatIa
namespace Go.Proofs.YtajoodkapiifcaaGreat
open Go.RowKit Go.Lib
set_option linter.unusedVariables false
set_option linter.unusedSimpArgs false
set_option maxRecDepth 20000
def Ends (R : Nat) (w : World) (e : Ending) (w' : World) : Prop := e = .panicked (Pk.ended R) ∧ Pk.RF w' R 30 ∧ Pk.Chg [R] w w'
theorem RL.drop {w : World} {R b0 k : Nat} {L : List Nat} (h : Pk.RB w R b0 (L.length - k) (Pk.sh k (Pk.gd L))) : RL w R b0 (L.drop k) := by
 unfold RL
 rw [gd_drop, List.length_drop]
 exact h
theorem tkN_none {L : List Nat} (h : tkN L = none) : Pk.lnK (Pk.gd L) L.length = 0 := by
 unfold tkN at h
 split at h
 ·assumption
 ·cases h
theorem tkK_none {L : List Nat} (h : tkK L = none) : Pk.lkK (Pk.gd L) L.length = 0 := by
 unfold tkK at h
 split at h
 ·assumption
 ·cases h
theorem rdNum_no (R b0 : Nat) (L : List Nat) (w : World) (h : RL w R b0 L) (hn : tkN L = none) : Calls Tryz.prog 47 #[.pointer (some ⟨R, 0, none⟩)] w fun e w' => Ends R w e w' :=
 Pk.rnum_no R b0 _ _ w h (tkN_none hn)
theorem rdKey_no (R b0 : Nat) (L : List Nat) (w : World) (h : RL w R b0 L) (hn : tkK L = none) : Calls Tryz.prog 76 #[.pointer (some ⟨R, 0, none⟩)] w fun e w' => Ends R w e w' :=
 Pk.rkey_no R b0 _ _ w h (tkK_none hn)
theorem rdKey_at (R b0 : Nat) (L : List Nat) (x : Nat) (B : List Nat) (w : World) (h : RL w R b0 L) (hb : b0 ≠ R) (hn : tkK L = some (x, B)) : Calls Tryz.prog 76 #[.pointer (some ⟨R, 0, none⟩)] w fun e w' => e = .returned (.float .f64 x) ∧ RL w' R b0 B ∧ Pk.Chg [R] w w' := by
 unfold tkK at hn
 split at hn
 ·cases hn
 ·rename_i hk
  cases hn
  refine (Pk.rkey_ok R b0 _ _ w h hb hk).mono fun e w' q => ⟨q.1, RL.drop q.2.1, q.2.2⟩
theorem rdCount_no (R b0 most : Nat) (L : List Nat) (w : World) (h : RL w R b0 L) (hb : b0 ≠ R) (hn : tkC most L = none) : Calls Tryz.prog 75 #[.pointer (some ⟨R, 0, none⟩), .int .i64 (most : Int)] w fun e w' => Ends R w e w' := by
 refine Pk.rcount_no R b0 _ _ (most : Int) w h hb ?_
 unfold tkC tkN at hn
 by_cases q : Pk.lnK (Pk.gd L) L.length = 0
 ·exact .inl q
 ·rw [if_neg q] at hn
  simp only at hn
  split at hn
  ·cases hn
  ·rename_i k
   right; omega
theorem rdCount_at (R b0 most n : Nat) (L B : List Nat) (w : World) (h : RL w R b0 L) (hb : b0 ≠ R) (hm : most ≤ 1000000) (hn : tkC most L = some (n, B)) : Calls Tryz.prog 75 #[.pointer (some ⟨R, 0, none⟩), .int .i64 (most : Int)] w fun e w' => e = .returned (.int .i64 (n : Int)) ∧ RL w' R b0 B ∧ Pk.Chg [R] w w' := by
 unfold tkC tkN at hn
 by_cases q : Pk.lnK (Pk.gd L) L.length = 0
 ·rw [if_pos q] at hn; cases hn
 ·rw [if_neg q] at hn
  simp only at hn
  split at hn
  ·rename_i k
   cases hn
   refine (Pk.rcount_ok R b0 _ _ (most : Int) w h hb q k.1 k.2 (by omega)).mono fun e w' p => ⟨?_, RL.drop p.2.1, p.2.2⟩
   rw [p.1, show ((Pk.lnV (Pk.gd L) L.length).toNat : Int) = Pk.lnV (Pk.gd L) L.length by omega]
  ·cases hn
theorem RowG.any {w : World} {g n : Nat} {x : Nat → Nat} (h : RowG w g n x 0) (k : Nat) (v : Value) : RowG (w.setCell ⟨g, k, none⟩ v) g n x 0 := by
 obtain ⟨cur, h1, h2, h3⟩ := h
 exact ⟨cur.setIfInBounds k v, heap_setCell_same w g k _ _ _ h1, by simp [h2], fun i hi => by omega⟩
def RowK (w : World) (g n : Nat) : Prop := ∃ cur : Array Value, w.heap[g]? = some (.cells cur 31 (0, 0)) ∧ cur.size = n * 4
theorem RowH.toK {w : World} {g n k : Nat} {f : Nat → Sp} (h : RowH w g n f k) : RowK w g n := by
 obtain ⟨cur, h1, h2, _⟩ := h
 exact ⟨cur, h1, h2⟩
theorem RowK.chg {S : List Nat} {w w' : World} {g n : Nat} (h : RowK w g n) (c : Pk.Chg S w w') (hn : g ∉ S) : RowK w' g n := by
 obtain ⟨cur, h1, h2⟩ := h
 exact ⟨cur, by rw [c.block g (heapLt h1) hn]; exact h1, h2⟩
theorem RowK.cell {w : World} {g n : Nat} (h : RowK w g n) (i : Nat) (hi : i < n * 4) : (∃ z, w.cell? ⟨g, i, none⟩ = some z) ∧ w.frozen? ⟨g, i, none⟩ = false := by
 obtain ⟨cur, h1, h2⟩ := h
 refine ⟨⟨cur[i]'(by omega), ?_⟩, by simp [World.frozen?, h1]⟩
 simp [World.cell?, h1, h2, hi]
theorem RowK.any {w : World} {g n : Nat} (h : RowK w g n) (k : Nat) (v : Value) : RowK (w.setCell ⟨g, k, none⟩ v) g n := by
 obtain ⟨cur, h1, h2⟩ := h
 exact ⟨cur.setIfInBounds k v, heap_setCell_same w g k _ _ _ h1, by simp [h2]⟩
attribute [local go_sem] run_bits run_frombits run_store_float eqF
set_option maxHeartbeats 400000 in
theorem readKeys_no1 (R b0 most : Nat) (L : List Nat) (w : World) (h : RL w R b0 L) (hb : b0 ≠ R) (hn : tkC most L = none) :
    Calls Tryz.prog 48 #[.pointer (some ⟨R, 0, none⟩), .int .i64 (most : Int)] w fun e w' => Ends R w e w' := by
 have HC := hid (rdCount_no R b0 most L w h hb hn)
 clear h hn
 unfold Ends at *
 unfold Pk.ended at *
 go_enter Tryz.func48, Tryz.ntmps48
 go_wp2_with (first | (go_at_call 75; refine HC.out.mono ?_; rintro e w1 ⟨rfl, r1, c1⟩))
 exact ⟨rfl, rfl, r1, c1⟩
set_option maxHeartbeats 1000000 in
theorem readKeys_no2 (R b0 most n : Nat) (L B : List Nat) (hm : most ≤ 1000000) (w : World) (h : RL w R b0 L) (hb : b0 ≠ R) (hR : R < w.heap.size) (hb0 : b0 < w.heap.size) (hL : tkC most L = some (n, B)) (hnm : n ≤ most) (hn : tkKs n B = none) :
    Calls Tryz.prog 48 #[.pointer (some ⟨R, 0, none⟩), .int .i64 (most : Int)] w fun e w' => Ends R w e w' := by
 have HC := hid (rdCount_at R b0 most n L B w h hb hm hL)
 have hn1 : n ≤ 1000000 := by omega
 have hmk := fun W => mkF n hn1 W
 have HN := hid hn
 clear h hn hL
 unfold Ends at *
 unfold Pk.ended at *
 go_enter Tryz.func48, Tryz.ntmps48
 go_upto_region 2 with (first | (go_at_call 75; refine HC.out.mono ?_; rintro e w1 ⟨rfl, r1, c1⟩; have R1 := hid r1; have C1 := hid c1; clear r1 c1))
 clear hmk HC
 generalize hw2 : w1.alloc (.cells (madeCells #[.float .f64 0] n) 22) = w2 at *
 generalize hg : w1.heap.size = g at *
 obtain ⟨hG, hU⟩ := RowG.new w1 n (fun _ => 0) w2 hw2 g hg
 have HG := hid (show w.heap.size ≤ g by have := C1.out.size; omega)
 have HI := hid (show RowG w2 g n (fun _ => 0) 0 ∧ RL w2 R b0 B ∧ Pk.Chg [R] w w2 from ⟨hG, R1.out.chg (S := []) (Pk.Chg.old hU) (by simp) (by simp), C1.out.trans (Pk.Chg.old hU)⟩)
 clear hw2 hg hG hU R1 C1
 go_wp2
 go_loopw [13] (fun i wr => ∃ (k : Nat) (D : List Nat), k ≤ n ∧ i = .int .i64 (k : Nat) ∧ RowG wr g n (fun _ => 0) 0 ∧ RL wr R b0 D ∧ tkKs (n - k) D = none ∧ Pk.Chg [R] w wr) (fun i _ => n - (intOf i).toNat)
 case atStart => exact ⟨0, B, Nat.zero_le _, rfl, HI.out.1, HI.out.2.1, HN.out, HI.out.2.2⟩
 case round =>
  obtain ⟨k, D, hk, rfl, hG, hL, hD, hU⟩ := hrel
  have G := hid hG
  have U := hid hU
  have hlt : k < n := by
   by_cases q : k < n
   ·exact q
   ·rw [show n - k = 0 by omega] at hD; cases hD
  rw [show n - k = (n - k - 1) + 1 by omega] at hD
  unfold tkKs at hD
  have l1 : (0 : Int) ≤ (k : Int) := by omega
  have l2 : (k : Int) < (n : Int) := by omega
  cases e : tkK D with
  | none =>
   have HK := hid (rdKey_no R b0 D wr hL e)
   unfold Ends Pk.ended at HK
   clear hG hL hU HI hD e HN
   go_wp2_with (first | (go_at_call 76; refine HK.out.mono ?_; rintro e w3 ⟨rfl, r3, c3⟩))
   exact ⟨rfl, rfl, r3, U.out.trans c3⟩
  | some p =>
   obtain ⟨xk, D'⟩ := p
   rw [e] at hD
   simp only at hD
   have HD := hid (show tkKs (n - (k + 1)) D' = none from by
    rw [show n - (k + 1) = n - k - 1 by omega]
    cases e2 : tkKs (n - k - 1) D' with
    | none => rfl
    | some q => rw [e2] at hD; cases hD)
   have HK := hid (rdKey_at R b0 D xk D' wr hL hb e)
   clear hG hL hU HI hD e HN
   go_wp2_with (first | (go_at_call 76; refine HK.out.mono ?_; rintro e w3 ⟨rfl, r3, c3⟩; have G3 := hid (G.out.chg c3 (by simp; have := HG.out; omega)); have R3 := hid r3; have U3 := hid (U.out.trans c3); obtain ⟨⟨z3, q3⟩, f3⟩ := G3.out.cell k hlt; clear r3 c3))
   go_roundw
   case rel => exact ⟨k + 1, D', hlt, by go_num, G3.out.any k _, R3.out.chg (S := [g]) (Pk.Chg.set' _ ⟨g, k, none⟩ _) (by simp; have := HG.out; omega) (by simp; have := HG.out; omega), HD.out, U3.out.trans' (Pk.Chg.set' _ ⟨g, k, none⟩ _) (by simp; have := HG.out; omega)⟩
   case measure => simp [intOf]; omega
theorem readKeys_no (R b0 most : Nat) (L : List Nat) (hm : most ≤ 1000000) (w : World) (h : RL w R b0 L) (hL : LB L) (hb : b0 ≠ R) (hR : R < w.heap.size) (hb0 : b0 < w.heap.size) (hn : tkR most 1 L = none) :
    Calls Tryz.prog 48 #[.pointer (some ⟨R, 0, none⟩), .int .i64 (most : Int)] w fun e w' => Ends R w e w' := by
 cases e : tkC most L with
 | none => exact readKeys_no1 R b0 most L w h hb e
 | some p =>
  obtain ⟨n, B⟩ := p
  unfold tkR at hn
  rw [e] at hn
  simp only [Nat.mul_one] at hn
  exact readKeys_no2 R b0 most n L B hm w h hb hR hb0 e (tkC_some hL e).2.1 hn
set_option maxHeartbeats 400000 in
theorem readSpans_no1 (R b0 most : Nat) (L : List Nat) (w : World) (h : RL w R b0 L) (hb : b0 ≠ R) (hn : tkC most L = none) :
    Calls Tryz.prog 49 #[.pointer (some ⟨R, 0, none⟩), .int .i64 (most : Int)] w fun e w' => Ends R w e w' := by
 have HC := hid (rdCount_no R b0 most L w h hb hn)
 clear h hn
 unfold Ends at *
 unfold Pk.ended at *
 go_enter Tryz.func49, Tryz.ntmps49
 go_wp2_with (first | (go_at_call 75; refine HC.out.mono ?_; rintro e w1 ⟨rfl, r1, c1⟩))
 exact ⟨rfl, rfl, r1, c1⟩
set_option maxHeartbeats 1000000 in
theorem readSpans_no2 (R b0 most n : Nat) (L B : List Nat) (hm : most ≤ 1000000) (w : World) (h : RL w R b0 L) (hb : b0 ≠ R) (hR : R < w.heap.size) (hb0 : b0 < w.heap.size) (hL : tkC most L = some (n, B)) (hnm : n ≤ most) (hn : tkKs (n * 2) B = none) :
    Calls Tryz.prog 49 #[.pointer (some ⟨R, 0, none⟩), .int .i64 (most : Int)] w fun e w' => Ends R w e w' := by
 have HC := hid (rdCount_at R b0 most n L B w h hb hm hL)
 have hn1 : n ≤ 1000000 := by omega
 have hmk := fun W => mkS n hn1 W
 have HN := hid hn
 clear h hn hL
 unfold Ends at *
 unfold Pk.ended at *
 go_enter Tryz.func49, Tryz.ntmps49
 go_upto_region 2 with (first | (go_at_call 75; refine HC.out.mono ?_; rintro e w1 ⟨rfl, r1, c1⟩; have R1 := hid r1; have C1 := hid c1; clear r1 c1))
 clear hmk HC
 generalize hw2 : w1.alloc (.cells (madeCells #[.float .f64 0, .float .f64 0, .bool false, .bool false] (n * 4)) 31) = w2 at *
 generalize hg : w1.heap.size = g at *
 obtain ⟨hG, hU⟩ := RowH.new w1 n (fun _ => ⟨0, 0, false, false⟩) w2 hw2 g hg
 have HG := hid (show w.heap.size ≤ g by have := C1.out.size; omega)
 have HI := hid (show RowK w2 g n ∧ RL w2 R b0 B ∧ Pk.Chg [R] w w2 from ⟨hG.toK, R1.out.chg (S := []) (Pk.Chg.old hU) (by simp) (by simp), C1.out.trans (Pk.Chg.old hU)⟩)
 clear hw2 hg hG hU R1 C1
 go_wp2
 go_loopw [13] (fun i wr => ∃ (k : Nat) (D : List Nat), k ≤ n ∧ i = .int .i64 (k : Nat) ∧ RowK wr g n ∧ RL wr R b0 D ∧ tkKs ((n - k) * 2) D = none ∧ Pk.Chg [R] w wr) (fun i _ => n - (intOf i).toNat)
 case atStart => exact ⟨0, B, Nat.zero_le _, rfl, HI.out.1, HI.out.2.1, HN.out, HI.out.2.2⟩
 case round =>
  obtain ⟨k, D, hk, rfl, hG, hL, hD, hU⟩ := hrel
  have G := hid hG
  have U := hid hU
  have hlt : k < n := by
   by_cases q : k < n
   ·exact q
   ·rw [show (n - k) * 2 = 0 by omega] at hD; cases hD
  rw [show (n - k) * 2 = ((n - (k + 1)) * 2 + 1) + 1 by omega] at hD
  unfold tkKs at hD
  have l1 : (0 : Int) ≤ (k : Int) := by omega
  have l2 : (k : Int) < (n : Int) := by omega
  have HNE := hid (show g ∉ [R] by simp; have := HG.out; omega)
  cases e : tkK D with
  | none =>
   have HK := hid (rdKey_no R b0 D wr hL e)
   unfold Ends Pk.ended at HK
   clear hG hL hU HI hD e HN
   go_wp2_with (first | (go_at_call 76; refine HK.out.mono ?_; rintro e w3 ⟨rfl, r3, c3⟩))
   exact ⟨rfl, rfl, r3, U.out.trans c3⟩
  | some p =>
   obtain ⟨xa, D1⟩ := p
   rw [e] at hD
   simp only at hD
   have hD1 : tkKs ((n - (k + 1)) * 2 + 1) D1 = none := by
    cases e2 : tkKs ((n - (k + 1)) * 2 + 1) D1 with
    | none => rfl
    | some q => rw [e2] at hD; cases hD
   unfold tkKs at hD1
   have HK := hid (rdKey_at R b0 D xa D1 wr hL hb e)
   cases e3 : tkK D1 with
   | none =>
    have HK2 := hid (fun (W : World) (q : RL W R b0 D1) => rdKey_no R b0 D1 W q e3)
    unfold Ends Pk.ended at HK2
    clear hG hL hU HI hD e HN hD1 e3
    go_wp2_with (first | (go_at_call 76; first | (refine HK.out.mono ?_; rintro e w3 ⟨rfl, r3, c3⟩; have R3 := hid r3; have U3 := hid (U.out.trans c3); clear r3 c3) | (refine (HK2.out _ R3.out).mono ?_; rintro e w4 ⟨rfl, r4, c4⟩)))
    exact ⟨rfl, rfl, r4, U3.out.trans c4⟩
   | some p3 =>
    obtain ⟨xb, D2⟩ := p3
    rw [e3] at hD1
    simp only at hD1
    have HD := hid (show tkKs ((n - (k + 1)) * 2) D2 = none from by
     cases e2 : tkKs ((n - (k + 1)) * 2) D2 with
     | none => rfl
     | some q => rw [e2] at hD1; cases hD1)
    have HK2 := hid (fun (W : World) (q : RL W R b0 D1) => rdKey_at R b0 D1 xb D2 W q hb e3)
    clear hG hL hU HI hD e HN hD1 e3
    go_upto_region 6 with (first | (go_at_call 76; first | (refine HK.out.mono ?_; rintro e w3 ⟨rfl, r3, c3⟩; have G3 := hid (G.out.chg c3 HNE.out); have R3 := hid r3; have U3 := hid (U.out.trans c3); clear r3 c3) | (refine (HK2.out _ R3.out).mono ?_; rintro e w4 ⟨rfl, r4, c4⟩; have G4 := hid (G3.out.chg c4 HNE.out); have R4 := hid r4; have U4 := hid (U3.out.trans c4); obtain ⟨⟨z3, q3⟩, f3⟩ := G4.out.cell (k * 4) (by omega); obtain ⟨⟨z4, q4⟩, f4⟩ := G4.out.cell (k * 4 + 1) (by omega); clear r4 c4)))
    go_wp2
    go_roundw
    case rel => exact ⟨k + 1, D2, hlt, by go_num, (G4.out.any (k * 4) _).any (k * 4 + 1) _, (R4.out.chg (S := [g]) (Pk.Chg.set' _ ⟨g, k * 4, none⟩ _) (by simp; have := HG.out; omega) (by simp; have := HG.out; omega)).chg (S := [g]) (Pk.Chg.set' _ ⟨g, k * 4 + 1, none⟩ _) (by simp; have := HG.out; omega) (by simp; have := HG.out; omega), HD.out, (U4.out.trans' (Pk.Chg.set' _ ⟨g, k * 4, none⟩ _) (by simp; have := HG.out; omega)).trans' (Pk.Chg.set' _ ⟨g, k * 4 + 1, none⟩ _) (by simp; have := HG.out; omega)⟩
    case measure => simp [intOf]; omega
theorem readSpans_no (R b0 most : Nat) (L : List Nat) (hm : most ≤ 1000000) (w : World) (h : RL w R b0 L) (hL : LB L) (hb : b0 ≠ R) (hR : R < w.heap.size) (hb0 : b0 < w.heap.size) (hn : tkR most 2 L = none) :
    Calls Tryz.prog 49 #[.pointer (some ⟨R, 0, none⟩), .int .i64 (most : Int)] w fun e w' => Ends R w e w' := by
 cases e : tkC most L with
 | none => exact readSpans_no1 R b0 most L w h hb e
 | some p =>
  obtain ⟨n, B⟩ := p
  unfold tkR at hn
  rw [e] at hn
  exact readSpans_no2 R b0 most n L B hm w h hb hR hb0 e (tkC_some hL e).2.1 hn
end Go.Proofs.YtajoodkapiifcaaGreat
