/- The value with which bytes begin, as the document's One has it; conditions: the row lies in memory. -/
import Derived.Test.YtpofccnifecpfaaGn
import Derived.Test.YtpofccnifecpfaaSv
import Derived.Deep.Cut
namespace Go.Proofs.Ytpofccnifecpfaa
open Go.RowKit
set_option linter.unusedVariables false
attribute [local go_sem] run_bits run_frombits run_store_float
theorem BoxR.free {w : World} {b : Nat} {p : Array Value} (h : BoxR w b p) (j : Nat) : w.frozen? ⟨b, j, none⟩ = false := by unfold BoxR at h; simp [World.frozen?, h]
theorem BoxR.lt {w : World} {b : Nat} {p : Array Value} (h : BoxR w b p) : b < w.heap.size := lt_of_block h
theorem boxes (w : World) (q : Int) : (BoxR ((w.alloc (.cells #[.int .i64 0, .int .i64 0, .float .f64 0, .slice none 0 0, .bool false] 57)).alloc (.cells #[.int .i64 q, .int .i64 0, .float .f64 0, .slice none 0 0, .bool false] 57)) w.heap.size #[.int .i64 0, .int .i64 0, .float .f64 0, .slice none 0 0, .bool false] ∧ BoxR ((w.alloc (.cells #[.int .i64 0, .int .i64 0, .float .f64 0, .slice none 0 0, .bool false] 57)).alloc (.cells #[.int .i64 q, .int .i64 0, .float .f64 0, .slice none 0 0, .bool false] 57)) (w.heap.size + 1) #[.int .i64 q, .int .i64 0, .float .f64 0, .slice none 0 0, .bool false]) ∧ Up w ((w.alloc (.cells #[.int .i64 0, .int .i64 0, .float .f64 0, .slice none 0 0, .bool false] 57)).alloc (.cells #[.int .i64 q, .int .i64 0, .float .f64 0, .slice none 0 0, .bool false] 57)) := by
  refine ⟨⟨?_, ?_⟩, ((Up.refl w).alloc _).alloc _⟩
  · unfold BoxR; rw [Below.heap_alloc _ _ _ (by simp)]; exact heap_new _ _
  · have := heap_new (w.alloc (.cells #[.int .i64 0, .int .i64 0, .float .f64 0, .slice none 0 0, .bool false] 57)) (.cells #[.int .i64 q, .int .i64 0, .float .f64 0, .slice none 0 0, .bool false] 57)
    rw [show (w.alloc (.cells #[.int .i64 0, .int .i64 0, .float .f64 0, .slice none 0 0, .bool false] 57)).heap.size = w.heap.size + 1 by simp] at this
    exact this
theorem one_nil (W : World) : ByRow W (.slice none 0 0) 0 (fun _ => 0) := .inl ⟨rfl, none, 0, rfl, fun _ => rfl⟩
/-- What One answers. -/
def OneOut (w : World) (q : Int) (n : Nat) (x : Nat → Nat) (e : Ending) (w' : World) : Prop := ∃ p : PV, e = .returned (.tuple #[p.agg, .int .i64 (vK q x n : Nat)]) ∧ PV.In w' p ∧ (vK q x n ≠ 0 → IsV q x n p ∧ (p.bn = 0 ∨ ∃ g, p.b.ownBlock = some g ∧ w.heap.size ≤ g)) ∧ Up w w'
set_option maxHeartbeats 400000 in
theorem one_1 (v : Value) (n : Nat) (x : Nat → Nat) (w : World) (hv : ByRow w v n x) :
    Calls Try.prog 41 #[v, .int .i64 1] w fun e w' => OneOut w 1 n x e w' := by
  have hvin := hid (lnV_in x n hv.lt)
  have HN := hid (fun (W : World) (hW : Up w W) => refGetNum_any v n x W (hv.up hW))
  have HK : vK 1 x n = lnK x n := by simp [vK]
  have HI : Hid (∀ b, IsV 1 x n ⟨1, lnV x n, 0, .slice none 0 0, 0, b, false⟩) := fun b => ⟨rfl, rfl, rfl, rfl, fun i hi => absurd hi (by simp), rfl, fun _ _ => rfl⟩
  obtain ⟨va, vc, rfl⟩ := hv.slice
  unfold OneOut
  rw [HK]
  clear hv HK
  generalize lnV x n = V at *
  generalize lnK x n = K at *
  go_enter Try.func41, Try.ntmps41
  go_upto_region 2 with fail
  have hbx := boxes w 1
  generalize ((w.alloc (.cells #[.int .i64 0, .int .i64 0, .float .f64 0, .slice none 0 0, .bool false] 57)).alloc (.cells #[.int .i64 1, .int .i64 0, .float .f64 0, .slice none 0 0, .bool false] 57)) = WW at hbx ⊢
  obtain ⟨⟨hb4, hb5⟩, uW⟩ := hbx
  have hb6 : BoxR (WW.setCell ⟨w.heap.size + 1, 1, none⟩ (.int .i64 V)) (w.heap.size + 1) #[.int .i64 1, .int .i64 V, .float .f64 0, .slice none 0 0, .bool false] := heap_setCell_same _ (w.heap.size + 1) 1 _ _ (.int .i64 V) hb5
  have hb7 : BoxR (WW.setCell ⟨w.heap.size + 1, 1, none⟩ (.int .i64 V)) w.heap.size #[.int .i64 0, .int .i64 0, .float .f64 0, .slice none 0 0, .bool false] := (Below.heap_setCell _ _ _ _ (by simp)).trans hb4
  have f1 := hb5.free 1
  have d1 := hb5.cell 1 _ rfl
  have q0 := (hb6).cell 0 _ rfl
  have q1 := (hb6).cell 1 _ rfl
  have q2 := (hb6).cell 2 _ rfl
  have q3 := (hb6).cell 3 _ rfl
  have q4 := (hb6).cell 4 _ rfl
  have p0 := (hb7).cell 0 _ rfl
  have p1 := (hb7).cell 1 _ rfl
  have p2 := (hb7).cell 2 _ rfl
  have p3 := (hb7).cell 3 _ rfl
  have p4 := (hb7).cell 4 _ rfl
  have z0 := (hb7).free 0
  have z1 := (hb7).free 1
  have z2 := (hb7).free 2
  have z3 := (hb7).free 3
  have z4 := (hb7).free 4
  have HX4 := hid (hb7)
  have UW := hid uW
  clear hb4 hb5 hb6 hb7
  go_wp2_with (go_at_call 49; refine (HN.out _ UW.out).mono ?_; rintro e w1 ⟨rfl, hw⟩; have hw2 := hw.symm; subst hw2)
  have hfin := (((((HX4.out.put 0 (.int .i64 1)).put 1 (.int .i64 V)).put 2 (.float .f64 0)).put 3 (.slice none 0 0)).put 4 (.bool false))
  have UF : Up w ((((((WW.setCell ⟨w.heap.size + 1, 1, none⟩ (.int .i64 V)).setCell ⟨w.heap.size, 0, none⟩ (.int .i64 1)).setCell ⟨w.heap.size, 1, none⟩ (.int .i64 V)).setCell ⟨w.heap.size, 2, none⟩ (.float .f64 0)).setCell ⟨w.heap.size, 3, none⟩ (.slice none 0 0)).setCell ⟨w.heap.size, 4, none⟩ (.bool false)) := (((((uW.setCell (p := ⟨w.heap.size + 1, 1, none⟩) (Nat.le_succ _) _).setCell (Nat.le_refl _) _).setCell (Nat.le_refl _) _).setCell (Nat.le_refl _) _).setCell (Nat.le_refl _) _).setCell (Nat.le_refl _) _
  have g0 := hfin.cell 0 (.int .i64 1) rfl
  have g1 := hfin.cell 1 (.int .i64 V) rfl
  have g2 := hfin.cell 2 (.float .f64 0) rfl
  have g3 := hfin.cell 3 (.slice none 0 0) rfl
  have g4 := hfin.cell 4 (.bool false) rfl
  refine bodyPost_ret (v := .tuple #[.agg #[.int .i64 1, .int .i64 V, .float .f64 0, .slice none 0 0, .bool false], .int .i64 (K : Nat)]) (by simp [results, Try.results41, go_sem, g0, g1, g2, g3, g4]) rfl ⟨⟨1, V, 0, .slice none 0 0, 0, fun _ => 0, false⟩, by first | rfl | (simp [PV.agg]; done), ⟨by simp, hvin.out, by simp, one_nil _⟩, fun _ => ⟨HI.out _, .inl rfl⟩, UF⟩
set_option maxHeartbeats 400000 in
theorem one_2short (v : Value) (n : Nat) (x : Nat → Nat) (w : World) (hv : ByRow w v n x) (hn : n < 8) :
    Calls Try.prog 41 #[v, .int .i64 2] w fun e w' => OneOut w 2 n x e w' := by
  have HK : vK 2 x n = 0 := by show lkK x n = 0; unfold lkK; rw [if_neg (by omega)]
  obtain ⟨va, vc, rfl⟩ := hv.slice
  unfold OneOut
  rw [HK]
  clear hv HK
  go_enter Try.func41, Try.ntmps41
  go_upto_region 2 with fail
  have hbx := boxes w 2
  generalize ((w.alloc (.cells #[.int .i64 0, .int .i64 0, .float .f64 0, .slice none 0 0, .bool false] 57)).alloc (.cells #[.int .i64 2, .int .i64 0, .float .f64 0, .slice none 0 0, .bool false] 57)) = WW at hbx ⊢
  obtain ⟨⟨hb4, hb5⟩, uW⟩ := hbx
  have q0 := (hb5).cell 0 _ rfl
  have q1 := (hb5).cell 1 _ rfl
  have q2 := (hb5).cell 2 _ rfl
  have q3 := (hb5).cell 3 _ rfl
  have q4 := (hb5).cell 4 _ rfl
  have p0 := (hb4).cell 0 _ rfl
  have p1 := (hb4).cell 1 _ rfl
  have p2 := (hb4).cell 2 _ rfl
  have p3 := (hb4).cell 3 _ rfl
  have p4 := (hb4).cell 4 _ rfl
  have z0 := (hb4).free 0
  have z1 := (hb4).free 1
  have z2 := (hb4).free 2
  have z3 := (hb4).free 3
  have z4 := (hb4).free 4
  have HX4 := hid (hb4)
  clear hb4 hb5
  go_wp2
  have hfin := (((((HX4.out.put 0 (.int .i64 2)).put 1 (.int .i64 0)).put 2 (.float .f64 0)).put 3 (.slice none 0 0)).put 4 (.bool false))
  have UF : Up w (((((WW.setCell ⟨w.heap.size, 0, none⟩ (.int .i64 2)).setCell ⟨w.heap.size, 1, none⟩ (.int .i64 0)).setCell ⟨w.heap.size, 2, none⟩ (.float .f64 0)).setCell ⟨w.heap.size, 3, none⟩ (.slice none 0 0)).setCell ⟨w.heap.size, 4, none⟩ (.bool false)) := (((((uW).setCell (Nat.le_refl _) _).setCell (Nat.le_refl _) _).setCell (Nat.le_refl _) _).setCell (Nat.le_refl _) _).setCell (Nat.le_refl _) _
  have g0 := hfin.cell 0 (.int .i64 2) rfl
  have g1 := hfin.cell 1 (.int .i64 0) rfl
  have g2 := hfin.cell 2 (.float .f64 0) rfl
  have g3 := hfin.cell 3 (.slice none 0 0) rfl
  have g4 := hfin.cell 4 (.bool false) rfl
  refine bodyPost_ret (v := .tuple #[.agg #[.int .i64 2, .int .i64 0, .float .f64 0, .slice none 0 0, .bool false], .int .i64 0]) (by simp [results, Try.results41, go_sem, g0, g1, g2, g3, g4]) rfl ⟨⟨2, 0, 0, .slice none 0 0, 0, fun _ => 0, false⟩, by first | rfl | (simp [PV.agg]; done), ⟨by simp, by simp, by simp, one_nil _⟩, fun h => absurd rfl h, UF⟩
set_option maxHeartbeats 1000000 in
theorem one_2 (b off n cap : Nat) (x : Nat → Nat) (w : World) (hn : 8 ≤ n) (hnc : n ≤ cap) (hm : cap ≤ maxLen) (hc : ∀ i, i < n → x i < 256 ∧ w.cell? ⟨b, off + i, none⟩ = some (.int .u8 (x i : Int))) :
    Calls Try.prog 41 #[.slice (some ⟨b, off, none⟩) n cap, .int .i64 2] w fun e w' => OneOut w 2 n x e w' := by
  unfold maxLen at hm
  have HL := hid (lkC_lt x n (fun i hi => (hc i hi).1))
  have HW : Fl.W (lkC x 8) := by have := HL.out 8 hn; unfold Fl.W; exact Nat.lt_of_lt_of_le this (by decide)
  have HIC := hid (fun W => isCode_any (lkC x 8) HW W)
  have HOF := hid (fun W => rof_any (lkC x 8) HW W)
  have HLT := hid (Fl.of_lt (lkC x 8) HW)
  have HC := hid (fun (W : World) (hW : Up w W) i hi => (⟨(hc i hi).1, hW.keep (hc i hi).2⟩ : x i < 256 ∧ W.cell? ⟨b, off + i, none⟩ = some (.int .u8 (x i : Int))))
  have HKy : Hid (Fl.isCode (lkC x 8) = true → vK 2 x n = 8 ∧ lkV x n = Fl.of (lkC x 8)) := fun h => ⟨by show lkK x n = 8; unfold lkK; rw [if_pos ⟨hn, h⟩], by unfold lkV; rw [if_pos ⟨hn, h⟩]⟩
  have HKn : Hid (Fl.isCode (lkC x 8) = false → vK 2 x n = 0) := fun h => by show lkK x n = 0; unfold lkK; rw [if_neg (by simp [h])]
  clear hc HW
  unfold OneOut
  generalize hKK : vK 2 x n = KK
  have HKK := hid hKK
  clear hKK
  go_enter Try.func41, Try.ntmps41
  go_upto_region 2 with fail
  have hbx := boxes w 2
  generalize ((w.alloc (.cells #[.int .i64 0, .int .i64 0, .float .f64 0, .slice none 0 0, .bool false] 57)).alloc (.cells #[.int .i64 2, .int .i64 0, .float .f64 0, .slice none 0 0, .bool false] 57)) = WW at hbx ⊢
  obtain ⟨⟨hb4, hb5⟩, uW⟩ := hbx
  have HB4 := hid hb4
  have HB5 := hid hb5
  have UW := hid uW
  clear hb4 hb5 uW
  go_wp2
  go_loop [9, 10] (fun u i => ∃ k : Nat, k ≤ 8 ∧ i = .int .i64 (k : Nat) ∧ u = .int .u64 (lkC x k : Nat)) (fun _ i => 8 - (intOf i).toNat)
  case atStart => exact ⟨0, by omega, rfl, rfl⟩
  case round =>
    obtain ⟨k, hk, rfl, rfl⟩ := hrel
    by_cases hlt : k < 8
    · obtain ⟨hx, hcell⟩ := HC.out _ UW.out k (by omega)
      have h1 := HL.out k (by omega)
      have h2 : (256 : Nat) ^ k ≤ 256 ^ 7 := Nat.pow_le_pow_right (by omega) (by omega)
      have h3 : lkC x k < 72057594037927936 := Nat.lt_of_lt_of_le h1 (Nat.le_trans h2 (by decide))
      have HS : Hid (lkC x (k + 1) = lkC x k * 256 + x k) := rfl
      clear HC h1 h2 HL HKy HKn HIC HOF HLT
      generalize lkC x k = A at *
      have e1 : IntKind.u64.wrap ((A : Int) * 256) = (A : Int) * 256 := by rw [IntKind.wrap_u64]; omega
      have e2 : IntKind.u64.wrap ((A : Int) * 256 + (x k : Int)) = ((A * 256 + x k : Nat) : Int) := by rw [IntKind.wrap_u64]; omega
      go_wp2
      go_round
      case rel => exact ⟨k + 1, by omega, by go_num, by rw [HS.out]; first | rfl | (simp; done)⟩
      case measure => simp [intOf]; omega
    · obtain rfl : k = 8 := by omega
      have hb4 := HB4.out
      have hb5 := HB5.out
      have uW := UW.out
      cases hcode : Fl.isCode (lkC x 8)
      · rw [hcode] at HIC
        have hK0 : KK = 0 := HKK.out.symm.trans (HKn.out hcode)
        subst hK0
        clear HKy HKn HOF HLT HL HC hcode HKK
        generalize lkC x 8 = A at *
        have q0 := (hb5).cell 0 _ rfl
        have q1 := (hb5).cell 1 _ rfl
        have q2 := (hb5).cell 2 _ rfl
        have q3 := (hb5).cell 3 _ rfl
        have q4 := (hb5).cell 4 _ rfl
        have p0 := (hb4).cell 0 _ rfl
        have p1 := (hb4).cell 1 _ rfl
        have p2 := (hb4).cell 2 _ rfl
        have p3 := (hb4).cell 3 _ rfl
        have p4 := (hb4).cell 4 _ rfl
        have z0 := (hb4).free 0
        have z1 := (hb4).free 1
        have z2 := (hb4).free 2
        have z3 := (hb4).free 3
        have z4 := (hb4).free 4
        have HX4 := hid (hb4)
        clear hb4 hb5
        go_wp2_with (go_at_call 50; refine (HIC.out _).mono ?_; rintro e w1 ⟨rfl, hw⟩; have hw2 := hw.symm; subst hw2)
        have hfin := (((((HX4.out.put 0 (.int .i64 2)).put 1 (.int .i64 0)).put 2 (.float .f64 0)).put 3 (.slice none 0 0)).put 4 (.bool false))
        have UF : Up w (((((WW.setCell ⟨w.heap.size, 0, none⟩ (.int .i64 2)).setCell ⟨w.heap.size, 1, none⟩ (.int .i64 0)).setCell ⟨w.heap.size, 2, none⟩ (.float .f64 0)).setCell ⟨w.heap.size, 3, none⟩ (.slice none 0 0)).setCell ⟨w.heap.size, 4, none⟩ (.bool false)) := (((((uW).setCell (Nat.le_refl _) _).setCell (Nat.le_refl _) _).setCell (Nat.le_refl _) _).setCell (Nat.le_refl _) _).setCell (Nat.le_refl _) _
        have g0 := hfin.cell 0 (.int .i64 2) rfl
        have g1 := hfin.cell 1 (.int .i64 0) rfl
        have g2 := hfin.cell 2 (.float .f64 0) rfl
        have g3 := hfin.cell 3 (.slice none 0 0) rfl
        have g4 := hfin.cell 4 (.bool false) rfl
        refine bodyPost_ret (v := .tuple #[.agg #[.int .i64 2, .int .i64 0, .float .f64 0, .slice none 0 0, .bool false], .int .i64 0]) (by simp [results, Try.results41, go_sem, g0, g1, g2, g3, g4]) rfl ⟨⟨2, 0, 0, .slice none 0 0, 0, fun _ => 0, false⟩, by first | rfl | (simp [PV.agg]; done), ⟨by simp, by simp, by simp, one_nil _⟩, fun h => absurd rfl h, UF⟩
      · rw [hcode] at HIC
        obtain ⟨hK8', hV8⟩ := HKy.out hcode
        have hK8 : KK = 8 := HKK.out.symm.trans hK8'
        subst hK8
        have HI : Hid (∀ bb, IsV 2 x n ⟨2, 0, Fl.of (lkC x 8), .slice none 0 0, 0, bb, false⟩) := fun bb => ⟨rfl, rfl, hV8.symm, rfl, fun i hi => absurd hi (by simp), rfl, fun _ _ => rfl⟩
        clear HKy HKn HL HC hcode hK8' hV8 HKK
        generalize Fl.of (lkC x 8) = V at *
        generalize lkC x 8 = A at *
        have hb6 : BoxR (WW.setCell ⟨w.heap.size + 1, 2, none⟩ (.float .f64 V)) (w.heap.size + 1) #[.int .i64 2, .int .i64 0, .float .f64 V, .slice none 0 0, .bool false] := heap_setCell_same _ (w.heap.size + 1) 2 _ _ (.float .f64 V) hb5
        have hb7 : BoxR (WW.setCell ⟨w.heap.size + 1, 2, none⟩ (.float .f64 V)) w.heap.size #[.int .i64 0, .int .i64 0, .float .f64 0, .slice none 0 0, .bool false] := (Below.heap_setCell _ _ _ _ (by simp)).trans hb4
        have f2 := hb5.free 2
        have d2 := hb5.cell 2 _ rfl
        have q0 := (hb6).cell 0 _ rfl
        have q1 := (hb6).cell 1 _ rfl
        have q2 := (hb6).cell 2 _ rfl
        have q3 := (hb6).cell 3 _ rfl
        have q4 := (hb6).cell 4 _ rfl
        have p0 := (hb7).cell 0 _ rfl
        have p1 := (hb7).cell 1 _ rfl
        have p2 := (hb7).cell 2 _ rfl
        have p3 := (hb7).cell 3 _ rfl
        have p4 := (hb7).cell 4 _ rfl
        have z0 := (hb7).free 0
        have z1 := (hb7).free 1
        have z2 := (hb7).free 2
        have z3 := (hb7).free 3
        have z4 := (hb7).free 4
        have HX4 := hid (hb7)
        clear hb4 hb5 hb6 hb7
        go_wp2_with (first | (go_at_call 50; refine (HIC.out _).mono ?_; rintro e w1 ⟨rfl, hw⟩; have hw2 := hw.symm; subst hw2) | (go_at_call 51; refine (HOF.out _).mono ?_; rintro e w1 ⟨rfl, hw⟩; have hw2 := hw.symm; subst hw2))
        have hfin := (((((HX4.out.put 0 (.int .i64 2)).put 1 (.int .i64 0)).put 2 (.float .f64 V)).put 3 (.slice none 0 0)).put 4 (.bool false))
        have UF : Up w ((((((WW.setCell ⟨w.heap.size + 1, 2, none⟩ (.float .f64 V)).setCell ⟨w.heap.size, 0, none⟩ (.int .i64 2)).setCell ⟨w.heap.size, 1, none⟩ (.int .i64 0)).setCell ⟨w.heap.size, 2, none⟩ (.float .f64 V)).setCell ⟨w.heap.size, 3, none⟩ (.slice none 0 0)).setCell ⟨w.heap.size, 4, none⟩ (.bool false)) := (((((uW.setCell (p := ⟨w.heap.size + 1, 2, none⟩) (Nat.le_succ _) _).setCell (Nat.le_refl _) _).setCell (Nat.le_refl _) _).setCell (Nat.le_refl _) _).setCell (Nat.le_refl _) _).setCell (Nat.le_refl _) _
        have g0 := hfin.cell 0 (.int .i64 2) rfl
        have g1 := hfin.cell 1 (.int .i64 0) rfl
        have g2 := hfin.cell 2 (.float .f64 V) rfl
        have g3 := hfin.cell 3 (.slice none 0 0) rfl
        have g4 := hfin.cell 4 (.bool false) rfl
        refine bodyPost_ret (v := .tuple #[.agg #[.int .i64 2, .int .i64 0, .float .f64 V, .slice none 0 0, .bool false], .int .i64 8]) (by simp [results, Try.results41, go_sem, g0, g1, g2, g3, g4]) rfl ⟨⟨2, 0, V, .slice none 0 0, 0, fun _ => 0, false⟩, by first | rfl | (simp [PV.agg]; done), ⟨by simp, by simp, HLT.out, one_nil _⟩, fun _ => ⟨HI.out _, .inl rfl⟩, UF⟩
set_option maxHeartbeats 1000000 in
theorem one_4 (v : Value) (n : Nat) (x : Nat → Nat) (w : World) (hv : ByRow w v n x) :
    Calls Try.prog 41 #[v, .int .i64 4] w fun e w' => OneOut w 4 n x e w' := by
  by_cases hg : 0 < n ∧ x 0 ≤ 1
  · have HK : vK 4 x n = 1 := by show lfK x n = 1; unfold lfK; rw [if_pos hg]
    obtain ⟨b, off, cap, rfl, hc, hnc, hm⟩ := hv.cells hg.1
    have HC0 := hid (fun (W : World) (hW : Up w W) => show W.cell? ⟨b, off, none⟩ = some (.int .u8 (x 0 : Int)) from hW.keep (by have := (hc 0 hg.1).2; rw [Nat.add_zero] at this; exact this))
    unfold maxLen at hm
    have hn0 : 0 < n := hg.1
    have tn : ((n : Int) == 0) = false := by rw [beq_eq_false_iff_ne]; omega
    have HI : Hid (∀ bb, IsV 4 x n ⟨4, 0, 0, .slice none 0 0, 0, bb, lfV x n⟩) := fun bb => ⟨rfl, rfl, rfl, rfl, fun i hi => absurd hi (by simp), rfl, fun _ _ => rfl⟩
    have HF : lfV x n = ((x 0 : Int) == 1) := by
      unfold lfV
      by_cases h1 : x 0 = 1
      · simp [h1, hg.1]
      · have h2 : x 0 = 0 := by omega
        simp [h2]
    have t1 : decide ((1 : Int) < (x 0 : Int)) = false := by rw [decide_eq_false_iff_not]; omega
    unfold OneOut
    rw [HK]
    clear hv hc hg HK
    generalize lfV x n = V at *
    have t2 : ((x 0 : Int) == 1) = V := HF.symm
    clear HF
    go_enter Try.func41, Try.ntmps41
    go_upto_region 2 with fail
    have hbx := boxes w 4
    generalize ((w.alloc (.cells #[.int .i64 0, .int .i64 0, .float .f64 0, .slice none 0 0, .bool false] 57)).alloc (.cells #[.int .i64 4, .int .i64 0, .float .f64 0, .slice none 0 0, .bool false] 57)) = WW at hbx ⊢
    obtain ⟨⟨hb4, hb5⟩, uW⟩ := hbx
    have c0 := HC0.out _ uW
    have hb6 : BoxR (WW.setCell ⟨w.heap.size + 1, 4, none⟩ (.bool V)) (w.heap.size + 1) #[.int .i64 4, .int .i64 0, .float .f64 0, .slice none 0 0, .bool V] := heap_setCell_same _ (w.heap.size + 1) 4 _ _ (.bool V) hb5
    have hb7 : BoxR (WW.setCell ⟨w.heap.size + 1, 4, none⟩ (.bool V)) w.heap.size #[.int .i64 0, .int .i64 0, .float .f64 0, .slice none 0 0, .bool false] := (Below.heap_setCell _ _ _ _ (by simp)).trans hb4
    have f4 := hb5.free 4
    have d4 := hb5.cell 4 _ rfl
    have q0 := (hb6).cell 0 _ rfl
    have q1 := (hb6).cell 1 _ rfl
    have q2 := (hb6).cell 2 _ rfl
    have q3 := (hb6).cell 3 _ rfl
    have q4 := (hb6).cell 4 _ rfl
    have p0 := (hb7).cell 0 _ rfl
    have p1 := (hb7).cell 1 _ rfl
    have p2 := (hb7).cell 2 _ rfl
    have p3 := (hb7).cell 3 _ rfl
    have p4 := (hb7).cell 4 _ rfl
    have z0 := (hb7).free 0
    have z1 := (hb7).free 1
    have z2 := (hb7).free 2
    have z3 := (hb7).free 3
    have z4 := (hb7).free 4
    have HX4 := hid (hb7)
    clear hb4 hb5 hb6 hb7 HC0
    go_wp2
    have hfin := (((((HX4.out.put 0 (.int .i64 4)).put 1 (.int .i64 0)).put 2 (.float .f64 0)).put 3 (.slice none 0 0)).put 4 (.bool V))
    have UF : Up w ((((((WW.setCell ⟨w.heap.size + 1, 4, none⟩ (.bool V)).setCell ⟨w.heap.size, 0, none⟩ (.int .i64 4)).setCell ⟨w.heap.size, 1, none⟩ (.int .i64 0)).setCell ⟨w.heap.size, 2, none⟩ (.float .f64 0)).setCell ⟨w.heap.size, 3, none⟩ (.slice none 0 0)).setCell ⟨w.heap.size, 4, none⟩ (.bool V)) := (((((uW.setCell (p := ⟨w.heap.size + 1, 4, none⟩) (Nat.le_succ _) _).setCell (Nat.le_refl _) _).setCell (Nat.le_refl _) _).setCell (Nat.le_refl _) _).setCell (Nat.le_refl _) _).setCell (Nat.le_refl _) _
    have g0 := hfin.cell 0 (.int .i64 4) rfl
    have g1 := hfin.cell 1 (.int .i64 0) rfl
    have g2 := hfin.cell 2 (.float .f64 0) rfl
    have g3 := hfin.cell 3 (.slice none 0 0) rfl
    have g4 := hfin.cell 4 (.bool V) rfl
    refine bodyPost_ret (v := .tuple #[.agg #[.int .i64 4, .int .i64 0, .float .f64 0, .slice none 0 0, .bool V], .int .i64 1]) (by simp [results, Try.results41, go_sem, g0, g1, g2, g3, g4]) rfl ⟨⟨4, 0, 0, .slice none 0 0, 0, fun _ => 0, V⟩, by first | rfl | (simp [PV.agg]; done), ⟨by simp, by simp, by simp, one_nil _⟩, fun _ => ⟨HI.out _, .inl rfl⟩, UF⟩
  · have HK : vK 4 x n = 0 := by show lfK x n = 0; unfold lfK; rw [if_neg hg]
    unfold OneOut
    rw [HK]
    by_cases h0 : 0 < n
    · obtain ⟨b, off, cap, rfl, hc, hnc, hm⟩ := hv.cells h0
      have HC0 := hid (fun (W : World) (hW : Up w W) => show W.cell? ⟨b, off, none⟩ = some (.int .u8 (x 0 : Int)) from hW.keep (by have := (hc 0 h0).2; rw [Nat.add_zero] at this; exact this))
      unfold maxLen at hm
      have tn : ((n : Int) == 0) = false := by rw [beq_eq_false_iff_ne]; omega
      have t1 : decide ((1 : Int) < (x 0 : Int)) = true := by rw [decide_eq_true_eq]; omega
      clear hv hc hg HK
      go_enter Try.func41, Try.ntmps41
      go_upto_region 2 with fail
      have hbx := boxes w 4
      generalize ((w.alloc (.cells #[.int .i64 0, .int .i64 0, .float .f64 0, .slice none 0 0, .bool false] 57)).alloc (.cells #[.int .i64 4, .int .i64 0, .float .f64 0, .slice none 0 0, .bool false] 57)) = WW at hbx ⊢
      obtain ⟨⟨hb4, hb5⟩, uW⟩ := hbx
      have c0 := HC0.out _ uW
      have q0 := (hb5).cell 0 _ rfl
      have q1 := (hb5).cell 1 _ rfl
      have q2 := (hb5).cell 2 _ rfl
      have q3 := (hb5).cell 3 _ rfl
      have q4 := (hb5).cell 4 _ rfl
      have p0 := (hb4).cell 0 _ rfl
      have p1 := (hb4).cell 1 _ rfl
      have p2 := (hb4).cell 2 _ rfl
      have p3 := (hb4).cell 3 _ rfl
      have p4 := (hb4).cell 4 _ rfl
      have z0 := (hb4).free 0
      have z1 := (hb4).free 1
      have z2 := (hb4).free 2
      have z3 := (hb4).free 3
      have z4 := (hb4).free 4
      have HX4 := hid (hb4)
      clear hb4 hb5 HC0
      go_wp2
      have hfin := (((((HX4.out.put 0 (.int .i64 4)).put 1 (.int .i64 0)).put 2 (.float .f64 0)).put 3 (.slice none 0 0)).put 4 (.bool false))
      have UF : Up w (((((WW.setCell ⟨w.heap.size, 0, none⟩ (.int .i64 4)).setCell ⟨w.heap.size, 1, none⟩ (.int .i64 0)).setCell ⟨w.heap.size, 2, none⟩ (.float .f64 0)).setCell ⟨w.heap.size, 3, none⟩ (.slice none 0 0)).setCell ⟨w.heap.size, 4, none⟩ (.bool false)) := (((((uW).setCell (Nat.le_refl _) _).setCell (Nat.le_refl _) _).setCell (Nat.le_refl _) _).setCell (Nat.le_refl _) _).setCell (Nat.le_refl _) _
      have g0 := hfin.cell 0 (.int .i64 4) rfl
      have g1 := hfin.cell 1 (.int .i64 0) rfl
      have g2 := hfin.cell 2 (.float .f64 0) rfl
      have g3 := hfin.cell 3 (.slice none 0 0) rfl
      have g4 := hfin.cell 4 (.bool false) rfl
      refine bodyPost_ret (v := .tuple #[.agg #[.int .i64 4, .int .i64 0, .float .f64 0, .slice none 0 0, .bool false], .int .i64 0]) (by simp [results, Try.results41, go_sem, g0, g1, g2, g3, g4]) rfl ⟨⟨4, 0, 0, .slice none 0 0, 0, fun _ => 0, false⟩, by first | rfl | (simp [PV.agg]; done), ⟨by simp, by simp, by simp, one_nil _⟩, fun h => absurd rfl h, UF⟩
    · obtain rfl : n = 0 := by omega
      obtain ⟨va, vc, rfl⟩ := hv.slice
      clear hv hg HK
      go_enter Try.func41, Try.ntmps41
      go_upto_region 2 with fail
      have hbx := boxes w 4
      generalize ((w.alloc (.cells #[.int .i64 0, .int .i64 0, .float .f64 0, .slice none 0 0, .bool false] 57)).alloc (.cells #[.int .i64 4, .int .i64 0, .float .f64 0, .slice none 0 0, .bool false] 57)) = WW at hbx ⊢
      obtain ⟨⟨hb4, hb5⟩, uW⟩ := hbx
      have q0 := (hb5).cell 0 _ rfl
      have q1 := (hb5).cell 1 _ rfl
      have q2 := (hb5).cell 2 _ rfl
      have q3 := (hb5).cell 3 _ rfl
      have q4 := (hb5).cell 4 _ rfl
      have p0 := (hb4).cell 0 _ rfl
      have p1 := (hb4).cell 1 _ rfl
      have p2 := (hb4).cell 2 _ rfl
      have p3 := (hb4).cell 3 _ rfl
      have p4 := (hb4).cell 4 _ rfl
      have z0 := (hb4).free 0
      have z1 := (hb4).free 1
      have z2 := (hb4).free 2
      have z3 := (hb4).free 3
      have z4 := (hb4).free 4
      have HX4 := hid (hb4)
      clear hb4 hb5
      go_wp2
      have hfin := (((((HX4.out.put 0 (.int .i64 4)).put 1 (.int .i64 0)).put 2 (.float .f64 0)).put 3 (.slice none 0 0)).put 4 (.bool false))
      have UF : Up w (((((WW.setCell ⟨w.heap.size, 0, none⟩ (.int .i64 4)).setCell ⟨w.heap.size, 1, none⟩ (.int .i64 0)).setCell ⟨w.heap.size, 2, none⟩ (.float .f64 0)).setCell ⟨w.heap.size, 3, none⟩ (.slice none 0 0)).setCell ⟨w.heap.size, 4, none⟩ (.bool false)) := (((((uW).setCell (Nat.le_refl _) _).setCell (Nat.le_refl _) _).setCell (Nat.le_refl _) _).setCell (Nat.le_refl _) _).setCell (Nat.le_refl _) _
      have g0 := hfin.cell 0 (.int .i64 4) rfl
      have g1 := hfin.cell 1 (.int .i64 0) rfl
      have g2 := hfin.cell 2 (.float .f64 0) rfl
      have g3 := hfin.cell 3 (.slice none 0 0) rfl
      have g4 := hfin.cell 4 (.bool false) rfl
      refine bodyPost_ret (v := .tuple #[.agg #[.int .i64 4, .int .i64 0, .float .f64 0, .slice none 0 0, .bool false], .int .i64 0]) (by simp [results, Try.results41, go_sem, g0, g1, g2, g3, g4]) rfl ⟨⟨4, 0, 0, .slice none 0 0, 0, fun _ => 0, false⟩, by first | rfl | (simp [PV.agg]; done), ⟨by simp, by simp, by simp, one_nil _⟩, fun h => absurd rfl h, UF⟩
set_option maxHeartbeats 1000000 in
theorem one_3 (v : Value) (n : Nat) (x : Nat → Nat) (w : World) (hv : ByRow w v n x) (hg : lnK x n ≠ 0 ∧ 0 ≤ lnV x n ∧ lnV x n ≤ 4096 ∧ (lnV x n).toNat ≤ n - lnK x n) :
    Calls Try.prog 41 #[v, .int .i64 3] w fun e w' => OneOut w 3 n x e w' := by
  have HN := hid (fun (W : World) (hW : Up w W) => refGetNum_any v n x W (hv.up hW))
  have hkn : lnK x n ≤ n := ln_le x n 11 0
  have hmx := hv.max
  have HK : vK 3 x n = lnK x n + (lnV x n).toNat := by show lbK x n = _; unfold lbK; rw [if_pos hg]
  obtain ⟨h1, h2, h3, h4⟩ := hg
  obtain ⟨b, off, cap, rfl, hc, hnc, hm⟩ := hv.cells (by omega)
  have HI : Hid (∀ bv, IsV 3 x n ⟨3, 0, 0, bv, (lnV x n).toNat, sh (lnK x n) x, false⟩) := fun bv => ⟨rfl, rfl, rfl, rfl, fun i hi => rfl, rfl, fun _ h => absurd rfl h⟩
  have HX : Hid (∀ i, i < (lnV x n).toNat → sh (lnK x n) x i < 256 ∧ w.cell? ⟨b, off + lnK x n + i, none⟩ = some (.int .u8 (sh (lnK x n) x i : Int))) := fun i hi => by have := hc (lnK x n + i) (by omega); rw [Nat.add_assoc]; exact this
  unfold OneOut
  rw [HK]
  obtain ⟨m, hmV⟩ : ∃ m : Nat, lnV x n = (m : Int) := ⟨(lnV x n).toNat, by omega⟩
  rw [hmV] at HN h2 h3 h4 HI HX ⊢
  simp only [Int.toNat_natCast] at h4 HI HX ⊢
  unfold maxLen at hm hmx
  clear hv hc HK hmV
  generalize sh (lnK x n) x = Y at *
  generalize lnK x n = K at *
  have tk : ((K : Int) == 0) = false := by rw [beq_eq_false_iff_ne]; omega
  have hrow : Hid (∀ W, Up w W → ByRow W (.slice (some ⟨b, if cap = K then off else off + K, none⟩) m (cap - K)) m Y) := by
    intro W hW
    by_cases hz : m = 0
    · subst hz; exact .inl ⟨rfl, _, _, rfl, fun h => by cases h⟩
    · rw [if_neg (by omega)]
      exact .inr ⟨by omega, by unfold maxLen; omega, b, off + K, cap - K, rfl, fun i hi => ⟨(HX.out i hi).1, hW.keep (HX.out i hi).2⟩, by omega, by unfold maxLen; omega⟩
  have HJ := hid (fun (W : World) (hW : Up w W) => join_any W.heap.size (.slice none 0 0) _ 0 m (fun _ => 0) Y (by omega) W (OwnB.nil _ _ _) (Nat.le_refl _) (hrow.out W hW) (.inr (by simp [Value.ownBlock])))
  have HJ2 : Hid (∀ (W : World) (hW : Up w W), Calls Try.prog 52 #[.slice none 0 0, .slice (some ⟨b, if cap = K then off else off + K, none⟩) m (cap - K)] W fun e w' => ∃ ja jc, e = .returned (.slice ja m jc) ∧ OwnB W.heap.size w' (.slice ja m jc) m Y ∧ Up W w') := fun W hW => (HJ.out W hW).mono (fun e w' h => by
    obtain ⟨v', h1, h2, h3⟩ := h
    have h4 : OwnB W.heap.size w' v' m Y := by
      have h5 := h2.congr (y := Y) (fun i hi => by simp [cat])
      rw [Nat.zero_add] at h5; exact h5
    obtain ⟨ja, jc, rfl, _⟩ := h4.len
    exact ⟨ja, jc, h1, h4, h3.below (OwnB.nil W.heap.size W (fun _ => 0)) (Nat.le_refl _)⟩)
  clear HJ hrow HX
  by_cases hcK : cap = K
  · rw [if_pos hcK] at HJ2
    subst hcK
    rw [Nat.sub_self] at HJ2
    go_enter Try.func41, Try.ntmps41
    go_upto_region 2 with fail
    have hbx := boxes w 3
    generalize ((w.alloc (.cells #[.int .i64 0, .int .i64 0, .float .f64 0, .slice none 0 0, .bool false] 57)).alloc (.cells #[.int .i64 3, .int .i64 0, .float .f64 0, .slice none 0 0, .bool false] 57)) = WW at hbx ⊢
    obtain ⟨⟨hb4, hb5⟩, uW⟩ := hbx
    have UW := hid uW
    have HB4 := hid hb4
    have HB5 := hid hb5
    have hszW : w.heap.size + 2 ≤ WW.heap.size := by have := hb5.lt; omega
    clear hb4 hb5 uW
    go_wp2_with (first | (go_at_call 49; refine (HN.out _ UW.out).mono ?_; rintro e w1 ⟨rfl, hw⟩; have hw2 := hw.symm; subst hw2) | (go_at_call 52; fail))
    refine (HJ2.out _ UW.out).mono ?_
    rintro e w1 ⟨ja, jc, rfl, o1, u1⟩
    have hb4 := HB4.out.up u1
    have hb5 := HB5.out.up u1
    have uW := Up.trans UW.out u1
    have HRow : Hid (ByRow ((((((w1.setCell ⟨w.heap.size + 1, 3, none⟩ (.slice ja m jc)).setCell ⟨w.heap.size, 0, none⟩ (.int .i64 3)).setCell ⟨w.heap.size, 1, none⟩ (.int .i64 0)).setCell ⟨w.heap.size, 2, none⟩ (.float .f64 0)).setCell ⟨w.heap.size, 3, none⟩ (.slice ja m jc)).setCell ⟨w.heap.size, 4, none⟩ (.bool false)) (.slice ja m jc) m Y) := o1.row.chg ((((((Chg.set (S := [w.heap.size, w.heap.size + 1]) _ _ _ (by simp)).trans (Chg.set _ _ _ (by simp))).trans (Chg.set _ _ _ (by simp))).trans (Chg.set _ _ _ (by simp))).trans (Chg.set _ _ _ (by simp))).trans (Chg.set _ _ _ (by simp))) (.inr (fun bb hb => by have := (World.ownsRow.lt o1.own bb hb).1; simp; omega))
    have HFr : Hid (m = 0 ∨ ∃ g, (Value.slice ja m jc).ownBlock = some g ∧ w.heap.size ≤ g) := by
      by_cases hz0 : m = 0
      · exact .inl hz0
      · obtain ⟨ad, c', e5, h5, h6⟩ := o1.len
        cases e5
        right
        cases ja with
        | none => exact absurd (h5 rfl).1 hz0
        | some ad =>
          refine ⟨ad.block, rfl, ?_⟩
          have := (h6 ad rfl).2.2.1
          omega
    clear o1 u1
    have hb6 : BoxR (w1.setCell ⟨w.heap.size + 1, 3, none⟩ (.slice ja m jc)) (w.heap.size + 1) #[.int .i64 3, .int .i64 0, .float .f64 0, .slice ja m jc, .bool false] := heap_setCell_same _ (w.heap.size + 1) 3 _ _ (.slice ja m jc) hb5
    have hb7 : BoxR (w1.setCell ⟨w.heap.size + 1, 3, none⟩ (.slice ja m jc)) w.heap.size #[.int .i64 0, .int .i64 0, .float .f64 0, .slice none 0 0, .bool false] := (Below.heap_setCell _ _ _ _ (by simp)).trans hb4
    have f3 := hb5.free 3
    have d3 := hb5.cell 3 _ rfl
    have q0 := (hb6).cell 0 _ rfl
    have q1 := (hb6).cell 1 _ rfl
    have q2 := (hb6).cell 2 _ rfl
    have q3 := (hb6).cell 3 _ rfl
    have q4 := (hb6).cell 4 _ rfl
    have p0 := (hb7).cell 0 _ rfl
    have p1 := (hb7).cell 1 _ rfl
    have p2 := (hb7).cell 2 _ rfl
    have p3 := (hb7).cell 3 _ rfl
    have p4 := (hb7).cell 4 _ rfl
    have z0 := (hb7).free 0
    have z1 := (hb7).free 1
    have z2 := (hb7).free 2
    have z3 := (hb7).free 3
    have z4 := (hb7).free 4
    have HX4 := hid (hb7)
    clear hb4 hb5 hb6 hb7
    go_wp2
    have hfin := (((((HX4.out.put 0 (.int .i64 3)).put 1 (.int .i64 0)).put 2 (.float .f64 0)).put 3 (.slice ja m jc)).put 4 (.bool false))
    have UF : Up w ((((((w1.setCell ⟨w.heap.size + 1, 3, none⟩ (.slice ja m jc)).setCell ⟨w.heap.size, 0, none⟩ (.int .i64 3)).setCell ⟨w.heap.size, 1, none⟩ (.int .i64 0)).setCell ⟨w.heap.size, 2, none⟩ (.float .f64 0)).setCell ⟨w.heap.size, 3, none⟩ (.slice ja m jc)).setCell ⟨w.heap.size, 4, none⟩ (.bool false)) := (((((uW.setCell (p := ⟨w.heap.size + 1, 3, none⟩) (Nat.le_succ _) _).setCell (Nat.le_refl _) _).setCell (Nat.le_refl _) _).setCell (Nat.le_refl _) _).setCell (Nat.le_refl _) _).setCell (Nat.le_refl _) _
    have g0 := hfin.cell 0 (.int .i64 3) rfl
    have g1 := hfin.cell 1 (.int .i64 0) rfl
    have g2 := hfin.cell 2 (.float .f64 0) rfl
    have g3 := hfin.cell 3 (.slice ja m jc) rfl
    have g4 := hfin.cell 4 (.bool false) rfl
    refine bodyPost_ret (v := .tuple #[.agg #[.int .i64 3, .int .i64 0, .float .f64 0, .slice ja m jc, .bool false], .int .i64 ((cap + m : Nat) : Int)]) (by simp [results, Try.results41, go_sem, g0, g1, g2, g3, g4]) rfl ⟨⟨3, 0, 0, .slice ja m jc, m, Y, false⟩, by first | rfl | (simp [PV.agg]; done), ⟨by simp, by simp, by simp, HRow.out⟩, fun _ => ⟨HI.out _, HFr.out⟩, UF⟩
  · rw [if_neg hcK] at HJ2
    go_enter Try.func41, Try.ntmps41
    go_upto_region 2 with fail
    have hbx := boxes w 3
    generalize ((w.alloc (.cells #[.int .i64 0, .int .i64 0, .float .f64 0, .slice none 0 0, .bool false] 57)).alloc (.cells #[.int .i64 3, .int .i64 0, .float .f64 0, .slice none 0 0, .bool false] 57)) = WW at hbx ⊢
    obtain ⟨⟨hb4, hb5⟩, uW⟩ := hbx
    have UW := hid uW
    have HB4 := hid hb4
    have HB5 := hid hb5
    have hszW : w.heap.size + 2 ≤ WW.heap.size := by have := hb5.lt; omega
    clear hb4 hb5 uW
    go_wp2_with (first | (go_at_call 49; refine (HN.out _ UW.out).mono ?_; rintro e w1 ⟨rfl, hw⟩; have hw2 := hw.symm; subst hw2) | (go_at_call 52; fail))
    refine (HJ2.out _ UW.out).mono ?_
    rintro e w1 ⟨ja, jc, rfl, o1, u1⟩
    have hb4 := HB4.out.up u1
    have hb5 := HB5.out.up u1
    have uW := Up.trans UW.out u1
    have HRow : Hid (ByRow ((((((w1.setCell ⟨w.heap.size + 1, 3, none⟩ (.slice ja m jc)).setCell ⟨w.heap.size, 0, none⟩ (.int .i64 3)).setCell ⟨w.heap.size, 1, none⟩ (.int .i64 0)).setCell ⟨w.heap.size, 2, none⟩ (.float .f64 0)).setCell ⟨w.heap.size, 3, none⟩ (.slice ja m jc)).setCell ⟨w.heap.size, 4, none⟩ (.bool false)) (.slice ja m jc) m Y) := o1.row.chg ((((((Chg.set (S := [w.heap.size, w.heap.size + 1]) _ _ _ (by simp)).trans (Chg.set _ _ _ (by simp))).trans (Chg.set _ _ _ (by simp))).trans (Chg.set _ _ _ (by simp))).trans (Chg.set _ _ _ (by simp))).trans (Chg.set _ _ _ (by simp))) (.inr (fun bb hb => by have := (World.ownsRow.lt o1.own bb hb).1; simp; omega))
    have HFr : Hid (m = 0 ∨ ∃ g, (Value.slice ja m jc).ownBlock = some g ∧ w.heap.size ≤ g) := by
      by_cases hz0 : m = 0
      · exact .inl hz0
      · obtain ⟨ad, c', e5, h5, h6⟩ := o1.len
        cases e5
        right
        cases ja with
        | none => exact absurd (h5 rfl).1 hz0
        | some ad =>
          refine ⟨ad.block, rfl, ?_⟩
          have := (h6 ad rfl).2.2.1
          omega
    clear o1 u1
    have hb6 : BoxR (w1.setCell ⟨w.heap.size + 1, 3, none⟩ (.slice ja m jc)) (w.heap.size + 1) #[.int .i64 3, .int .i64 0, .float .f64 0, .slice ja m jc, .bool false] := heap_setCell_same _ (w.heap.size + 1) 3 _ _ (.slice ja m jc) hb5
    have hb7 : BoxR (w1.setCell ⟨w.heap.size + 1, 3, none⟩ (.slice ja m jc)) w.heap.size #[.int .i64 0, .int .i64 0, .float .f64 0, .slice none 0 0, .bool false] := (Below.heap_setCell _ _ _ _ (by simp)).trans hb4
    have f3 := hb5.free 3
    have d3 := hb5.cell 3 _ rfl
    have q0 := (hb6).cell 0 _ rfl
    have q1 := (hb6).cell 1 _ rfl
    have q2 := (hb6).cell 2 _ rfl
    have q3 := (hb6).cell 3 _ rfl
    have q4 := (hb6).cell 4 _ rfl
    have p0 := (hb7).cell 0 _ rfl
    have p1 := (hb7).cell 1 _ rfl
    have p2 := (hb7).cell 2 _ rfl
    have p3 := (hb7).cell 3 _ rfl
    have p4 := (hb7).cell 4 _ rfl
    have z0 := (hb7).free 0
    have z1 := (hb7).free 1
    have z2 := (hb7).free 2
    have z3 := (hb7).free 3
    have z4 := (hb7).free 4
    have HX4 := hid (hb7)
    clear hb4 hb5 hb6 hb7
    go_wp2
    have hfin := (((((HX4.out.put 0 (.int .i64 3)).put 1 (.int .i64 0)).put 2 (.float .f64 0)).put 3 (.slice ja m jc)).put 4 (.bool false))
    have UF : Up w ((((((w1.setCell ⟨w.heap.size + 1, 3, none⟩ (.slice ja m jc)).setCell ⟨w.heap.size, 0, none⟩ (.int .i64 3)).setCell ⟨w.heap.size, 1, none⟩ (.int .i64 0)).setCell ⟨w.heap.size, 2, none⟩ (.float .f64 0)).setCell ⟨w.heap.size, 3, none⟩ (.slice ja m jc)).setCell ⟨w.heap.size, 4, none⟩ (.bool false)) := (((((uW.setCell (p := ⟨w.heap.size + 1, 3, none⟩) (Nat.le_succ _) _).setCell (Nat.le_refl _) _).setCell (Nat.le_refl _) _).setCell (Nat.le_refl _) _).setCell (Nat.le_refl _) _).setCell (Nat.le_refl _) _
    have g0 := hfin.cell 0 (.int .i64 3) rfl
    have g1 := hfin.cell 1 (.int .i64 0) rfl
    have g2 := hfin.cell 2 (.float .f64 0) rfl
    have g3 := hfin.cell 3 (.slice ja m jc) rfl
    have g4 := hfin.cell 4 (.bool false) rfl
    refine bodyPost_ret (v := .tuple #[.agg #[.int .i64 3, .int .i64 0, .float .f64 0, .slice ja m jc, .bool false], .int .i64 ((K + m : Nat) : Int)]) (by simp [results, Try.results41, go_sem, g0, g1, g2, g3, g4]) rfl ⟨⟨3, 0, 0, .slice ja m jc, m, Y, false⟩, by first | rfl | (simp [PV.agg]; done), ⟨by simp, by simp, by simp, HRow.out⟩, fun _ => ⟨HI.out _, HFr.out⟩, UF⟩
set_option maxHeartbeats 1000000 in
theorem one_3bad (v : Value) (n : Nat) (x : Nat → Nat) (w : World) (hv : ByRow w v n x) (hg : ¬ (lnK x n ≠ 0 ∧ 0 ≤ lnV x n ∧ lnV x n ≤ 4096 ∧ (lnV x n).toNat ≤ n - lnK x n)) :
    Calls Try.prog 41 #[v, .int .i64 3] w fun e w' => OneOut w 3 n x e w' := by
  have HN := hid (fun (W : World) (hW : Up w W) => refGetNum_any v n x W (hv.up hW))
  have hkn : lnK x n ≤ n := ln_le x n 11 0
  have hmx := hv.max
  have HK : vK 3 x n = 0 := by show lbK x n = 0; unfold lbK; rw [if_neg hg]
  obtain ⟨va, vc, rfl⟩ := hv.slice
  unfold OneOut
  rw [HK]
  clear hv HK
  unfold maxLen at hmx
  generalize lnV x n = V at *
  generalize lnK x n = K at *
  by_cases c1 : K = 0
  · subst c1
    go_enter Try.func41, Try.ntmps41
    go_upto_region 2 with fail
    have hbx := boxes w 3
    generalize ((w.alloc (.cells #[.int .i64 0, .int .i64 0, .float .f64 0, .slice none 0 0, .bool false] 57)).alloc (.cells #[.int .i64 3, .int .i64 0, .float .f64 0, .slice none 0 0, .bool false] 57)) = WW at hbx ⊢
    obtain ⟨⟨hb4, hb5⟩, uW⟩ := hbx
    have q0 := (hb5).cell 0 _ rfl
    have q1 := (hb5).cell 1 _ rfl
    have q2 := (hb5).cell 2 _ rfl
    have q3 := (hb5).cell 3 _ rfl
    have q4 := (hb5).cell 4 _ rfl
    have p0 := (hb4).cell 0 _ rfl
    have p1 := (hb4).cell 1 _ rfl
    have p2 := (hb4).cell 2 _ rfl
    have p3 := (hb4).cell 3 _ rfl
    have p4 := (hb4).cell 4 _ rfl
    have z0 := (hb4).free 0
    have z1 := (hb4).free 1
    have z2 := (hb4).free 2
    have z3 := (hb4).free 3
    have z4 := (hb4).free 4
    have HX4 := hid (hb4)
    have UW := hid uW
    clear hb4 hb5
    go_wp2_with (go_at_call 49; refine (HN.out _ UW.out).mono ?_; rintro e w1 ⟨rfl, hw⟩; have hw2 := hw.symm; subst hw2)
    have hfin := (((((HX4.out.put 0 (.int .i64 3)).put 1 (.int .i64 0)).put 2 (.float .f64 0)).put 3 (.slice none 0 0)).put 4 (.bool false))
    have UF : Up w (((((WW.setCell ⟨w.heap.size, 0, none⟩ (.int .i64 3)).setCell ⟨w.heap.size, 1, none⟩ (.int .i64 0)).setCell ⟨w.heap.size, 2, none⟩ (.float .f64 0)).setCell ⟨w.heap.size, 3, none⟩ (.slice none 0 0)).setCell ⟨w.heap.size, 4, none⟩ (.bool false)) := (((((uW).setCell (Nat.le_refl _) _).setCell (Nat.le_refl _) _).setCell (Nat.le_refl _) _).setCell (Nat.le_refl _) _).setCell (Nat.le_refl _) _
    have g0 := hfin.cell 0 (.int .i64 3) rfl
    have g1 := hfin.cell 1 (.int .i64 0) rfl
    have g2 := hfin.cell 2 (.float .f64 0) rfl
    have g3 := hfin.cell 3 (.slice none 0 0) rfl
    have g4 := hfin.cell 4 (.bool false) rfl
    refine bodyPost_ret (v := .tuple #[.agg #[.int .i64 3, .int .i64 0, .float .f64 0, .slice none 0 0, .bool false], .int .i64 0]) (by simp [results, Try.results41, go_sem, g0, g1, g2, g3, g4]) rfl ⟨⟨3, 0, 0, .slice none 0 0, 0, fun _ => 0, false⟩, by first | rfl | (simp [PV.agg]; done), ⟨by simp, by simp, by simp, one_nil _⟩, fun h => absurd rfl h, UF⟩
  · have tk : ((K : Int) == 0) = false := by rw [beq_eq_false_iff_ne]; omega
    by_cases c2 : V < 0
    · have t2 : decide (V < 0) = true := by rw [decide_eq_true_eq]; exact c2
      go_enter Try.func41, Try.ntmps41
      go_upto_region 2 with fail
      have hbx := boxes w 3
      generalize ((w.alloc (.cells #[.int .i64 0, .int .i64 0, .float .f64 0, .slice none 0 0, .bool false] 57)).alloc (.cells #[.int .i64 3, .int .i64 0, .float .f64 0, .slice none 0 0, .bool false] 57)) = WW at hbx ⊢
      obtain ⟨⟨hb4, hb5⟩, uW⟩ := hbx
      have q0 := (hb5).cell 0 _ rfl
      have q1 := (hb5).cell 1 _ rfl
      have q2 := (hb5).cell 2 _ rfl
      have q3 := (hb5).cell 3 _ rfl
      have q4 := (hb5).cell 4 _ rfl
      have p0 := (hb4).cell 0 _ rfl
      have p1 := (hb4).cell 1 _ rfl
      have p2 := (hb4).cell 2 _ rfl
      have p3 := (hb4).cell 3 _ rfl
      have p4 := (hb4).cell 4 _ rfl
      have z0 := (hb4).free 0
      have z1 := (hb4).free 1
      have z2 := (hb4).free 2
      have z3 := (hb4).free 3
      have z4 := (hb4).free 4
      have HX4 := hid (hb4)
      have UW := hid uW
      clear hb4 hb5
      go_wp2_with (go_at_call 49; refine (HN.out _ UW.out).mono ?_; rintro e w1 ⟨rfl, hw⟩; have hw2 := hw.symm; subst hw2)
      have hfin := (((((HX4.out.put 0 (.int .i64 3)).put 1 (.int .i64 0)).put 2 (.float .f64 0)).put 3 (.slice none 0 0)).put 4 (.bool false))
      have UF : Up w (((((WW.setCell ⟨w.heap.size, 0, none⟩ (.int .i64 3)).setCell ⟨w.heap.size, 1, none⟩ (.int .i64 0)).setCell ⟨w.heap.size, 2, none⟩ (.float .f64 0)).setCell ⟨w.heap.size, 3, none⟩ (.slice none 0 0)).setCell ⟨w.heap.size, 4, none⟩ (.bool false)) := (((((uW).setCell (Nat.le_refl _) _).setCell (Nat.le_refl _) _).setCell (Nat.le_refl _) _).setCell (Nat.le_refl _) _).setCell (Nat.le_refl _) _
      have g0 := hfin.cell 0 (.int .i64 3) rfl
      have g1 := hfin.cell 1 (.int .i64 0) rfl
      have g2 := hfin.cell 2 (.float .f64 0) rfl
      have g3 := hfin.cell 3 (.slice none 0 0) rfl
      have g4 := hfin.cell 4 (.bool false) rfl
      refine bodyPost_ret (v := .tuple #[.agg #[.int .i64 3, .int .i64 0, .float .f64 0, .slice none 0 0, .bool false], .int .i64 0]) (by simp [results, Try.results41, go_sem, g0, g1, g2, g3, g4]) rfl ⟨⟨3, 0, 0, .slice none 0 0, 0, fun _ => 0, false⟩, by first | rfl | (simp [PV.agg]; done), ⟨by simp, by simp, by simp, one_nil _⟩, fun h => absurd rfl h, UF⟩
    · have t2 : decide (V < 0) = false := by rw [decide_eq_false_iff_not]; exact c2
      by_cases c3 : 4096 < V
      · have t3 : decide (4096 < V) = true := by rw [decide_eq_true_eq]; exact c3
        go_enter Try.func41, Try.ntmps41
        go_upto_region 2 with fail
        have hbx := boxes w 3
        generalize ((w.alloc (.cells #[.int .i64 0, .int .i64 0, .float .f64 0, .slice none 0 0, .bool false] 57)).alloc (.cells #[.int .i64 3, .int .i64 0, .float .f64 0, .slice none 0 0, .bool false] 57)) = WW at hbx ⊢
        obtain ⟨⟨hb4, hb5⟩, uW⟩ := hbx
        have q0 := (hb5).cell 0 _ rfl
        have q1 := (hb5).cell 1 _ rfl
        have q2 := (hb5).cell 2 _ rfl
        have q3 := (hb5).cell 3 _ rfl
        have q4 := (hb5).cell 4 _ rfl
        have p0 := (hb4).cell 0 _ rfl
        have p1 := (hb4).cell 1 _ rfl
        have p2 := (hb4).cell 2 _ rfl
        have p3 := (hb4).cell 3 _ rfl
        have p4 := (hb4).cell 4 _ rfl
        have z0 := (hb4).free 0
        have z1 := (hb4).free 1
        have z2 := (hb4).free 2
        have z3 := (hb4).free 3
        have z4 := (hb4).free 4
        have HX4 := hid (hb4)
        have UW := hid uW
        clear hb4 hb5
        go_wp2_with (go_at_call 49; refine (HN.out _ UW.out).mono ?_; rintro e w1 ⟨rfl, hw⟩; have hw2 := hw.symm; subst hw2)
        have hfin := (((((HX4.out.put 0 (.int .i64 3)).put 1 (.int .i64 0)).put 2 (.float .f64 0)).put 3 (.slice none 0 0)).put 4 (.bool false))
        have UF : Up w (((((WW.setCell ⟨w.heap.size, 0, none⟩ (.int .i64 3)).setCell ⟨w.heap.size, 1, none⟩ (.int .i64 0)).setCell ⟨w.heap.size, 2, none⟩ (.float .f64 0)).setCell ⟨w.heap.size, 3, none⟩ (.slice none 0 0)).setCell ⟨w.heap.size, 4, none⟩ (.bool false)) := (((((uW).setCell (Nat.le_refl _) _).setCell (Nat.le_refl _) _).setCell (Nat.le_refl _) _).setCell (Nat.le_refl _) _).setCell (Nat.le_refl _) _
        have g0 := hfin.cell 0 (.int .i64 3) rfl
        have g1 := hfin.cell 1 (.int .i64 0) rfl
        have g2 := hfin.cell 2 (.float .f64 0) rfl
        have g3 := hfin.cell 3 (.slice none 0 0) rfl
        have g4 := hfin.cell 4 (.bool false) rfl
        refine bodyPost_ret (v := .tuple #[.agg #[.int .i64 3, .int .i64 0, .float .f64 0, .slice none 0 0, .bool false], .int .i64 0]) (by simp [results, Try.results41, go_sem, g0, g1, g2, g3, g4]) rfl ⟨⟨3, 0, 0, .slice none 0 0, 0, fun _ => 0, false⟩, by first | rfl | (simp [PV.agg]; done), ⟨by simp, by simp, by simp, one_nil _⟩, fun h => absurd rfl h, UF⟩
      · have t3 : decide (4096 < V) = false := by rw [decide_eq_false_iff_not]; exact c3
        have t4 : decide ((n : Int) - (K : Int) < V) = true := by rw [decide_eq_true_eq]; omega
        have c4 : (n : Int) - (K : Int) < V := by omega
        go_enter Try.func41, Try.ntmps41
        go_upto_region 2 with fail
        have hbx := boxes w 3
        generalize ((w.alloc (.cells #[.int .i64 0, .int .i64 0, .float .f64 0, .slice none 0 0, .bool false] 57)).alloc (.cells #[.int .i64 3, .int .i64 0, .float .f64 0, .slice none 0 0, .bool false] 57)) = WW at hbx ⊢
        obtain ⟨⟨hb4, hb5⟩, uW⟩ := hbx
        have q0 := (hb5).cell 0 _ rfl
        have q1 := (hb5).cell 1 _ rfl
        have q2 := (hb5).cell 2 _ rfl
        have q3 := (hb5).cell 3 _ rfl
        have q4 := (hb5).cell 4 _ rfl
        have p0 := (hb4).cell 0 _ rfl
        have p1 := (hb4).cell 1 _ rfl
        have p2 := (hb4).cell 2 _ rfl
        have p3 := (hb4).cell 3 _ rfl
        have p4 := (hb4).cell 4 _ rfl
        have z0 := (hb4).free 0
        have z1 := (hb4).free 1
        have z2 := (hb4).free 2
        have z3 := (hb4).free 3
        have z4 := (hb4).free 4
        have HX4 := hid (hb4)
        have UW := hid uW
        clear hb4 hb5
        go_wp2_with (go_at_call 49; refine (HN.out _ UW.out).mono ?_; rintro e w1 ⟨rfl, hw⟩; have hw2 := hw.symm; subst hw2)
        have hfin := (((((HX4.out.put 0 (.int .i64 3)).put 1 (.int .i64 0)).put 2 (.float .f64 0)).put 3 (.slice none 0 0)).put 4 (.bool false))
        have UF : Up w (((((WW.setCell ⟨w.heap.size, 0, none⟩ (.int .i64 3)).setCell ⟨w.heap.size, 1, none⟩ (.int .i64 0)).setCell ⟨w.heap.size, 2, none⟩ (.float .f64 0)).setCell ⟨w.heap.size, 3, none⟩ (.slice none 0 0)).setCell ⟨w.heap.size, 4, none⟩ (.bool false)) := (((((uW).setCell (Nat.le_refl _) _).setCell (Nat.le_refl _) _).setCell (Nat.le_refl _) _).setCell (Nat.le_refl _) _).setCell (Nat.le_refl _) _
        have g0 := hfin.cell 0 (.int .i64 3) rfl
        have g1 := hfin.cell 1 (.int .i64 0) rfl
        have g2 := hfin.cell 2 (.float .f64 0) rfl
        have g3 := hfin.cell 3 (.slice none 0 0) rfl
        have g4 := hfin.cell 4 (.bool false) rfl
        refine bodyPost_ret (v := .tuple #[.agg #[.int .i64 3, .int .i64 0, .float .f64 0, .slice none 0 0, .bool false], .int .i64 0]) (by simp [results, Try.results41, go_sem, g0, g1, g2, g3, g4]) rfl ⟨⟨3, 0, 0, .slice none 0 0, 0, fun _ => 0, false⟩, by first | rfl | (simp [PV.agg]; done), ⟨by simp, by simp, by simp, one_nil _⟩, fun h => absurd rfl h, UF⟩
theorem one_any (q : Int) (hq : 1 ≤ q ∧ q ≤ 4) (v : Value) (n : Nat) (x : Nat → Nat) (w : World) (hv : ByRow w v n x) :
    Calls Try.prog 41 #[v, .int .i64 q] w fun e w' => OneOut w q n x e w' := by
  obtain rfl | rfl | rfl | rfl : q = 1 ∨ q = 2 ∨ q = 3 ∨ q = 4 := by omega
  · exact one_1 v n x w hv
  · by_cases h : 8 ≤ n
    · obtain ⟨b, off, cap, rfl, hc, hnc, hm⟩ := hv.cells (by omega)
      exact one_2 b off n cap x w h hnc hm hc
    · exact one_2short v n x w hv (by omega)
  · by_cases hg : lnK x n ≠ 0 ∧ 0 ≤ lnV x n ∧ lnV x n ≤ 4096 ∧ (lnV x n).toNat ≤ n - lnK x n
    · exact one_3 v n x w hv hg
    · exact one_3bad v n x w hv hg
  · exact one_4 v n x w hv
end Go.Proofs.Ytpofccnifecpfaa
