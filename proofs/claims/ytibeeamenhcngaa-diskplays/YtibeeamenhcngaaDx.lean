/- The example that the laws of layer 5 begin with; no condition. -/
import Derived.Test.YtibeeamenhcngaaDwk
import Derived.Laws.MakeOwn
import Derived.Laws.OwnMore
namespace Go.Proofs.Ytibeeamenhcngaa
open Go.RowKit Go.Lib
set_option linter.unusedVariables false
set_option linter.unusedSimpArgs false
set_option maxRecDepth 20000
def zB (k : Nat) : Array Value := madeCells (Value.int .u8 0).cells (k * 1)
theorem zB_list (k : Nat) : (zB k).toList = bv (List.replicate k 0) := by
  unfold zB
  rw [Nat.mul_one, show (Value.int .u8 0).cells = #[Value.int .u8 0] from rfl, toList_madeCells_one]
  simp [bv]
theorem madeB (w : World) (k : Nat) (hk : k ≤ 1000000) : (Instr.makeSlice 23 (.int .i64 (k : Nat)) (.int .i64 (k : Nat))).run Try.prog w = .ok (.slice (some ⟨w.heap.size, 0, none⟩) k k) (w.alloc (.cells (zB k) 5)) := by
  obtain ⟨i0, hi, hz0, hz1, hz2⟩ := info_parts Pk.infoByte
  have q := run_make (P := Try.prog) w 23 5 i0 _ Try.underlying23 hi hz0 .i64 .i64 k k (by omega) (Int.le_refl _) (by rw [hz2]; omega) (by omega)
  rw [hz1] at q
  simpa [zB] using q
theorem madeRow (w : World) (k : Nat) (hk : k ≤ 1000000) : Own (w.alloc (.cells (zB k) 5)) (.slice (some ⟨w.heap.size, 0, none⟩) k k) (List.replicate k 0) := by
  have h := own_of (L := List.replicate k 0) (cap := k) (alloc_at w (.cells (zB k) 5)) (by simp) (by unfold maxLen; omega) (by rw [← Array.length_toList, zB_list, bv_len]; simp) (by rw [zB_list, List.take_of_length_le (by rw [bv_len]; exact Nat.le_refl _)]) (byt_zero k)
  simpa using h
theorem Own.set {w : World} {g n c : Nat} {L : List Nat} (h : Own w (.slice (some ⟨g, 0, none⟩) n c) L) (i x : Nat) (hi : i < L.length) (hx : x < 256) : Own (w.setCell ⟨g, i, none⟩ (.int .u8 (x : Int))) (.slice (some ⟨g, 0, none⟩) n c) (L.set i x) := by
  have hb := h.byt
  rcases h.cases with ⟨e, _⟩ | ⟨g', cap, cur, e, hg, h1, h2, h3, h4⟩
  · cases e
  · cases e
    have hl : (L.set i x).length = L.length := List.length_set ..
    have q := own_of (L := L.set i x) (Go.Joins.block_setCell hg (.int .u8 (x : Int)) (i := i)) (by omega) h2 (by simpa using h3) (by
      rw [hl, Array.toList_setIfInBounds, List.take_set, h4]
      unfold bv
      rw [List.map_set]) (fun y hy => by
      rcases List.mem_or_eq_of_mem_set hy with z | z
      · exact hb y z
      · omega)
    rw [hl] at q
    exact q
theorem Own.cellAt {w : World} {g n c : Nat} {L : List Nat} (h : Own w (.slice (some ⟨g, 0, none⟩) n c) L) (i : Nat) (hi : i < L.length) : w.cell? ⟨g, i, none⟩ = some (.int .u8 ((L.getD i 0 : Nat) : Int)) ∧ w.frozen? ⟨g, i, none⟩ = false ∧ L.length = n ∧ n ≤ c ∧ c ≤ 9223372036854775807 := by
  rcases h.cases with ⟨e, _⟩ | ⟨g', cap, cur, e, hg, h1, h2, h3, h4⟩
  · cases e
  · cases e
    unfold maxLen at h2
    refine ⟨?_, Go.Joins.unfrozen_of_block hg i, rfl, h1, by omega⟩
    rw [Go.Joins.cell_of_block hg, ← Array.getElem?_toList]
    have q : (cur.toList.take L.length)[i]? = cur.toList[i]? := by rw [List.getElem?_take, if_pos hi]
    rw [← q, h4]
    simp [bv, hi, List.getD_eq_getElem?_getD]
def sA : ByteArray := ⟨#[97]⟩
def sB : ByteArray := ⟨#[98]⟩
def z40 : List Nat := List.replicate 40 0
def s40 : List Nat := List.replicate 40 7
def x1 : PD := ⟨[(sA, ⟨[], []⟩)], false, 0⟩
def x2 : PD := ⟨[(sA, ⟨z40, []⟩)], false, 0⟩
def x3 : PD := ⟨[(sA, ⟨z40, z40⟩)], false, 0⟩
def x4 : PD := ⟨[(sA, ⟨z40 ++ s40, z40⟩)], false, 0⟩
def r80 : List Nat := List.replicate 64 0 ++ List.replicate 16 7
def x5 : PD := ⟨[(sA, ⟨r80, r80⟩)], false, 0⟩
theorem t1 : createC pd0 sA = 0 ∧ createP pd0 sA = x1 := ⟨by kernel_rfl, by kernel_rfl⟩
theorem t2 : writeC x1 sA 0 z40 = 0 ∧ writeP x1 sA 0 z40 = x2 := ⟨by kernel_rfl, by kernel_rfl⟩
theorem t3 : syncC x2 sA = 0 ∧ syncP x2 sA = x3 := ⟨by kernel_rfl, by kernel_rfl⟩
theorem t4 : writeC x3 sA 40 s40 = 0 ∧ writeP x3 sA 40 s40 = x4 := ⟨by kernel_rfl, by kernel_rfl⟩
theorem t5 : looN x4.fs = 2 := by kernel_rfl
theorem t6 : crashP x4 [sA] [false, true] = x5 := by kernel_rfl
theorem t7 : readC x5 sA = 0 ∧ readL x5 sA = r80 := ⟨by kernel_rfl, by kernel_rfl⟩
theorem t8 : r80.length = 80 ∧ r80.getD 63 0 = 0 ∧ r80.getD 64 0 = 7 := ⟨by kernel_rfl, by kernel_rfl, by kernel_rfl⟩
theorem BRow.two (w : World) (a b : Bool) (g : Nat) (hg : w.heap.size = g) : BRow (w.alloc (.cells #[.bool a, .bool b] 4)) (.slice (some ⟨g, 0, none⟩) 2 2) [a, b] := by
  subst hg
  refine ⟨by simp, _, 2, rfl, by simp, by simp, fun i hi => ⟨w.heap.size, 0, rfl, ?_⟩⟩
  match i, hi with
  | 0, _ => simp
  | 1, _ => simp
def fillL (i : Nat) : List Nat := List.replicate i 7 ++ List.replicate (40 - i) 0
theorem fillL_len (i : Nat) (h : i ≤ 40) : (fillL i).length = 40 := by unfold fillL; simp; omega
theorem fill_step (i : Nat) (h : i < 40) : (fillL i).set i 7 = fillL (i + 1) := by
  unfold fillL
  rw [List.set_append_right _ _ (by simp), List.length_replicate, Nat.sub_self, show 40 - i = (40 - (i + 1)) + 1 by omega, List.replicate_succ, List.set_cons_zero, List.replicate_succ', List.append_assoc]
  rfl
theorem Own.shape {w : World} {v : Value} {L : List Nat} (h : Own w v L) (h0 : 0 < L.length) : ∃ g c, v = .slice (some ⟨g, 0, none⟩) L.length c := by
  rcases h.cases with ⟨rfl, rfl⟩ | ⟨g, cap, cur, rfl, _⟩
  · simp at h0
  · exact ⟨g, cap, rfl⟩
theorem perm1 {S : List ByteArray} {a : ByteArray} (h : S.Perm [a]) : S = [a] := List.perm_singleton.1 h
set_option maxHeartbeats 4000000 in
set_option maxRecDepth 20000 in
theorem alive_any (w : World) : Calls Try.prog 6 #[] w fun e w' => e = .returned (.bool true) ∧ Old w w' := by
  have hm40 : ∀ w : World, (Instr.makeSlice 23 (.int .i64 40) (.int .i64 40)).run Try.prog w = .ok (.slice (some ⟨w.heap.size, 0, none⟩) 40 40) (w.alloc (.cells (zB 40) 5)) := fun w => madeB w 40 (by omega)
  go_enter Try.func6, Try.ntmps6
  go_upto_region 4 with (first | (go_at_call 5; refine (newD w _ (Old.refl _)).mono ?_; rintro e w1 ⟨db, rfl, d1, _⟩; have D1 := hid d1; clear d1) | (go_at_call 14; refine (createD w _ db _ _ sA D1.out).mono ?_; rintro e w2 ⟨rfl, d2, _⟩; rw [t1.1]; rw [t1.2] at d2; have D2 := hid d2; clear d2) | (go_at_call 15; refine (writeD w _ db _ [w2.heap.size] sA 0 _ z40 (D2.out.add ((Old.refl _).alloc (.cells (zB 40) 5)) [w2.heap.size] (by simp)) (madeRow w2 40 (by omega)).row (fun _ g e => by cases e; right; simp) (by omega)).mono ?_; rintro e w3 ⟨rfl, d3, _⟩; rw [t2.1]; rw [t2.2] at d3; have D3 := hid d3; clear d3) | (go_at_call 16; refine (syncD w _ db _ _ sA D3.out).mono ?_; rintro e w4 ⟨rfl, d4, _⟩; rw [t3.1]; rw [t3.2] at d4; have D4 := hid d4; clear d4))
  go_upto_region 5 with (refine @at_builtin _ _ _ _ _ _ _ _ _ ?_)
  have D5 := hid (D4.out.add ((Old.refl w4).alloc (.cells (zB 40) 5)) [w4.heap.size] (by simp))
  have O5 := hid (show Own (w4.alloc (.cells (zB 40) 5)) (.slice (some ⟨w4.heap.size, 0, none⟩) 40 40) (fillL 0) from madeRow w4 40 (by omega))
  have hgw := hid (show w.heap.size ≤ w4.heap.size from D4.out.base.size)
  generalize w4.alloc (.cells (zB 40) 5) = w5 at *
  generalize w4.heap.size = g at *
  generalize w2.heap.size = g2 at *
  go_wp2
  go_loopw [30] (fun c wr => ∃ i : Nat, i ≤ 40 ∧ c = .int .i64 (i : Nat) ∧ Own wr (.slice (some ⟨g, 0, none⟩) 40 40) (fillL i) ∧ Dsk w wr db x3 ([g2] ++ [g])) (fun c _ => 40 - (intOf c).toNat)
  case atStart => exact ⟨0, Nat.zero_le _, rfl, O5.out, D5.out⟩
  case round =>
    obtain ⟨i, hi, rfl, hO, hD⟩ := hrel
    have HO := hid hO
    have HD := hid hD
    clear hO hD O5 D5
    by_cases hlt : i < 40
    · obtain ⟨c1, c2, _⟩ := HO.out.cellAt i (by rw [fillL_len i hi]; exact hlt)
      have l1 : (0 : Int) ≤ (i : Int) := by omega
      have l2 : (i : Int) < 40 := by omega
      have HO1 := hid (HO.out.set i 7 (by rw [fillL_len i hi]; exact hlt) (by omega))
      have HD1 := hid (HD.out.wr (Chg.set (S := [g]) wr ⟨g, i, none⟩ (.int .u8 7) (by simp)) (fun b hb => by cases List.mem_singleton.1 hb; exact ⟨by simp, hgw.out⟩))
      clear HO HD
      generalize (fillL i).getD i 0 = old at *
      go_wp2
      go_roundw
      case rel => exact ⟨i + 1, hlt, by go_num, by rw [← fill_step i hlt]; exact HO1.out, HD1.out⟩
      case measure => simp [intOf]; omega
    · obtain rfl : i = 40 := by omega
      clear hm40 hlt hi
      go_upto_region 14 with (first | (go_at_call 15; refine (writeD w _ db _ _ sA 40 _ s40 HD.out HO.out.row (fun _ g' e => by cases e; right; simp) (by omega)).mono ?_; rintro e w6 ⟨rfl, d6, _⟩; rw [t4.1]; rw [t4.2] at d6; have D6 := hid d6; clear d6) | (go_at_call 10; refine (looseD w _ db _ _ D6.out).mono ?_; rintro e w7 ⟨rfl, u7⟩; rw [t5]; have D7 := hid (D6.out.old u7); clear u7) | (go_at_call 8; refine (crashD w _ db _ _ _ [false, true] (D7.out.add ((Old.refl w7).alloc (.cells #[.bool false, .bool true] 4)) [w7.heap.size] (by simp)) (BRow.two w7 false true _ rfl) (.inr (.inl ⟨_, _, _, _, rfl⟩)) (fun _ g' e => by cases e; right; simp)).mono ?_; rintro e w8 ⟨rfl, S, hS, _, d8, _⟩; obtain rfl := perm1 (show S.Perm [sA] from hS); rw [t6] at d8; have D8 := hid d8; clear d8 hS) | (go_at_call 12; refine (readD w _ db _ _ sA D8.out).mono ?_; rintro e w9 ⟨v9, rfl, o9, u9, _⟩; rw [t7.1]; rw [t7.2] at o9; obtain ⟨g9, c9, e9⟩ := o9.shape (by rw [t8.1]; omega); subst e9; have A63 := o9.cellAt 63 (by rw [t8.1]; omega); have A64 := o9.cellAt 64 (by rw [t8.1]; omega); rw [t8.2.1] at A63; rw [t8.2.2] at A64; rw [t8.1] at *; have D9 := hid (D8.out.old u9); clear u9 o9))
      obtain ⟨a1, _, _, a4, a5⟩ := A63
      obtain ⟨b1, _⟩ := A64
      go_wp2_with (first | (go_at_call 11; refine (namesD w _ db _ _ D9.out).mono ?_; rintro e w10 ⟨vn, S, rfl, hS, _, oS, u10⟩; obtain rfl := perm1 (show S.Perm [sA] from hS); obtain ⟨pn, cn, en⟩ := oS.len; subst en; have D10 := hid (D9.out.old u10); clear oS u10 hS) | (go_at_call 22; refine (downD w _ db _ _ D10.out).mono ?_; rintro e w11 ⟨rfl, hw⟩; have hw2 := hw.symm; subst hw2))
      go_ret
      exact ⟨rfl, D10.out.base⟩
end Go.Proofs.Ytibeeamenhcngaa
