/- The example of law 7; conditions: the table is laid. -/
import Derived.Test.YtfphopleniidfaaGreatDoorG7g
namespace Go.Proofs.YtfphopleniidfaaGreatDoor
open Go.RowKit Go.Lib Go.ChangeShapes Go.WideShapes
set_option linter.unusedVariables false
set_option linter.unusedSimpArgs false
set_option maxRecDepth 20000
/-- Open where it answers. -/
def OkPost (w0 W : World) (db : Nat) (A : List Nat) (pp : PD) (pv : Int × Int) (e : Ending) (w' : World) : Prop := ∃ hb, e = .returned (.tuple #[.pointer (some ⟨hb, 0, none⟩), .int .i64 0]) ∧ Dsk w0 w' db pp (A ++ [hb]) ∧ w'.heap[hb]? = some (.cells #[.pointer (some ⟨db, 0, none⟩), .int .i64 pv.1, .int .i64 pv.2] 65 (0, 0)) ∧ w0.heap.size ≤ hb ∧ Kp A W w'
theorem open_ok (w0 W : World) (db : Nat) (p : PD) (A : List Nat) (h : Dsk w0 W db p A) (ht : Pk.Tab w0) (he : opE p = 0) : Calls Tryz.prog 6 #[.pointer (some ⟨db, 0, none⟩)] W (OkPost w0 W db A (opP p) (opV p)) :=
  (open_any w0 W db p A h ht).mono fun e w' q => by
    rcases q with ⟨_, q⟩ | ⟨q, _⟩
    · exact q
    · exact absurd he q
theorem op_zero : opE pd0 = 0 ∧ opP pd0 = pd0 ∧ opV pd0 = (0, 0) := by
  obtain ⟨h1, h2, h3, h4, h5, h6⟩ := op_ok pd0 rfl rfl
  refine ⟨h1, ?_, by rw [h6]; exact rd_nil⟩
  unfold opP
  rw [if_neg (by decide)]
theorem BRow.none (w : World) : BRow w (.slice none 0 0) [] := ⟨by simp, _, 0, rfl, by simp, by simp, fun i hi => by simp at hi⟩
theorem fr_le (t v : Int) : (frB (payL t v)).length ≤ 65536 := by rw [frB_len]; have := payL_le t v; omega
theorem save_new {p : PD} {t v t0 v0 : Int} (h : rgt t v = true) (hn : ¬ (t = t0 ∧ v = v0)) : saveC p t v t0 v0 = svE p (frB (payL t v)) ∧ saveP p t v t0 v0 = svP p (frB (payL t v)) := by
  have h2 : ¬ rgt t v = false := by rw [h]; decide
  unfold saveC saveP
  exact ⟨by rw [if_neg h2, if_neg hn], by rw [if_neg h2, if_neg hn]⟩
theorem ex_one : saveC pd0 3 2 0 0 = 0 ∧ saveP pd0 3 2 0 0 = ⟨[(sH, ⟨frB (payL 3 2), frB (payL 3 2)⟩)], false, 0⟩ ∧ saveV pd0 3 2 0 0 = (3, 2) := by
  obtain ⟨e1, e2⟩ := save_new (p := pd0) (t := 3) (v := 2) (t0 := 0) (v0 := 0) (by decide) (by decide)
  obtain ⟨-, -, -, -, h5⟩ := sv_all [] 0 (frB (payL 3 2)) (by omega) rfl (by simp) (fr_le 3 2)
  obtain ⟨q1, q2⟩ := h5 (.inl rfl)
  have e3 : saveC pd0 3 2 0 0 = 0 := e1.trans q1
  exact ⟨e3, e2.trans q2, by unfold saveV; rw [e3, if_pos rfl]⟩
theorem ex_two (B : List Nat) : saveC ⟨[(sH, ⟨B, B⟩)], false, 4⟩ 4 0 3 2 = 50 ∧ saveP ⟨[(sH, ⟨B, B⟩)], false, 4⟩ 4 0 3 2 = ⟨[(sH, ⟨B, B⟩), (sT, ⟨frB (payL 4 0), frB (payL 4 0)⟩)], true, 0⟩ := by
  obtain ⟨e1, e2⟩ := save_new (p := ⟨[(sH, ⟨B, B⟩)], false, 4⟩) (t := 4) (v := 0) (t0 := 3) (v0 := 2) (by decide) (by decide)
  obtain ⟨-, -, -, h4, -⟩ := sv_all [(sH, ⟨B, B⟩)] 4 (frB (payL 4 0)) (by omega) (getP_none (fun q hq => by rw [List.mem_singleton.1 hq]; exact fun e => ne_TH e.symm)) (by simp) (fr_le 4 0)
  obtain ⟨q1, q2⟩ := h4 rfl
  exact ⟨e1.trans q1, e2.trans q2⟩
theorem keys_one {F : List ByteArray} (h : F = [sH, sT]) : (F.filter (fun s => decide (s ≠ sT))).length = 1 := by
  subst h
  kernel_rfl
set_option maxHeartbeats 4000000 in
set_option maxRecDepth 20000 in
theorem alive_any (w : World) (ht : Pk.Tab w) : Calls Tryz.prog 5 #[] w fun e w' => e = .returned (.bool true) ∧ Old w w' := by
  have HT := hid ht
  have HA := hid op_zero
  obtain ⟨B, hB⟩ : ∃ B, frB (payL 3 2) = B := ⟨_, rfl⟩
  have HX := hid ex_one
  rw [hB] at HX
  have HY := hid (ex_two B)
  have HRd := hid (show rdP B = (3, 2) from by rw [← hB]; exact rd_fr 3 2 (by decide))
  have HMx := hid (show max (0 : Int) 4 = 4 from by decide)
  clear ht hB
  go_enter Tryz.func5, Tryz.ntmps5
  go_upto_region 5 with (first | (go_at_call 4; refine (newD w _ (Old.refl _)).mono ?_; rintro e w1 ⟨db, rfl, dd1, _⟩; have D1 := hid dd1; clear dd1) | (go_at_call 6; refine (open_ok w _ db pd0 [] D1.out HT.out HA.out.1).mono ?_; rintro e w2 ⟨hb, rfl, d2, b2, l2, -⟩; rw [HA.out.2.1] at d2; rw [HA.out.2.2] at b2; have D2 := hid d2; have B2 := hid b2; have L2 := hid l2; clear d2 b2 l2))
  go_upto_region 7 with (go_at_call 8; refine (save_any w _ db hb pd0 ([] ++ [hb]) 3 2 0 0 D2.out (by simp) B2.out L2.out HT.out (by omega) (by omega)).mono ?_; rintro e w3 ⟨rfl, d3, b3⟩; rw [HX.out.2.1] at d3; rw [HX.out.2.2] at b3; rw [HX.out.1]; have D3 := hid d3; have B3 := hid b3; clear d3 b3)
  clear D1 D2 B2 HX HA
  go_upto_region 8 with (go_at_call 10; refine (failD w _ db _ _ 4 D3.out (by omega)).mono ?_; rintro e w4 ⟨rfl, d4, k4⟩; rw [HMx.out] at d4; have D4 := hid d4; have B4 := hid (k4.at (by simp) B3.out); clear d4 k4)
  clear D3 B3
  go_upto_region 9 with (go_at_call 8; refine (save_any w _ db hb _ ([] ++ [hb]) 4 0 3 2 D4.out (by simp) B4.out L2.out HT.out (by omega) (by omega)).mono ?_; rintro e w5 ⟨rfl, d5, -⟩; rw [HY.out.2] at d5; rw [HY.out.1]; have D5 := hid d5; clear d5)
  clear D4 B4 HY
  go_upto_region 10 with (go_at_call 11; refine (crashD w _ db _ _ _ [] D5.out (BRow.none _) (.inl rfl) (fun h => by simp at h)).mono ?_; rintro e w6 ⟨rfl, S, -, -, d6, -⟩; have D6 := hid d6; clear d6)
  have HO := hid (op_ok (crashP ⟨[(sH, ⟨B, B⟩), (sT, ⟨frB (payL 4 0), frB (payL 4 0)⟩)], true, 0⟩ S []) rfl rfl)
  have HV := hid (show opV (crashP ⟨[(sH, ⟨B, B⟩), (sT, ⟨frB (payL 4 0), frB (payL 4 0)⟩)], true, 0⟩ S []) = (3, 2) from by rw [HO.out.2.2.2.2.2, crash_get _ S [] sH B (by simp [getP])]; exact HRd.out)
  have HKl := hid (show (keysP (opP (crashP ⟨[(sH, ⟨B, B⟩), (sT, ⟨frB (payL 4 0), frB (payL 4 0)⟩)], true, 0⟩ S [])).fs).length = 1 from by rw [HO.out.2.2.2.2.1]; exact keys_one ((crash_op _ S []).2.2))
  have HE := hid HO.out.1
  generalize crashP ⟨[(sH, ⟨B, B⟩), (sT, ⟨frB (payL 4 0), frB (payL 4 0)⟩)], true, 0⟩ S [] = q at *
  clear HO D5
  go_upto_region 11 with (go_at_call 6; refine (open_ok w _ db q ([] ++ [hb]) D6.out HT.out HE.out).mono ?_; rintro e w7 ⟨hb2, rfl, d7, b7, -, -⟩; rw [HV.out] at b7; have D7 := hid d7; have B7 := hid b7; clear d7 b7)
  go_wp2_with (first | (go_at_call 14; refine (term_any hb2 _ 3 2 _ B7.out).mono ?_; rintro e w8 ⟨rfl, hw⟩; have hw2 := hw.symm; subst hw2; clear hw) | (go_at_call 15; refine (vote_any hb2 _ 3 2 _ B7.out).mono ?_; rintro e w8 ⟨rfl, hw⟩; have hw2 := hw.symm; subst hw2; clear hw) | (go_at_call 13; refine (namesD w _ db (opP q) _ D7.out).mono ?_; rintro e w9 ⟨vn, S9, rfl, hS9, -, oS9, u9⟩; have e9 := hS9.length_eq; rw [HKl.out] at e9; obtain ⟨a9, c9, z9⟩ := oS9.len; rw [e9] at z9; subst z9; have U9 := hid u9; clear e9 hS9 oS9 u9))
  go_ret
  exact ⟨rfl, D7.out.base.trans U9.out⟩
end Go.Proofs.YtfphopleniidfaaGreatDoor
