/- Proved: for every slice of bytes and every two ints the law PackBits returns true, with the table of its sixteen words as its initialiser lays it (the card ties it), without another condition. -/
import Derived.Test.YtobdgdcccogghacDoorSu
import Derived.Test.YtobdgdcccogghacDoorOb
import Derived.Lib.SlBytesConst
import Derived.Test.YtobdgdcccogghacDoorCards
import Derived.Test.YtobdgdcccogghacDoorTie
import Derived.Deep.DeepHandedRow
import Derived.Lib.LaidTab
import Derived.Lib.SmallJoins
namespace Go.Proofs.YtobdgdcccogghacDoor.packBitsDone
open Go.ChangeShapes Go.WideShapes Go.ChangeAt Go.RowKit Go.Joins
set_option linter.unusedVariables false

theorem own : ownKnob Tryd.prog.godebug = none := by kernel_rfl
theorem laidOut : laidOutB Tryd.prog = true := by kernel_rfl
theorem gTab : Tryd.prog.globalNamed "quillet/pack.halves" = some 0 := by kernel_rfl
theorem gTabType : (Tryd.prog.globals[0]?).map (·.type) = some 27 := by kernel_rfl
theorem cellsTab : Tryd.prog.cellsOf 27 = 16 := by kernel_rfl
theorem cellsU : Tryd.prog.cellsOf 23 = 1 := by kernel_rfl
theorem table {W : World} (h : laidMetH Tryd.prog Rows.packBitsRow.laid W) : Lib.TabIs Tryd.prog W "quillet/pack.halves" .u32 [0, 274646895, 549293790, 820201905, 1098587580, 1361435347, 1640403810, 1905808397, 2197175160, 2460548119, 2722870694, 2987750089, 3280807620, 3553878443, 3811616794, 4084100981] :=
  Lib.tabIs_of_head (rest := []) gTab gTabType Tryd.underlying27 Tryd.underlying23 cellsU cellsTab h
theorem tab {W : World} (h : laidMetH Tryd.prog Rows.packBitsRow.laid W) : Tab W := by
  intro j hj
  have hc := (table h).cell gTab j (by simpa using hj)
  rw [hc]
  have all : ∀ j, j < 16 → ([0, 274646895, 549293790, 820201905, 1098587580, 1361435347, 1640403810, 1905808397, 2197175160, 2460548119, 2722870694, 2987750089, 3280807620, 3553878443, 3811616794, 4084100981] : List Int).getD j 0 = ((Crc.tab j : Nat) : Int) := by decide +kernel
  rw [all j hj]
def nine : Nat → Nat := fun i => 49 + i
theorem nine_sum : Crc.sum nine 9 = 3808858755 := by decide +kernel
theorem nine_row (w : World) : ByRow (w.alloc (.cells #[.int .u8 49, .int .u8 50, .int .u8 51, .int .u8 52, .int .u8 53, .int .u8 54, .int .u8 55, .int .u8 56, .int .u8 57] 5 (9, 10))) (.slice (some ⟨w.heap.size, 0, none⟩) 9 9) 9 nine := by
  refine .inr ⟨by omega, by unfold maxLen; omega, w.heap.size, 0, 9, rfl, fun i hi => ?_⟩
  refine ⟨by unfold nine; omega, ?_⟩
  rw [Nat.zero_add]
  match i, hi with
  | 0, _ | 1, _ | 2, _ | 3, _ | 4, _ | 5, _ | 6, _ | 7, _ | 8, _ => exact cell_new _ _ _ _ _ _ rfl
theorem turned (c J : Nat) (hc : c < 256) (hJ : J ≤ 7) : ∃ C : Nat, C < 256 ∧ C ≠ c ∧ bits .xor .u8 (c : Int) (2 ^ J % 256) = (C : Int) := by
  have hp : (2 : Nat) ^ J < 256 := Nat.lt_of_le_of_lt (Nat.pow_le_pow_right (by omega) hJ) (by decide)
  have e : ((2 : Int) ^ J % 256) = ((2 ^ J % 256 : Nat) : Int) := by simp
  refine ⟨c ^^^ 2 ^ J % 256, Nat.xor_lt_two_pow (n := 8) hc (by omega), ?_, by rw [e]; exact u8_xor_nat _ _ hc (by omega)⟩
  rw [Nat.mod_eq_of_lt hp]
  intro h
  have h2 := congrArg (c ^^^ ·) h
  simp only [← Nat.xor_assoc, Nat.xor_self, Nat.zero_xor] at h2
  have := Nat.two_pow_pos J
  omega
theorem and_mask (a : Int) (m : Nat) (hm : m < 9223372036854775808) : ∃ M : Nat, M ≤ m ∧ bits .and .i64 a (m : Int) = (M : Int) := by
  refine ⟨(BitVec.ofInt 64 a &&& BitVec.ofInt 64 (m : Int)).toNat, ?_, ?_⟩
  · rw [BitVec.toNat_and, BitVec.ofInt_natCast, BitVec.toNat_ofNat, Nat.mod_eq_of_lt (by omega)]
    exact Nat.and_le_right
  · have h : (BitVec.ofInt 64 a &&& BitVec.ofInt 64 (m : Int)).toNat ≤ m := by
      rw [BitVec.toNat_and, BitVec.ofInt_natCast, BitVec.toNat_ofNat, Nat.mod_eq_of_lt (by omega)]
      exact Nat.and_le_right
    show IntKind.i64.wrap ((BitVec.ofInt 64 a &&& BitVec.ofInt 64 (m : Int)).toNat : Int) = _
    generalize (BitVec.ofInt 64 a &&& BitVec.ofInt 64 (m : Int)).toNat = r at *
    simp [IntKind.wrap, IntKind.bits, IntKind.signed]
    omega
theorem sum_ne (x y : Nat → Nat) (n j : Nat) (hx : ∀ i, i < n → x i < 256) (hy : ∀ i, i < n → y i < 256) (hj : j < n) (hd : x j ≠ y j) (he : ∀ i, i < n → i ≠ j → x i = y i) : Crc.sum x n ≠ Crc.sum y n := by
  intro h
  unfold Crc.sum at h
  have a := Crc.run_lt x n hx n (Nat.le_refl _)
  have b := Crc.run_lt y n hy n (Nat.le_refl _)
  exact Crc.run_turn x y n j hx hy hj hd he n hj (Nat.le_refl _) (by omega)

set_option maxHeartbeats 1000000 in
theorem walk_some (v0 : Value) (n0 : Nat) (x0 : Nat → Nat) (a1 a2 : Int) (w : World) (ht : Tab w) (w0 : ByRow w v0 n0 x0) (hn : 0 < n0) (h5 : n0 ≤ 5000) :
    Calls Tryd.prog 3 #[v0, .int .i64 a1, .int .i64 a2] w fun e w' => e = .returned (.bool true) ∧ Up w w' := by
  have kc := fun (w : World) (C : Array Value) (n c : Nat) => Lib.run_convert_bytes_const (P := Tryd.prog) w 22 5 C n c Tryd.underlying22 Tryd.underlying5
  have c9 := hid (sum_any _ 9 nine _ (ht.up ((Up.refl w).alloc _)) (nine_row w))
  rw [nine_sum] at c9
  have cS := hid (fun (W : World) (hW : Up w W) => sum_any v0 n0 x0 W (ht.up hW) (w0.up hW))
  obtain ⟨M, hM, eM⟩ := and_mask a1 8191 (by omega)
  obtain ⟨J, hJ, eJ⟩ := and_mask a2 7 (by omega)
  rw [show ((8191 : Nat) : Int) = 8191 from rfl] at eM
  rw [show ((7 : Nat) : Int) = 7 from rfl] at eJ
  have HW := hid w0
  have HT := hid ht
  obtain ⟨b, off, cap, rfl, hc⟩ := w0.cells hn
  have hI : M % n0 < n0 := Nat.mod_lt _ hn
  have ci := (hc _ hI).2
  have xi := (hc _ hI).1
  have t0 : ((n0 : Int) == 0) = false := beq_eq_false_iff_ne.2 (by omega)
  have t5 : decide ((5000 : Int) < (n0 : Int)) = false := by simp; omega
  obtain ⟨C, hC, hCx, eX⟩ := turned (x0 (M % n0)) J xi hJ
  have HX := hid w0.lt
  have hbl : b < w.heap.size := World.block_lt_of_cell? w _ ci
  clear hc w0
  go_enter Tryd.func3, Tryd.ntmps3
  go_wp2_with (first | (go_at_call_of 4 (Value.slice (some { block := w.heap.size, off := 0 }) 9 9); refine c9.out.mono ?_; rintro e w' ⟨rfl, rfl⟩) | (go_at_call_of 4 (Value.slice (some { block := b, off := off }) n0 cap); refine (cS.out _ ((Up.refl w).alloc _)).mono ?_; rintro e w' ⟨rfl, rfl⟩) | (at_builtin; refine wp_app rfl (.tmp 24) (.tmp 25) rfl w.heap.size _ _ 0 n0 (fun _ => 0) x0 rfl rfl (OwnB.empty (by first | (simp; done) | (simp; omega)) (by first | (simp; done) | (simp; omega))) (HW.out.up (((Up.refl w).alloc _).alloc _)) (by omega) (by first | (simp; done) | (simp; omega)) ?_; intro v' w1 hown hgr hbel; obtain ⟨g, cp, rfl, hg, hgl, ho, hcl, hfr⟩ := app_copy hown hn; have cI := hcl _ hI; have fI := hfr (M % n0); have up1 := hid (show Up w w1 from Below.trans (((Up.refl w).alloc _).alloc _) hbel); clear hown hcl hfr hbel hgr))
  have HC := hid hC
  have HCx := hid hCx
  have hpos := hid hI
  refine (sum_any _ n0 _ _ (HT.out.up (up1.out.setCell hg _)) ((ho.stored (M % n0) C hC).row)).mono ?_
  rintro e w' ⟨rfl, rfl⟩
  have tS : (((Crc.sum (set x0 (M % n0) C) n0 : Nat) : Int) == ((Crc.sum x0 n0 : Nat) : Int)) = false := by
    rw [beq_eq_false_iff_ne]
    intro h
    exact sum_ne (set x0 (M % n0) C) x0 n0 (M % n0) (ho.stored (M % n0) C hC).lt HX.out hI (by simpa [set] using hCx) (fun i _ hi => by simp [set, hi]) (by omega)
  have ci2 : (w1.setCell ⟨g, M % n0, none⟩ (.int .u8 (C : Int))).cell? ⟨b, off + M % n0, none⟩ = some (.int .u8 (x0 (M % n0) : Int)) := (up1.out.setCell hg _).keep ci
  have cI2 : (w1.setCell ⟨g, M % n0, none⟩ (.int .u8 (C : Int))).cell? ⟨g, M % n0, none⟩ = some (.int .u8 (C : Int)) := World.cell?_setCell_same' _ _ _ (by rw [cI]; rfl)
  have fI2 : (w1.setCell ⟨g, M % n0, none⟩ (.int .u8 (C : Int))).frozen? ⟨g, M % n0, none⟩ = false := (ho.stored (M % n0) C hC).own.frozenAt _
  generalize hS : Crc.sum (set x0 (M % n0) C) n0 = S1 at *
  go_wp2_with (fail)
  have ho2 := (ho.stored (M % n0) C hC).stored (M % n0) (x0 (M % n0)) xi
  rw [set_back] at ho2
  refine (sum_any _ n0 x0 _ (HT.out.up ((up1.out.setCell hg _).setCell hg _)) ho2.row).mono ?_
  rintro e w' ⟨rfl, rfl⟩
  have up2 := (up1.out.setCell (p := ⟨g, M % n0, none⟩) hg (.int .u8 (C : Int))).setCell (p := ⟨g, M % n0, none⟩) hg (.int .u8 (x0 (M % n0) : Int))
  clear ho2 ho up1 cI fI ci2 cI2 fI2
  go_wp2
  go_ret
  exact ⟨rfl, up2⟩
set_option maxHeartbeats 400000 in
theorem walk_none (a : Option Addr) (c : Nat) (a1 a2 : Int) (w : World) (ht : Tab w) :
    Calls Tryd.prog 3 #[.slice a 0 c, .int .i64 a1, .int .i64 a2] w fun e w' => e = .returned (.bool true) ∧ Up w w' := by
  have kc := fun (w : World) (C : Array Value) (n c : Nat) => Lib.run_convert_bytes_const (P := Tryd.prog) w 22 5 C n c Tryd.underlying22 Tryd.underlying5
  have c9 := hid (sum_any _ 9 nine _ (ht.up ((Up.refl w).alloc _)) (nine_row w))
  rw [nine_sum] at c9
  clear ht
  go_enter Tryd.func3, Tryd.ntmps3
  go_wp2_with ((go_at_call_of 4 (Value.slice (some { block := w.heap.size, off := 0 }) 9 9); refine c9.out.mono ?_; rintro e w' ⟨rfl, rfl⟩))
  go_ret
  exact ⟨rfl, (Up.refl w).alloc _⟩
set_option maxHeartbeats 400000 in
theorem walk_long (v0 : Value) (n0 : Nat) (x0 : Nat → Nat) (a1 a2 : Int) (w : World) (ht : Tab w) (w0 : ByRow w v0 n0 x0) (h5 : 5000 < n0) :
    Calls Tryd.prog 3 #[v0, .int .i64 a1, .int .i64 a2] w fun e w' => e = .returned (.bool true) ∧ Up w w' := by
  have kc := fun (w : World) (C : Array Value) (n c : Nat) => Lib.run_convert_bytes_const (P := Tryd.prog) w 22 5 C n c Tryd.underlying22 Tryd.underlying5
  have c9 := hid (sum_any _ 9 nine _ (ht.up ((Up.refl w).alloc _)) (nine_row w))
  rw [nine_sum] at c9
  obtain ⟨b, off, cap, rfl, hc⟩ := w0.cells (by omega)
  have t0 : ((n0 : Int) == 0) = false := beq_eq_false_iff_ne.2 (by omega)
  have t5 : decide ((5000 : Int) < (n0 : Int)) = true := by simp; omega
  clear ht hc w0
  go_enter Tryd.func3, Tryd.ntmps3
  go_wp2_with ((go_at_call_of 4 (Value.slice (some { block := w.heap.size, off := 0 }) 9 9); refine c9.out.mono ?_; rintro e w' ⟨rfl, rfl⟩))
  go_ret
  exact ⟨rfl, (Up.refl w).alloc _⟩

theorem walk (v0 : Value) (n0 : Nat) (x0 : Nat → Nat) (a1 : Int) (a2 : Int) (w : World) (ht : Tab w) (w0 : ByRow w v0 n0 x0) (w1 : (Lit.int .i64 a1).wf = true) (w2 : (Lit.int .i64 a2).wf = true) :
    Calls Tryd.prog 3 #[v0, .int .i64 a1, .int .i64 a2] w fun e w' => e = .returned (.bool true) ∧ Up w w' := by
  by_cases hz : n0 = 0
  · rcases w0 with ⟨rfl, a, c, rfl, _⟩ | ⟨hn, _⟩
    · exact walk_none a c a1 a2 w ht
    · omega
  · by_cases h5 : n0 ≤ 5000
    · exact walk_some v0 n0 x0 a1 a2 w ht w0 (by omega) h5
    · exact walk_long v0 n0 x0 a1 a2 w ht w0 (by omega)

/-- A world for the witness: the settled one, the table holding what its initialiser lays. -/
noncomputable def laidWorld (os : Os) : World :=
  { World.holding Tryd.prog os ⟨#[], #[], []⟩ with heap := (World.holding Tryd.prog os ⟨#[], #[], []⟩).heap.modify 0 fun
      | .cells _ t frozen => .cells #[.int .u32 0, .int .u32 274646895, .int .u32 549293790, .int .u32 820201905, .int .u32 1098587580, .int .u32 1361435347, .int .u32 1640403810, .int .u32 1905808397, .int .u32 2197175160, .int .u32 2460548119, .int .u32 2722870694, .int .u32 2987750089, .int .u32 3280807620, .int .u32 3553878443, .int .u32 3811616794, .int .u32 4084100981] t frozen
      | o => o }
theorem laid_met (os : Os) : laidMet Tryd.prog Rows.packBitsRow.laid ((laidWorld os).forCall (fun _ _ => 0) ⟨#[], #[.slice none 0 0, .int .i64 0, .int .i64 0], []⟩).memory :=
  laidMet_of_run' 8 (by kernel_rfl) (by kernel_rfl)
theorem reads (os : Os) {H : Type} (enc : TypeId × Value → H) : ∃ places, DataW.whole enc Tryd.prog ((laidWorld os).forCall (fun _ _ => 0) ⟨#[], #[.slice none 0 0, .int .i64 0, .int .i64 0], []⟩).memory Tryd.f3.params.toList Rows.packBitsSpec.vars false (#[.slice none 0 0, .int .i64 0, .int .i64 0] : Array Value).toList 8 = some ([.nil, .lit (.int .i64 0), .lit (.int .i64 0)], [], places) :=
  ⟨[], by kernel_rfl⟩
set_option maxRecDepth 100000 in
theorem lifted (os : Os) (started : os.Started) (H : Type) (enc : TypeId × Value → H) (F : Stop.Interp) :
    ReturnsInHanded {} Tryd.checked os 3 .any ((OpenSpec.ofChange Rows.packBitsSpec).preRow enc Tryd.prog Tryd.f3 Rows.packBitsRow.domain false Rows.packBitsRow.laid) (((OpenSpec.ofChange Rows.packBitsSpec).at F).post enc Tryd.prog Tryd.f3 false true false false) := by
  obtain ⟨places, hx⟩ := reads os enc
  refine returnsInHanded_of_row (C := Tryd.checked) (s := OpenSpec.ofChange Rows.packBitsSpec) own started (by kernel_rfl) Tryd.func3
    (witness_row_at (enc := enc) (C := Tryd.checked) false (laidWorld os) #[.slice none 0 0, .int .i64 0, .int .i64 0] rfl (by kernel_rfl) (by kernel_rfl) (by kernel_rfl)
      (OpenSpec.preRow_of_cond 8 hx (by kernel_rfl) (fun k hk => by cases hk) (by kernel_rfl) (laid_met os))) ?_
  intro W base args ds gs before hval0 hW hcnd _ _ hL _ _
  have hval : ∀ (j : Nat) t v, Tryd.f3.params[j]? = some t → args[j]? = some v → Value.okWide Tryd.prog W .any base t v := hval0
  have hW' := hW
  obtain ⟨p, q, hA0, hV, rfl, hfz, hnd⟩ := hW
  have hA : DataW.TrodAll enc Tryd.prog W 0 (fun _ => true) true Tryd.f3.params.toList args.toList ds p := hA0
  rw [Tryd.params3] at hA hval
  obtain ⟨v0, vs0, d0, ds0, p0, q0, hargs, rfl, rfl, h0, r0⟩ := trodAll_cons hA
  obtain ⟨v1, vs1, d1, ds1, p1, q1, rfl, rfl, rfl, h1, r1⟩ := trodAll_cons r0
  obtain ⟨v2, vs2, d2, ds2, p2, q2, rfl, rfl, rfl, h2, r2⟩ := trodAll_cons r1
  obtain ⟨rfl, rfl, rfl⟩ := trodAll_nil r2
  obtain rfl : args = #[v0, v1, v2] := by cases args; simp_all
  obtain ⟨rfl, rfl⟩ := trodVars_none hV
  have k0 := h0
  have lt0 : ∀ x ∈ p0, x.block < W.heap.size := by obtain ⟨m, hm⟩ := k0; exact DataW.trod_lt m _ _ _ hm
  obtain ⟨n0, x0, w0⟩ := open_bytes (hval 0 22 v0 rfl rfl) h0
  have k1 := h1
  have lt1 : ∀ x ∈ p1, x.block < W.heap.size := by obtain ⟨m, hm⟩ := k1; exact DataW.trod_lt m _ _ _ hm
  obtain ⟨a1, rfl, _, _, w1⟩ := open_int Tryd.underlying3 (hval 1 3 v1 rfl rfl) h1
  have k2 := h2
  have lt2 : ∀ x ∈ p2, x.block < W.heap.size := by obtain ⟨m, hm⟩ := k2; exact DataW.trod_lt m _ _ _ hm
  obtain ⟨a2, rfl, _, _, w2⟩ := open_int Tryd.underlying3 (hval 2 3 v2 rfl rfl) h2
  clear hA0 hval0
  refine (walk v0 n0 x0 a1 a2 W (tab hL) w0 w1 w2).mono fun e W' ⟨he, bel⟩ => ?_
  subst he
  exact ⟨_, rfl, _, _, _, [], _, [], hW', trodAll_mk1 (shut_bool Tryd.underlying4 _), (trodAll_cons_mk (Below.trod laidOut (by kernel_rfl) (of_decide_eq_true (by kernel_rfl)) k0 bel lt0) (trodAll_cons_mk (Below.trod laidOut (by kernel_rfl) (of_decide_eq_true (by kernel_rfl)) k1 bel lt1) (trodAll_cons_mk (Below.trod laidOut (by kernel_rfl) (of_decide_eq_true (by kernel_rfl)) k2 bel lt2) trodAll_mk0))), rfl, Below.frame bel _, fun h => by cases h⟩

theorem said : Rows.PackBitsSaid :=
  OpenClaim.holds_of_cond 3 Tryd.f3 rfl rfl rfl rfl rfl rfl rfl ⟨rfl, rfl, rfl, rfl, rfl⟩ rfl rfl rfl rfl rfl (by kernel_rfl) Tryd.func3 (by kernel_rfl)
    (of_decide_eq_true (by kernel_rfl)) (by unfold Func.isWrapper; first | (rw [if_pos (by decide +kernel)]; kernel_rfl) | (rw [if_neg (by decide +kernel)]; exact ⟨rfl, rfl⟩))
    (fun os started H enc _ F => by rw [OpenClaim.pre_eq_preRow]; exact lifted os started H enc F)
theorem plain (f : FuncId) (fn : Func) (hf : Tryd.pinned.checked.prog.funcNamed "quillet/quilletlaw03.PackBits" = some f) (hfn : Tryd.pinned.checked.prog.funcs[f]? = some fn) :
    false = Tryd.pinned.checked.prog.looks [] ∧ ∀ (j : Nat) t, fn.params[j]? = some t → Tryd.pinned.checked.prog.wantsStandIn t = false := by
  obtain rfl : f = 3 := Option.some.inj ((show Tryd.prog.funcNamed "quillet/quilletlaw03.PackBits" = some 3 by kernel_rfl).symm.trans hf) |>.symm
  obtain rfl : fn = Tryd.f3 := (Option.some.inj (Tryd.func3.symm.trans hfn)).symm
  refine ⟨by kernel_rfl, fun j t ht => ?_⟩
  rw [Tryd.params3] at ht
  have hm := Array.mem_of_getElem? ht
  have ht2 : t = 22 ∨ t = 3 := by simpa using hm
  rcases ht2 with rfl | rfl
  · exact (show Tryd.prog.wantsStandIn 22 = false by kernel_rfl)
  · exact (show Tryd.prog.wantsStandIn 3 = false by kernel_rfl)
theorem card : Rows.PackBitsCardSaid :=
  Claim7.holds_tied_plain_at .later [] _ _ _ _ said (fun _ h => by cases h) (by kernel_rfl) (fun _ h => by cases h) packBits_row_tie rfl ⟨rfl, rfl⟩ (by kernel_rfl) rfl plain (by kernel_rfl)
end Go.Proofs.YtobdgdcccogghacDoor.packBitsDone
namespace Go.Proofs.YtobdgdcccogghacDoor
theorem packBits_holds : Rows.PackBitsCardSaid := packBitsDone.card
#print axioms packBits_holds
end Go.Proofs.YtobdgdcccogghacDoor
