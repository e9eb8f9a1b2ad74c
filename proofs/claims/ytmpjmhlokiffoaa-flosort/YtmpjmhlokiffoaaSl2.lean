/- The law FloSort, walked: rows of none and of one number or more; conditions: the row lies in memory. -/
import Derived.Test.YtmpjmhlokiffoaaSk2
import Derived.Laws.AppendOwnNone
namespace Go.Proofs.Ytmpjmhlokiffoaa
open Go.Shelf Go.RowKit Go.Lib Go.Sort
set_option linter.unusedVariables false
attribute [local go_sem] run_bits run_frombits run_store_float eqF
theorem Only.keep {g : Nat} {w w' : World} (h : Only g w w') {p : Addr} (hp : p.block ≠ g) {v : Value} (hc : w.cell? p = some v) : w'.cell? p = some v := by
  have := h.block p.block hp
  unfold World.cell? at hc ⊢
  rw [this]; exact hc
theorem Only.up {g : Nat} {a w w' : World} (u : Up a w) (h : Only g w w') (hg : a.heap.size ≤ g) : Up a w' := ⟨h.os.trans u.os, h.tape.trans u.tape, h.output.trans u.output, by rw [h.size]; exact u.size, fun k hk => (h.block k (by omega)).trans (u.block k hk)⟩
theorem Up.frozen {w w' : World} (u : Up w w') {p : Addr} (hp : p.block < w.heap.size) : w'.frozen? p = w.frozen? p := by
  unfold World.frozen?
  rw [u.block p.block hp]
theorem run_append0 {P : Program} {w : World} (t ty e : TypeId) (i : TypeInfo) (ht : P.underlying t = some (.slice e)) (hi : P.info? e = some i) (g : Addr) (q : Option Addr) (c : Nat) :
    (Builtin.append_ #[t, t] ty #[.slice (some g) 0 0, .slice q 0 c]).run P w = .ok (.slice (some g) 0 0) w := by
  cases q <;> simp [Builtin.append_, run_underlying ht, sizeOf, typeInfo, hi, Builtin.lenOf, Builtin.firstCells, storeCells, loadCells, loadCellsFrom, Result.andThen]
theorem wp_appF0 {ops : Array Oper} {rest : List Oper} {o : Oper} {a : Act} {Q : Exit → Act → World → Prop} {w : World} (hgd : o.guard = none) (s x : Operand)
    (ho : o.op = .call { callee := .builtin .append, args := #[s, x], argTypes := #[22, 22] }) (g : Addr) (q : Option Addr) (c : Nat)
    (hs : a.eval s = .slice (some g) 0 0) (hx : a.eval x = .slice q 0 c) (h : wpList Try.prog ops Q rest (a.put o.dst (.slice (some g) 0 0)) w) : wpList Try.prog ops Q (o :: rest) a w := by
  obtain ⟨i0, hi, hz0, hz1, hz2⟩ := info_parts infoFloat
  refine wpList_plain hgd fun K hK => ?_
  have hrun := run_append0 (P := Try.prog) (w := w) 22 o.type 24 i0 Try.underlying22 hi g q c
  unfold Oper.wp
  simp [execOp, ho, resolve, invoke, builtin, hs, hx, hrun, Result.andThen]
  exact hK _ _ h
def x1 : Nat → Nat := fun i => if i = 1 then 4607182418800017408 else 4611686018427387904
theorem x1_sort : Fl.sortL x1 3 = [4607182418800017408, 4611686018427387904] := by decide +kernel
theorem x1_W (i : Nat) : Fl.W (x1 i) := by unfold x1; split <;> (unfold Fl.W; decide)
theorem sort_one (w : World) (g : Nat) (hg : w.heap.size = g) :
    Calls Try.prog 4 #[.slice (some ⟨g, 0, none⟩) 3 3] (w.alloc (.cells #[.float .f64 4611686018427387904, .float .f64 4607182418800017408, .float .f64 4611686018427387904] 24)) fun e w' => ∃ h c2, e = .returned (.slice (some ⟨h, 0, none⟩) 2 c2) ∧ w'.cell? ⟨h, 0, none⟩ = some (.float .f64 4607182418800017408) ∧ Up w w' := by
  subst hg
  refine (floSort_some w.heap.size 0 3 3 x1 (by omega) (by omega) _ (fun i hi => ⟨x1_W i, ?_⟩)).mono ?_
  · rw [Nat.zero_add]
    refine cell_new _ _ _ _ i _ ?_
    match i, hi with
    | 0, _ => rfl
    | 1, _ => rfl
    | 2, _ => rfl
  · rintro e w' ⟨h, c2, rfl, hb, hc, hu⟩
    rw [x1_sort] at hc ⊢
    exact ⟨h, c2, rfl, (hc 0 (by simp)).1, Up.trans ((Up.refl w).alloc _) hu⟩
theorem sameKeys_own (g c2 : Nat) (L : List Nat) (hm : L.length ≤ maxLen) (v : Value) (base : Nat) (w : World) (hc : ∀ i, i < L.length → w.cell? ⟨g, i, none⟩ = L[i]?.map (Value.float .f64)) (ho : OwnF base w v L) :
    Calls Try.prog 5 #[.slice (some ⟨g, 0, none⟩) L.length c2, v] w fun e w' => e = .returned (.bool true) ∧ Up w w' := by
  by_cases hz : 0 < L.length
  · obtain ⟨g2, c3, rfl, _, _, hcell⟩ := OwnF.shape ho hz
    refine sameKeys_eq g 0 c2 g2 0 c3 L.length (fun i => L.toArray[i]!) hm w (fun i hi => ?_) (fun i hi => ?_)
    · rw [Nat.zero_add, hc i hi]; simp [hi]
    · rw [Nat.zero_add, hcell i hi]; simp [hi]
  · obtain ⟨a, c, rfl⟩ := OwnF.len ho
    have e : L.length = 0 := by omega
    rw [e]
    exact (sameKeys_none _ _ _ _ w).mono (fun e w' h => ⟨h.1, h.2 ▸ Up.refl w⟩)
set_option maxHeartbeats 2000000 in
theorem sortLaw_none (a : Option Addr) (c : Nat) (w : World) :
    Calls Try.prog 3 #[.slice a 0 c] w fun e w' => e = .returned (.bool true) ∧ Up w w' := by
  have o1 : FloatKind.f64.format.order 4607182418800017408 4607182418800017408 = some .eq := by decide +kernel
  go_enter Try.func3, Try.ntmps3
  go_upto_region 2 with (go_at_call 4; refine (sort_one _ _ (by simp)).mono ?_; rintro e w1 ⟨h1, c1, rfl, hc1, hu1⟩; have U1 := hid hu1; clear hu1)
  go_wp2_with (first | (at_builtin; refine wp_appF0 rfl (.tmp 18) (.tmp 19) rfl _ a c rfl rfl ?_) | (go_at_call 4; refine (floSort_none _ _ _).mono ?_; rintro e w3 ⟨⟨g3, c3, rfl⟩, hu3⟩; have U3 := hid (Up.trans (U1.out.alloc _) hu3); clear hu3) | (go_at_call 6; refine (refSort_none _ _ _).mono ?_; rintro e w4 ⟨⟨g4, c4, rfl⟩, hu4⟩; have U4 := hid (Up.trans U3.out hu4); clear hu4) | (go_at_call 5; refine (sameKeys_none _ _ _ _ _).mono ?_; rintro e w5 ⟨rfl, hw⟩; have hw2 := hw.symm; subst hw2))
  refine wp_loop_rounds 1 ?_
  rw [rounds_succ]
  go_wp2_with (go_at_call 5; refine (sameKeys_none _ _ _ _ _).mono ?_; rintro e w5 ⟨rfl, hw⟩; have hw2 := hw.symm; subst hw2)
  go_ret
  exact ⟨rfl, U4.out⟩
set_option maxHeartbeats 4000000 in
theorem sortLaw_some (b off n cap : Nat) (x : Nat → Nat) (w : World) (hn : 0 < n) (hm : n ≤ 17592186044000) (hc : ∀ i, i < n → Fl.W (x i) ∧ w.cell? ⟨b, off + i, none⟩ = some (.float .f64 (x i))) :
    Calls Try.prog 3 #[.slice (some ⟨b, off, none⟩) n cap] w fun e w' => e = .returned (.bool true) ∧ Up w w' := by
  have o1 : FloatKind.f64.format.order 4607182418800017408 4607182418800017408 = some .eq := by decide +kernel
  have HX := hid hc
  have hbl : b < w.heap.size := World.block_lt_of_cell? w ⟨b, off + 0, none⟩ (hc 0 hn).2
  clear hc
  go_enter Try.func3, Try.ntmps3
  go_upto_region 2 with (go_at_call 4; refine (sort_one _ _ (by simp)).mono ?_; rintro e w1 ⟨h1, c1, rfl, hc1, hu1⟩; have U1 := hid hu1; clear hu1)
  go_upto_region 5 with (at_builtin; refine wp_appFs rfl (.tmp 18) (.tmp 19) rfl w.heap.size _ b off n cap x rfl rfl (OwnF.empty U1.out.size (by simp)) (fun i hi => ((U1.out.alloc _).keep (HX.out i hi).2)) hm (by have := U1.out.size; simp; omega) ?_; intro v2 w2 o2 u2; have O2 := hid o2; have U2 := hid (below_up' U1.out ((Up.refl _).alloc _) u2); clear o2 u2)
  obtain ⟨g2, c2, rfl, hb2, hg2, hcell2⟩ := OwnF.shape O2.out (by simp; exact hn)
  have HC2 : Hid (∀ i, i < n → w2.cell? ⟨g2, i, none⟩ = some (.float .f64 (x i))) := hid (fun i hi => by rw [hcell2 i (by simp; exact hi)]; simp)
  have el : ((List.range n).map x).length = n := by simp
  rw [el]
  clear hcell2 O2 el hc1
  have HL := hid (Fl.sortL_len x n)
  have HF := hid (floSort_some b off n cap x hm hn w2 (fun i hi => ⟨(HX.out i hi).1, U2.out.keep (HX.out i hi).2⟩))
  have HR := hid (fun (W : World) (hW : Up w W) => sort_any b off n cap x hm W (fun i hi => ⟨(HX.out i hi).1, hW.keep (HX.out i hi).2⟩))
  generalize Fl.sortL x n = L at *
  go_upto_region 9 with (first | (go_at_call 4; refine HF.out.mono ?_; rintro e w3 ⟨g, c3, rfl, hb3, hc3, hu3⟩; have HC3 := hid hc3; have U3 := hid (Up.trans U2.out hu3); have V3 := hid hu3; clear hc3 hu3) | (go_at_call 6; refine (HR.out _ U3.out).mono ?_; rintro e w4 ⟨v4, rfl, o4, u4⟩; have O4 := hid o4; have U4 := hid u4; clear o4 u4) | (go_at_call 5; refine (sameKeys_own g c3 L (by have := HL.out; unfold maxLen; omega) v4 _ w4 (fun i hi => by rw [List.getElem?_eq_getElem hi]; exact U4.out.keep (by rw [(HC3.out i hi).1, List.getElem?_eq_getElem hi]; rfl)) O4.out).mono ?_; rintro e w5 ⟨rfl, hu5⟩; have U5 := hid hu5; clear hu5))
  have V5 := hid (Up.trans V3.out (Up.trans U4.out U5.out))
  have W5 := hid (Up.trans U3.out (Up.trans U4.out U5.out))
  have hR5 : RowW w5 g L.length (fun i => L.toArray[i]!) := fun i hi => by
    obtain ⟨q1, q2⟩ := HC3.out i hi
    rw [List.getElem?_eq_getElem hi] at q1
    have hgl := World.block_lt_of_cell? w3 ⟨g, i, none⟩ q1
    refine ⟨?_, ?_⟩
    · rw [(Up.trans U4.out U5.out).keep q1]; simp [hi]
    · rw [Up.frozen (Up.trans U4.out U5.out) hgl]; exact q2
  have R5 := hid hR5
  have HLL := hid (show L.length ≤ 17592186044000 by have := HL.out; omega)
  clear hR5 HC3 O4 HF HR
  go_loopw [30] (fun i wr => ∃ (k : Nat) (y : Nat → Nat), k ≤ L.length ∧ i = .int .i64 (k : Nat) ∧ RowW wr g L.length y ∧ Only g w5 wr) (fun i _ => L.length - (intOf i).toNat)
  case atStart => exact ⟨0, _, Nat.zero_le _, rfl, R5.out, Only.refl _ _⟩
  case round =>
    obtain ⟨k, y, hk, rfl, hr, hu⟩ := hrel
    have HO := hid hu
    have HW := hid hr
    clear hu
    by_cases hlt : k < L.length
    · obtain ⟨d1, d2⟩ := hr k hlt
      have l1 : (0 : Int) ≤ (k : Int) := by omega
      have l2 : (k : Int) < (L.length : Int) := by omega
      clear hr R5 HX
      generalize L.length = m at *
      have hq := HLL.out
      go_wp2
      exact ⟨⟨k + 1, _, hlt, by go_num, HW.out.set k 4619567317775286272 hlt, HO.out.set k _⟩, by simp [intOf]; omega⟩
    · obtain rfl : L.length = k := by omega
      have hne : g2 ≠ g := by omega
      have hne2 : b ≠ g := by have := U2.out.size; omega
      have HS := hid (sameKeys_eq b off cap g2 0 c2 n x (by unfold maxLen; omega) wr (fun i hi => HO.out.keep hne2 (W5.out.keep (HX.out i hi).2)) (fun i hi => by rw [Nat.zero_add]; exact HO.out.keep hne (V5.out.keep (HC2.out i hi))))
      clear hr HX HC2 R5
      go_wp2_with (go_at_call 5; refine HS.out.mono ?_; rintro e w6 ⟨rfl, hu6⟩; have U6 := hid hu6; clear hu6)
      go_ret
      exact ⟨rfl, Up.trans (Only.up W5.out HO.out (by have := U2.out.size; omega)) U6.out⟩
end Go.Proofs.Ytmpjmhlokiffoaa
