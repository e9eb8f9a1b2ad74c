/- PackJoins: Put of two rows of values and of both, one behind the other; conditions: at most 1048576 values each. -/
import Derived.Test.YtobdgdcccogghabVk
import Derived.Test.YtobdgdcccogghabPn
namespace Go.Proofs.Ytobdgdcccogghab
open Go.RowKit
set_option linter.unusedVariables false
attribute [local go_sem] run_bits run_frombits run_store_float
theorem VRow.up {w w' : World} {v : Value} {n : Nat} {f : Nat → PV} (h : VRow w v n f) (u : Up w w') : VRow w' v n f := by
  rcases h with h | ⟨hn, b, off, cap, hv, hc, hcp⟩
  · exact .inl h
  · exact .inr ⟨hn, b, off, cap, hv, fun i hi => ⟨(hc i hi).1.up u, (hc i hi).2.up u⟩, hcp⟩
theorem VRow.open {w : World} {v : Value} {n : Nat} {f : Nat → PV} (h : VRow w v n f) : ∃ a c, v = .slice a n c ∧ ∀ i, i < n → ∃ b off, a = some ⟨b, off, none⟩ ∧ PV.At w b (off + i * 5) (f i) ∧ PV.In w (f i) := by
  rcases h with ⟨rfl, a, c, hv, _⟩ | ⟨hn, b, off, cap, hv, hc, hcp⟩
  · exact ⟨a, c, hv, fun i hi => by omega⟩
  · exact ⟨_, _, hv, fun i hi => ⟨b, off, rfl, hc i hi⟩⟩
theorem VRow.in_ {w : World} {v : Value} {n : Nat} {f : Nat → PV} (h : VRow w v n f) (i : Nat) (hi : i < n) : PV.In w (f i) := by
  obtain ⟨a, c, _, hc⟩ := h.open
  obtain ⟨_, _, _, _, q⟩ := hc i hi
  exact q
set_option maxHeartbeats 400000 in
theorem put_good {w : World} {v : Value} {n : Nat} {f : Nat → PV} (hnc : n ≤ 4194304) (h : ∃ a c, v = .slice a n c ∧ ∀ i, i < n → ∃ b off, a = some ⟨b, off, none⟩ ∧ PV.At w b (off + i * 5) (f i) ∧ PV.In w (f i)) (he : firstE f n = 0) :
    Calls Try.prog 6 #[v] w fun e w' => ∃ v', e = .returned (.tuple #[v', .int .i64 0]) ∧ OwnL w.heap.size w' v' (putL encV f n) ∧ Up w w' := by
  obtain ⟨a, c, rfl, hc⟩ := h
  refine (put_row a n c f hnc w hc).mono ?_
  rintro e w' ⟨v', L', rfl, ho, h1, h2, hu⟩
  rw [h1 he] at ho
  exact ⟨v', by rw [he]; rfl, ho, hu⟩
set_option maxHeartbeats 400000 in
theorem put_bad {w : World} {v : Value} {n : Nat} {f : Nat → PV} (hnc : n ≤ 4194304) (h : ∃ a c, v = .slice a n c ∧ ∀ i, i < n → ∃ b off, a = some ⟨b, off, none⟩ ∧ PV.At w b (off + i * 5) (f i) ∧ PV.In w (f i)) (E : Nat) (he : firstE f n = E) (hz : E ≠ 0) :
    Calls Try.prog 6 #[v] w fun e w' => ∃ a c, e = .returned (.tuple #[.slice a 0 c, .int .i64 (E : Nat)]) ∧ Up w w' := by
  obtain ⟨a, c, rfl, hc⟩ := h
  refine (put_row a n c f hnc w hc).mono ?_
  rintro e w' ⟨v', L', rfl, ho, h1, h2, hu⟩
  rw [h2 (by rw [he]; exact hz)] at ho
  obtain ⟨ao, cap, hv, _⟩ := OwnB.len ho
  exact ⟨ao, cap, by rw [hv, he]; rfl, hu⟩
theorem OwnV.open {base : Nat} {w : World} {v : Value} {n : Nat} {f : Nat → PV} (h : OwnV base w v n f) (hin : ∀ i, i < n → PV.In w (f i)) : ∃ a c, v = .slice a n c ∧ ∀ i, i < n → ∃ b off, a = some ⟨b, off, none⟩ ∧ PV.At w b (off + i * 5) (f i) ∧ PV.In w (f i) := by
  obtain ⟨a, c, hv, hc⟩ := h.shape
  refine ⟨a, c, hv, fun i hi => ?_⟩
  obtain ⟨b, off, q1, q2⟩ := hc i hi
  exact ⟨b, off, q1, q2, hin i hi⟩
theorem in_cat {w : World} {n m : Nat} {f g : Nat → PV} (h0 : ∀ i, i < n → PV.In w (f i)) (h1 : ∀ i, i < m → PV.In w (g i)) : ∀ i, i < 0 + n + m → PV.In w (catP (0 + n) (catP 0 f f) g i) := by
  intro i hi
  unfold catP
  split
  · simp; exact h0 i (by omega)
  · exact h1 _ (by omega)
set_option maxHeartbeats 2000000 in
theorem joins_bad0 (v0 v1 : Value) (n m : Nat) (f g : Nat → PV) (w : World) (h0 : VRow w v0 n f) (h1 : VRow w v1 m g) (b0 : n ≤ 1048576) (b1 : m ≤ 1048576) (E : Nat) (he : firstE f n = E) (hz : E ≠ 0) :
    Calls Try.prog 3 #[v0, v1] w fun e w' => e = .returned (.bool true) ∧ Up w w' := by
  have HP0 := hid (fun (W : World) (hW : Up w W) => put_bad (by omega) (h0.up hW).open E he hz)
  have HP1 : Hid (∀ (W : World), Up w W → Calls Try.prog 6 #[v1] W fun e w' => ∃ v' E1, e = .returned (.tuple #[v', .int .i64 E1]) ∧ Up W w') := fun W hW => by
    by_cases hq : firstE g m = 0
    · refine (put_good (by omega) (h1.up hW).open hq).mono ?_
      rintro e w' ⟨v', rfl, _, u⟩
      exact ⟨_, _, rfl, u⟩
    · refine (put_bad (by omega) (h1.up hW).open _ rfl hq).mono ?_
      rintro e w' ⟨a, c, rfl, u⟩
      exact ⟨_, _, rfl, u⟩
  have HP3 := hid (fun (W : World) (v : Value) (hW : Up w W) (hv : OwnV w.heap.size W v (0 + n + m) (catP (0 + n) (catP 0 f f) g)) => put_bad (by omega) (hv.open (in_cat (fun i hi => ((h0.up hW).in_ i hi)) (fun i hi => (h1.up hW).in_ i hi))) E (by rw [firstE_cat2]; rw [firstE_cat2]; simp [firstE, he, hz]) hz)
  have HV0 := hid h0
  have HV1 := hid h1
  have hb0 := hid b0
  have hb1 := hid b1
  have hEb : ((E : Int) != 0) = true := by simp; omega
  have HZ := hid hz
  clear h0 h1 b0 b1 he hz
  go_enter Try.func3, Try.ntmps3
  go_wp2_with (first | (go_at_call 5; refine (putting_any _).mono ?_; rintro e w1 ⟨rfl, u1⟩; have U1 := hid u1; clear u1) | (at_builtin; refine wp_appV rfl (.tmp 24) (.tmp 25) rfl w.heap.size _ _ 0 n f f rfl rfl (OwnV.empty U3.out.size rfl) (HV0.out.up (Up.alloc U3.out _)) (by have := hb0.out; omega) (by have := U3.out.size; simp; omega) ?_; intro v4 w4 o4 u4; have O4 := hid o4; have U4 := hid (Below.trans (Up.alloc U3.out _) u4); clear o4 u4) | (at_builtin; refine wp_appV rfl (.tmp 26) (.tmp 27) rfl w.heap.size _ _ (0 + n) m (catP 0 f f) g rfl rfl O4.out (HV1.out.up U4.out) (by have := hb0.out; have := hb1.out; omega) U4.out.size ?_; intro v5 w5 o5 u5; have O5 := hid o5; have U5 := hid (Below.trans U4.out u5); clear o5 u5) | (go_at_call 6; refine (HP3.out _ _ U5.out O5.out).mono ?_; rintro e w6 ⟨a6, c6, rfl, u6⟩; have U6 := hid (Up.trans U5.out u6); clear u6) | (go_at_call 6; refine (HP1.out _ U2.out).mono ?_; rintro e w3 ⟨v3, E3, rfl, u3⟩; have U3 := hid (Up.trans U2.out u3); clear u3) | (go_at_call 6; refine (HP0.out _ U1.out).mono ?_; rintro e w2 ⟨a2, c2, rfl, u2⟩; have U2 := hid (Up.trans U1.out u2); clear u2))
  go_ret
  exact ⟨rfl, U6.out⟩
set_option maxHeartbeats 2000000 in
theorem joins_bad1 (v0 v1 : Value) (n m : Nat) (f g : Nat → PV) (w : World) (h0 : VRow w v0 n f) (h1 : VRow w v1 m g) (b0 : n ≤ 1048576) (b1 : m ≤ 1048576) (he0 : firstE f n = 0) (E : Nat) (he : firstE g m = E) (hz : E ≠ 0) :
    Calls Try.prog 3 #[v0, v1] w fun e w' => e = .returned (.bool true) ∧ Up w w' := by
  have HP0 := hid (fun (W : World) (hW : Up w W) => put_good (by omega) (h0.up hW).open he0)
  have HP1 := hid (fun (W : World) (hW : Up w W) => put_bad (by omega) (h1.up hW).open E he hz)
  have HP3 := hid (fun (W : World) (v : Value) (hW : Up w W) (hv : OwnV w.heap.size W v (0 + n + m) (catP (0 + n) (catP 0 f f) g)) => put_bad (by omega) (hv.open (in_cat (fun i hi => ((h0.up hW).in_ i hi)) (fun i hi => (h1.up hW).in_ i hi))) E (by rw [firstE_cat2]; rw [firstE_cat2]; simp [firstE, he0, he]) hz)
  have HV0 := hid h0
  have HV1 := hid h1
  have hb0 := hid b0
  have hb1 := hid b1
  have hEb : ((E : Int) != 0) = true := by simp; omega
  have HZ := hid hz
  clear h0 h1 b0 b1 he he0 hz
  generalize putL encV f n = L0 at *
  go_enter Try.func3, Try.ntmps3
  go_wp2_with (first | (go_at_call 5; refine (putting_any _).mono ?_; rintro e w1 ⟨rfl, u1⟩; have U1 := hid u1; clear u1) | (at_builtin; refine wp_appV rfl (.tmp 24) (.tmp 25) rfl w.heap.size _ _ 0 n f f rfl rfl (OwnV.empty U3.out.size rfl) (HV0.out.up (Up.alloc U3.out _)) (by have := hb0.out; omega) (by have := U3.out.size; simp; omega) ?_; intro v4 w4 o4 u4; have O4 := hid o4; have U4 := hid (Below.trans (Up.alloc U3.out _) u4); clear o4 u4) | (at_builtin; refine wp_appV rfl (.tmp 26) (.tmp 27) rfl w.heap.size _ _ (0 + n) m (catP 0 f f) g rfl rfl O4.out (HV1.out.up U4.out) (by have := hb0.out; have := hb1.out; omega) U4.out.size ?_; intro v5 w5 o5 u5; have O5 := hid o5; have U5 := hid (Below.trans U4.out u5); clear o5 u5) | (go_at_call 6; refine (HP3.out _ _ U5.out O5.out).mono ?_; rintro e w6 ⟨a6, c6, rfl, u6⟩; have U6 := hid (Up.trans U5.out u6); clear u6) | (go_at_call 6; refine (HP1.out _ U2.out).mono ?_; rintro e w3 ⟨a3, c3, rfl, u3⟩; have U3 := hid (Up.trans U2.out u3); clear u3) | (go_at_call 6; refine (HP0.out _ U1.out).mono ?_; rintro e w2 ⟨v2, rfl, o2, u2⟩; have O2 := hid o2; have U2 := hid (Up.trans U1.out u2); clear o2 u2))
  go_ret
  exact ⟨rfl, U6.out⟩
set_option maxHeartbeats 2000000 in
theorem joins_good (v0 v1 : Value) (n m : Nat) (f g : Nat → PV) (w : World) (h0 : VRow w v0 n f) (h1 : VRow w v1 m g) (b0 : n ≤ 1048576) (b1 : m ≤ 1048576) (he0 : firstE f n = 0) (he1 : firstE g m = 0) :
    Calls Try.prog 3 #[v0, v1] w fun e w' => e = .returned (.bool true) ∧ Up w w' := by
  have HP0 := hid (fun (W : World) (hW : Up w W) => put_good (by omega) (h0.up hW).open he0)
  have HP1 := hid (fun (W : World) (hW : Up w W) => put_good (by omega) (h1.up hW).open he1)
  have HP3 := hid (fun (B : Nat) (W : World) (v : Value) (hW : Up w W) (hv : OwnV B W v (0 + n + m) (catP (0 + n) (catP 0 f f) g)) => put_good (by omega) (hv.open (in_cat (fun i hi => ((h0.up hW).in_ i hi)) (fun i hi => (h1.up hW).in_ i hi))) (by rw [firstE_cat2]; rw [firstE_cat2]; simp [firstE, he0, he1]))
  have eL : putL encV (catP (0 + n) (catP 0 f f) g) (0 + n + m) = putL encV f n ++ putL encV g m := by rw [putL_cat2, putL_cat2]; simp [putL]
  rw [eL] at HP3
  clear eL
  have HL0 := hid (putL_len f n (fun i hi => (h0.in_ i hi).nin) n (Nat.le_refl _) he0)
  have HL1 := hid (putL_len g m (fun i hi => (h1.in_ i hi).nin) m (Nat.le_refl _) he1)
  have HV0 := hid h0
  have HV1 := hid h1
  have hb0 := hid b0
  have hb1 := hid b1
  clear h0 h1 b0 b1 he0 he1
  generalize putL encV f n = L0 at *
  generalize putL encV g m = L1 at *
  go_enter Try.func3, Try.ntmps3
  go_wp2_with (first | (go_at_call 5; refine (putting_any _).mono ?_; rintro e w1 ⟨rfl, u1⟩; have U1 := hid u1; clear u1) | (at_builtin; refine wp_appV rfl (.tmp 24) (.tmp 25) rfl w3.heap.size _ _ 0 n f f rfl rfl (OwnV.empty (Nat.le_refl _) rfl) (HV0.out.up (Up.alloc U3.out _)) (by have := hb0.out; omega) (by simp) ?_; intro v4 w4 o4 u4; have O4 := hid o4; have U34 := hid (Below.trans ((Up.refl w3).alloc _) u4); clear o4 u4) | (at_builtin; refine wp_appV rfl (.tmp 26) (.tmp 27) rfl w3.heap.size _ _ (0 + n) m (catP 0 f f) g rfl rfl O4.out (HV1.out.up (Up.trans U3.out U34.out)) (by have := hb0.out; have := hb1.out; omega) U34.out.size ?_; intro v5 w5 o5 u5; have O5 := hid o5; have U35 := hid (Below.trans U34.out u5); clear o5 u5) | (go_at_call 6; refine (HP3.out _ _ _ (Up.trans U3.out U35.out) O5.out).mono ?_; rintro e w6 ⟨v6, rfl, o6, u6⟩; have O6 := hid o6; have U36 := hid (Up.trans U35.out u6); clear o6 u6) | (go_at_call 6; refine (HP1.out _ U2.out).mono ?_; rintro e w3 ⟨v3, rfl, o3, u3⟩; have O3 := hid o3; have U23 := hid u3; have U3 := hid (Up.trans U2.out u3); clear o3 u3) | (go_at_call 6; refine (HP0.out _ U1.out).mono ?_; rintro e w2 ⟨v2, rfl, o2, u2⟩; have O2 := hid o2; have U2 := hid (Up.trans U1.out u2); clear o2 u2) | (at_builtin; refine wp_app_g rfl (.tmp 58) (.tmp 59) rfl w6.heap.size _ _ ([] : List Nat).length L0.length (gd []) (gd L0) rfl rfl (OwnB.empty (Nat.le_refl _) rfl) (ByRow.up (OwnB.row O2.out) (Up.alloc (Up.trans U23.out U36.out) _)) (by have := HL0.out; have := hb0.out; simp; omega) (by simp) ?_; intro v7 w7 o7 g7 u7; have O7 : Hid (OwnL w6.heap.size w7 v7 L0) := (OwnL.app (L := ([] : List Nat)) o7); have U67 := hid (Below.trans ((Up.refl w6).alloc _) u7); clear o7 g7 u7) | (at_builtin; refine wp_app_g rfl (.tmp 60) (.tmp 61) rfl w6.heap.size _ _ L0.length L1.length (gd L0) (gd L1) rfl rfl O7.out (ByRow.up (OwnB.row O3.out) (Up.trans U36.out U67.out)) (by have := HL0.out; have := hb0.out; have := HL1.out; have := hb1.out; simp; omega) U67.out.size ?_; intro v8 w8 o8 g8 u8; have O8 := hid (OwnL.app o8); have U68 := hid (Below.trans U67.out u8); clear o8 g8 u8) | (go_at_call 7; refine (sameBytes_eq _ _ _ _ _ w8 (ByRow.up (OwnB.row O6.out) U68.out) (OwnB.row O8.out) (fun _ _ => rfl)).mono ?_; rintro e w9 ⟨rfl, k9, rfl⟩))
  go_ret
  exact ⟨rfl, (Up.trans U3.out (Up.trans U36.out U68.out)).drewN _⟩
end Go.Proofs.Ytobdgdcccogghab
