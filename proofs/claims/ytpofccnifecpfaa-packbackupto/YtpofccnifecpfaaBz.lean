/- The walk of PackBack; conditions: at most 1048576 values. -/
import Derived.Test.YtpofccnifecpfaaBk
namespace Go.Proofs.Ytpofccnifecpfaa
open Go.RowKit
set_option linter.unusedVariables false
attribute [local go_sem] run_bits run_frombits run_store_float
theorem infoInt : (Try.prog.info? 3).map (fun i => (i.zero, i.size, i.bytes)) = some (some (.int .i64 0), 1, 8) := by kernel_rfl
def kl (n : Nat) (ks : Nat → Int) : List Value := (List.range n).map fun i => Value.int .i64 (ks i)
theorem kl_len (n : Nat) (ks : Nat → Int) : (kl n ks).length = n := by simp [kl]
theorem kl_get (n : Nat) (ks : Nat → Int) (i : Nat) (h : i < n) : (kl n ks)[i]? = some (.int .i64 (ks i)) := by simp [kl, h]
theorem kl_succ (n : Nat) (ks : Nat → Int) : kl (n + 1) ks = kl n ks ++ [.int .i64 (ks n)] := by simp [kl, List.range_succ]
/-- The slice value v owns n kinds among the call's own blocks. -/
def OwnK (base : Nat) (w : World) (v : Value) (n : Nat) (ks : Nat → Int) : Prop := w.ownsRow base 3 1 v n (kl n ks)
theorem OwnK.empty {base g : Nat} {w : World} {ks : Nat → Int} (hb : base ≤ w.heap.size) (hg : w.heap.size = g) : OwnK base (w.alloc (.cells #[] 3)) (.slice (some ⟨g, 0, none⟩) 0 0) 0 ks := by
  subst hg
  exact World.ownsRow_made w #[] 0 hb (by unfold maxLen; omega) rfl
theorem OwnK.up {base : Nat} {w w' : World} {v : Value} {n : Nat} {ks : Nat → Int} (h : OwnK base w v n ks) (u : Up w w') : OwnK base w' v n ks := by
  refine ⟨h.1, ?_⟩
  rcases h.2 with e | ⟨g, cap, cur, e, hb', hg, r⟩
  · exact .inl e
  · exact .inr ⟨g, cap, cur, e, hb', by rw [u.block g (lt_of_block hg)]; exact hg, r⟩
theorem OwnK.row {base : Nat} {w : World} {v : Value} {n : Nat} {ks : Nat → Int} (h : OwnK base w v n ks) : KRow w v n ks := by
  have h2 := h
  rcases h2.2 with ⟨hv, hn⟩ | ⟨g, cap, cur, hv, hb, hg, hnc, hcm, hcs, htk⟩
  · subst hn; exact ⟨none, 0, hv, fun i hi => by omega⟩
  · refine ⟨_, _, hv, fun i hi => ⟨g, 0, rfl, ?_⟩⟩
    subst hv
    rw [Nat.zero_add, World.ownsRow.cellAt h i (by omega), kl_get _ _ _ hi]
/-- 'append(s, k)' of a kind, s the call's own. -/
theorem wp_appK {ops : Array Oper} {rest : List Oper} {o : Oper} {a : Act} {Q : Exit → Act → World → Prop} {w : World} (hgd : o.guard = none) (s x : Operand)
    (ho : o.op = .call { callee := .builtin .append, args := #[s, x], argTypes := #[23, 23] }) (base : Nat) (v : Value) (n : Nat) (ks : Nat → Int) (g : Nat)
    (hs : a.eval s = v) (hx : a.eval x = .slice (some ⟨g, 0, none⟩) 1 1) (hown : OwnK base w v n ks) (hc : w.cell? ⟨g, 0, none⟩ = some (.int .i64 (ks n))) (hb : n < 4194304) (hbase : base ≤ w.heap.size)
    (h : ∀ v' w', OwnK base w' v' (n + 1) ks → Below base w w' → wpList Try.prog ops Q rest (a.put o.dst v') w') : wpList Try.prog ops Q (o :: rest) a w := by
  obtain ⟨i0, hi, hz0, hz1, hz2⟩ := info_parts infoInt
  refine wpList_append_own w hgd s x 23 ho base 3 i0 _ 1 8 Try.underlying23 hi hz0 hz1 hz2 rfl (by decide) v n (kl n ks) hs hown ⟨g, 0, none⟩ 1 1 [.int .i64 (ks n)] hx rfl (fun j u hj => ?_) (by simp [Value.oneCell']) (by unfold maxLen; omega) (by omega) hbase ?_
  · match j, hj with
    | 0, hj => simp at hj; subst hj; rw [Go.WideShapes.add_plain]; exact hc
    | j + 1, hj => simp at hj
  · intro v' w' h1 h2 h3
    refine h v' w' (by unfold OwnK; rw [kl_succ]; exact h1) (Below.grown (Below.refl _ _) h2 hbase (fun k hk => (World.ownsRow.lt hown k hk).1))
set_option maxHeartbeats 4000000 in
theorem back_bad (a : Option Addr) (m c : Nat) (f : Nat → PV) (y : Int) (w : World) (b0 : m ≤ 1048576) (hc : SVs w a m f) (E : Nat) (hE : firstE f m = E) (hz : E ≠ 0) :
    Calls Try.prog 4 #[.slice a m c, .int .u8 y] w fun e w' => e = .returned (.bool true) ∧ Up w w' := by
  have HP := hid (fun (W : World) (hW : Up w W) => put_row a m c f (by omega) W (fun i hi => by obtain ⟨b, off, q1, q2, q3⟩ := hc i hi; exact ⟨b, off, q1, q2.up hW, q3.up hW⟩))
  rw [hE] at HP
  have HZ := hid hz
  have hEb : ((E : Int) != 0) = true := by simp; omega
  clear hc hE hz
  go_enter Try.func4, Try.ntmps4
  go_wp2_with (first | (go_at_call 7; refine (putting_any _).mono ?_; rintro e w1 ⟨rfl, u1⟩; have U1 := hid u1; clear u1) | (go_at_call 8; refine (getting_any _).mono ?_; rintro e w2 ⟨rfl, u2⟩; have U2 := hid (Up.trans U1.out u2); clear u2) | (go_at_call 10; refine (HP.out _ U2.out).mono ?_; rintro e w3 ⟨v3, L3, rfl, o3, p3, q3, u3⟩; have hs : ∃ va vc, v3 = .slice va 0 vc := (by have e0 := q3 HZ.out; subst e0; obtain ⟨va, vc, e1, _⟩ := OwnB.len o3; exact ⟨va, vc, e1⟩); obtain ⟨va, vc, rfl⟩ := hs; have U3 := hid (Up.trans U2.out u3); clear o3 p3 q3 u3))
  go_ret
  exact ⟨rfl, U3.out⟩
/-- What Get answers at the values' own bytes, at one more, at one less. -/
theorem get_back (f : Nat → PV) (m : Nat) (hf : ∀ i, i < m → (-9223372036854775808 ≤ (f i).n ∧ (f i).n ≤ 9223372036854775807) ∧ (f i).x < 18446744073709551616) (he : firstE f m = 0) {W W' : World} {e : Ending}
    (h : GetOut W (putL encV f m).length m (gd (putL encV f m)) (fun i => (f i).k) e W') :
    ∃ v g, e = .returned (.tuple #[v, .int .i64 0]) ∧ OwnV W.heap.size W' v m g ∧ ∀ j, j < m → PV.In W' (g j) ∧ SameP (g j) (f j) := by
  obtain ⟨h1, h2⟩ := rows_read f m hf he m (Nat.le_refl _)
  rcases h with ⟨⟨i, hi, hu⟩, _⟩ | ⟨_, _, _, v, g, e1, e2, e3⟩ | ⟨_, hh, _⟩
  · have := (h2 i hi).1
    simp only at hu; omega
  · exact ⟨v, g, e1, e2, fun j hj => ⟨(e3 j hj).2.1, (h2 j hj).2.2 _ (e3 j hj).1⟩⟩
  · rcases hh with ⟨i, hi, hu⟩ | hu
    · exact absurd hu (h2 i hi).2.1
    · omega
theorem get_more (f : Nat → PV) (m : Nat) (hf : ∀ i, i < m → (-9223372036854775808 ≤ (f i).n ∧ (f i).n ≤ 9223372036854775807) ∧ (f i).x < 18446744073709551616) (he : firstE f m = 0) (y : Nat → Nat) (hy : ∀ i, i < (putL encV f m).length → gd (putL encV f m) i = y i) {W W' : World} {e : Ending}
    (h : GetOut W ((putL encV f m).length + 1) m y (fun i => (f i).k) e W') : ∃ a c, e = .returned (.tuple #[.slice a 0 c, .int .i64 30]) := by
  obtain ⟨h1, h2⟩ := rows_read f m hf he m (Nat.le_refl _)
  have h3 := pos_more (fun i => (f i).k) (gd (putL encV f m)) y (putL encV f m).length ((putL encV f m).length + 1) m (by omega) hy (fun i hi => (h2 i hi).2.1) m (Nat.le_refl _)
  rcases h with ⟨⟨i, hi, hu⟩, _⟩ | ⟨_, _, hp, _⟩ | ⟨_, _, e1⟩
  · have := (h2 i hi).1
    simp only at hu; omega
  · omega
  · exact ⟨_, _, e1⟩
theorem get_less (f : Nat → PV) (m : Nat) (hf : ∀ i, i < m → (-9223372036854775808 ≤ (f i).n ∧ (f i).n ≤ 9223372036854775807) ∧ (f i).x < 18446744073709551616) (he : firstE f m = 0) (n : Nat) (hn : (putL encV f m).length = n + 1) {W W' : World} {e : Ending}
    (h : GetOut W n m (gd (putL encV f m)) (fun i => (f i).k) e W') : ∃ a c, e = .returned (.tuple #[.slice a 0 c, .int .i64 30]) := by
  obtain ⟨h1, h2⟩ := rows_read f m hf he m (Nat.le_refl _)
  rcases h with ⟨⟨i, hi, hu⟩, _⟩ | ⟨_, hz, hp, _⟩ | ⟨_, _, e1⟩
  · have := (h2 i hi).1
    simp only at hu; omega
  · have h3 := pos_more (fun i => (f i).k) (gd (putL encV f m)) (gd (putL encV f m)) n (putL encV f m).length m (by omega) (fun _ _ => rfl) hz m (Nat.le_refl _)
    omega
  · exact ⟨_, _, e1⟩
set_option maxHeartbeats 4000000 in
theorem back_good (a : Option Addr) (m c : Nat) (f : Nat → PV) (yn : Nat) (hyn : yn < 256) (w : World) (b0 : m ≤ 1048576) (hc : SVs w a m f) (hE : firstE f m = 0) :
    Calls Try.prog 4 #[.slice a m c, .int .u8 (yn : Int)] w fun e w' => e = .returned (.bool true) ∧ Up w w' := by
  have HP := hid (fun (W : World) (hW : Up w W) => (put_row a m c f (by omega) W (fun i hi => by obtain ⟨b, off, q1, q2, q3⟩ := hc i hi; exact ⟨b, off, q1, q2.up hW, q3.up hW⟩)).mono (fun e w' h => show ∃ va vc, e = .returned (.tuple #[.slice va (putL encV f m).length vc, .int .i64 0]) ∧ ByRow w' (.slice va (putL encV f m).length vc) (putL encV f m).length (gd (putL encV f m)) ∧ Up W w' by
    obtain ⟨v', L', e1, e2, e3, _, e5⟩ := h
    have e6 := e3 hE
    subst e6
    obtain ⟨va, vc, rfl⟩ := (OwnB.row e2).slice
    exact ⟨va, vc, by rw [e1, hE]; rfl, OwnB.row e2, e5⟩))
  have hf : ∀ i, i < m → (-9223372036854775808 ≤ (f i).n ∧ (f i).n ≤ 9223372036854775807) ∧ (f i).x < 18446744073709551616 := fun i hi => by obtain ⟨b, off, q1, q2, q3⟩ := hc i hi; exact ⟨q3.nin, q3.xin⟩
  have HB := hid (fun (W W' : World) (e : Ending) h => get_back f m hf hE (W := W) (W' := W') (e := e) h)
  have HM := hid (fun y hy (W W' : World) (e : Ending) h => get_more f m hf hE y hy (W := W) (W' := W') (e := e) h)
  have HL := hid (fun n hn (W W' : World) (e : Ending) h => get_less f m hf hE n hn (W := W) (W' := W') (e := e) h)
  have hlen := putL_len f m (fun i hi => (hf i hi).1) m (Nat.le_refl _) hE
  have HC := hid hc
  have HO := hid (fun (W : World) (hW : Up w W) => of_any a m c f b0 W (fun i hi => by obtain ⟨b, off, q1, q2, q3⟩ := hc i hi; exact ⟨b, off, q1, q2.up hW, q3.up hW⟩))
  clear hc hE hf
  generalize gd (putL encV f m) = X at *
  generalize (putL encV f m).length = N at *
  go_enter Try.func4, Try.ntmps4
  go_wp2_with (first | (go_at_call 7; refine (putting_any _).mono ?_; rintro e w1 ⟨rfl, u1⟩; have U1 := hid u1; clear u1) | (go_at_call 8; refine (getting_any _).mono ?_; rintro e w2 ⟨rfl, u2⟩; have U2 := hid (Up.trans U1.out u2); clear u2) | (go_at_call 10; refine (HP.out _ U2.out).mono ?_; rintro e w3 ⟨sa, sc, rfl, o3, u3⟩; have O3 := hid o3; have U3 := hid (Up.trans U2.out u3); clear o3 u3))
  go_loopw [7, 35] (fun o i wr => ∃ k : Nat, k ≤ m ∧ i = .int .i64 (k : Nat) ∧ OwnK w3.heap.size wr o k (fun i => (f i).k) ∧ Up w3 wr) (fun _ i _ => m - (intOf i).toNat)
  case atStart => exact ⟨0, Nat.zero_le _, rfl, OwnK.empty (Nat.le_refl _) rfl, (Up.refl w3).alloc _⟩
  case round =>
    obtain ⟨k, hk, rfl, ho, hu⟩ := hrel
    by_cases hlt : k < m
    · obtain ⟨b, off, rfl, hat, hin⟩ := HC.out k hlt
      obtain ⟨x0, x1, x2, x3, x4⟩ := (hat.up U3.out).up hu
      obtain ⟨pa, pc, hpb⟩ := PV.slice hin
      rw [hpb] at x3
      have HCell := hid (fun (W : World) (hW : W.heap.size = wr.heap.size + 1) => show (W.alloc (.cells #[.int .i64 (f k).k] 3)).cell? ⟨wr.heap.size + 1, 0, none⟩ = some (.int .i64 (f k).k) by rw [← hW]; exact cell_new _ _ _ _ 0 _ rfl)
      have HOk := hid ho
      clear ho hat hin hpb HC HB HM HL HO HP
      go_wp2_with (at_builtin; refine wp_appK rfl (.tmp 39) (.tmp 42) rfl w3.heap.size _ k (fun i => (f i).k) (wr.heap.size + 1) rfl rfl ((HOk.out.up ((Up.refl wr).alloc _)).up ((Up.refl _).alloc _)) (HCell.out _ (by simp)) (by omega) (by have := hu.size; simp; omega) ?_; intro v' w5 hown hbel)
      go_roundw
      case rel => exact ⟨k + 1, hlt, by go_num, hown, Below.trans (Up.alloc (hu.alloc _) _) hbel⟩
      case measure => simp [intOf]; omega
    · obtain rfl : m = k := by omega
      have HOk := hid ho.row
      clear ho HP
      obtain ⟨ka, kc, rfl, hka⟩ := HOk.out
      have HK := hid hka
      have G1 := hid (get_any sa N sc m kc ka X (fun i => (f i).k) wr (O3.out.up hu) hka (by omega))
      clear hka HOk
      go_wp2_with (fail)
      refine G1.out.mono ?_
      rintro e w6 ⟨hg6, u6⟩
      obtain ⟨v6, g6, rfl, o6, q6⟩ := HB.out _ _ _ hg6
      obtain ⟨va, vc, rfl, s6⟩ := o6.shape
      have S6 : Hid (SVs w6 va m g6) := fun i hi => by obtain ⟨b, off, e1, e2⟩ := s6 i hi; exact ⟨b, off, e1, e2, (q6 i hi).1⟩
      have Q6 := hid (fun i hi => (q6 i hi).2)
      have U6 := hid (Up.trans hu u6)
      have O6 := hid ((O3.out.up hu).up u6)
      have K6 := hid (HK.out.up u6)
      clear hg6 o6 s6 q6 G1 HB HK
      have E6 : Hid (OwnB w6.heap.size (w6.alloc (.cells #[] 5)) (.slice (some ⟨w6.heap.size, 0, none⟩) 0 0) 0 (gd [])) := OwnB.empty (Nat.le_refl _) rfl
      have R6 := hid (O6.out.up ((Up.refl w6).alloc (.cells #[] 5)))
      have HR1 := hid (fun (W : World) => row1L W (yn : Int) yn rfl hyn)
      have hl9 : N ≤ 4305453056 := by omega
      clear hlen
      go_wp2_with (first | (at_builtin; refine wp_app rfl (.tmp 52) (.tmp 53) rfl w6.heap.size _ _ 0 N (gd []) X rfl rfl E6.out R6.out (by omega) (by simp) ?_; intro v8 w8 o8 g8 b8; have O8 := hid o8; have U8 := hid (show Up w6 w8 from Below.trans ((Up.refl w6).alloc _) b8); clear o8 g8 b8) | (at_builtin; refine wp_app rfl (.tmp 54) (.tmp 56) rfl w6.heap.size _ _ (0 + N) [yn].length (cat 0 (gd []) X) (gd [yn]) rfl rfl (O8.out.alloc _) (HR1.out _) (by simp; omega) (by have := U8.out.size; simp; omega) ?_; intro v9 w9 o9 g9 b9; have O9 := hid o9.row; have U9 := hid (show Up w6 w9 from Below.trans (U8.out.alloc _) b9); clear o9 g9 b9))
      obtain ⟨ta, tc, rfl⟩ := O9.out.slice
      have O9' := hid O9.out
      rw [show 0 + N + [yn].length = N + 1 by simp] at O9'
      have G2 := hid (get_any ta (N + 1) tc m kc ka (cat (0 + N) (cat 0 (gd []) X) (gd [yn])) (fun i => (f i).k) w9 O9'.out (K6.out.up U9.out) (by omega))
      have H2 := hid (HM.out (cat (0 + N) (cat 0 (gd []) X) (gd [yn])) (fun i hi => by unfold cat; rw [if_pos (by omega)]; simp) w9)
      simp only [show 0 + N + [yn].length = N + 1 by simp]
      clear HM O9 O9' E6 R6 HR1 O8 U8
      refine G2.out.mono ?_
      rintro e w10 ⟨hg10, u10⟩
      obtain ⟨xa, xc, rfl⟩ := H2.out _ _ hg10
      have U10 := hid (Up.trans U9.out u10)
      clear hg10 u10 G2 H2 U9
      have F1 := hid (of_any va m vc g6 b0 w10 (fun i hi => by obtain ⟨b, off, q1, q2, q3⟩ := S6.out i hi; exact ⟨b, off, q1, q2.up U10.out, q3.up U10.out⟩))
      have O10 := hid (O6.out.up U10.out)
      have K10 := hid (K6.out.up U10.out)
      have UW := hid (Up.trans U3.out (Up.trans U6.out U10.out))
      clear O6 K6 O3 U6 hu
      have HSame := hid (fun (W : World) (hW : Up w10 W) (a1 a2 : Option Addr) (c1 c2 : Nat) (h1 : ∀ i, i < m → ∃ b off, a1 = some ⟨b, off, none⟩ ∧ PV.At W b (off + i * 5) (g6 i)) (h2 : ∀ i, i < m → ∃ b off, a2 = some ⟨b, off, none⟩ ∧ PV.At W b (off + i * 5) (f i)) => sameRows a1 a2 m c1 c2 g6 f b0 W (fun i hi => by obtain ⟨b, off, q1, q2⟩ := h1 i hi; obtain ⟨_, _, _, _, q3⟩ := S6.out i hi; exact ⟨b, off, q1, q2, (q3.up U10.out).up hW⟩) (fun i hi => by obtain ⟨b, off, q1, q2⟩ := h2 i hi; obtain ⟨_, _, _, _, q3⟩ := HC.out i hi; exact ⟨b, off, q1, q2, (q3.up UW.out).up hW⟩) Q6.out)
      clear S6 Q6 HC
      cases N with
      | zero =>
        clear HL
        go_wp2_with (first | (go_at_call_of 13 (Value.slice va m vc); refine F1.out.mono ?_; rintro e w11 ⟨v11, rfl, o11, u11⟩; have U11 := hid u11; have H11 := hid o11; clear u11 o11) | (go_at_call_of 13 (Value.slice a m c); refine (HO.out _ (Up.trans UW.out U11.out)).mono ?_; rintro e w12 ⟨v12, rfl, o12, u12⟩; have U12 := hid (Up.trans U11.out u12); have H12 := hid (OwnR.up H11.out u12); obtain ⟨a12, c12, rfl, s12⟩ := o12.shape; obtain ⟨a11, c11, rfl, s11⟩ := H12.out.shape; have HS := hid (HSame.out w12 U12.out a11 a12 c11 c12 s11 s12); clear u12 o12 s11 s12) | (go_at_call 12; refine HS.out.mono ?_; rintro e w13 ⟨rfl, u13⟩; have U13 := hid (Up.trans U12.out u13); clear u13))
        go_ret
        exact ⟨rfl, Up.trans UW.out U13.out⟩
      | succ n =>
        have R13 := hid (fun (W : World) (hW : Up w10 W) => show Calls Try.prog 9 #[.slice sa n sc, .slice ka m kc] W fun e w' => GetOut W n m X (fun i => (f i).k) e w' ∧ Up W w' by
          have h := O10.out.up hW
          obtain ⟨b, off, cap, e, hc, hcp, hmx⟩ := h.cells (by omega)
          cases e
          have r : ByRow W (.slice (some ⟨b, off, none⟩) n sc) n X := by
            by_cases hz : n = 0
            · subst hz; exact .inl ⟨rfl, _, _, rfl, fun h => by cases h⟩
            · exact .inr ⟨by omega, by have := h.max; omega, b, off, sc, rfl, fun i hi => hc i (by omega), by omega, hmx⟩
          exact get_any _ n sc m kc ka X (fun i => (f i).k) W r (K10.out.up hW) (by omega))
        have hmx : n + 1 ≤ sc ∧ sc ≤ 9223372036854775807 := by
          obtain ⟨b, off, cap, e, hc, hcp, hmx⟩ := O10.out.cells (by omega)
          cases e
          unfold maxLen at hmx
          exact ⟨hcp, hmx⟩
        obtain ⟨hm1, hm2⟩ := hmx
        go_wp2_with (first | (go_at_call_of 13 (Value.slice va m vc); refine F1.out.mono ?_; rintro e w11 ⟨v11, rfl, o11, u11⟩; have U11 := hid u11; have H11 := hid o11; clear u11 o11) | (go_at_call_of 13 (Value.slice a m c); refine (HO.out _ (Up.trans UW.out U11.out)).mono ?_; rintro e w12 ⟨v12, rfl, o12, u12⟩; have U12 := hid (Up.trans U11.out u12); have H12 := hid (OwnR.up H11.out u12); obtain ⟨a12, c12, rfl, s12⟩ := o12.shape; obtain ⟨a11, c11, rfl, s11⟩ := H12.out.shape; have HS := hid (HSame.out w12 U12.out a11 a12 c11 c12 s11 s12); clear u12 o12 s11 s12) | (go_at_call 12; refine HS.out.mono ?_; rintro e w13 ⟨rfl, u13⟩; have U13 := hid (Up.trans U12.out u13); clear u13) | (go_at_call 9; refine (R13.out _ U13.out).mono ?_; rintro e w14 ⟨hg14, u14⟩; obtain ⟨ya, yc, rfl⟩ := HL.out n rfl _ _ _ hg14; have U14 := hid (Up.trans U13.out u14); clear hg14 u14))
        go_ret
        exact ⟨rfl, Up.trans UW.out U14.out⟩
theorem back_walk (v0 : Value) (m : Nat) (f : Nat → PV) (y : Int) (w : World) (h0 : VRow w v0 m f) (b0 : m ≤ 1048576) (wy : (Lit.int .u8 y).wf = true) :
    Calls Try.prog 4 #[v0, .int .u8 y] w fun e w' => e = .returned (.bool true) ∧ Up w w' := by
  obtain ⟨a, c, rfl, hc⟩ := h0.open
  by_cases he : firstE f m = 0
  · obtain ⟨yn, rfl, hyn⟩ : ∃ yn : Nat, y = (yn : Int) ∧ yn < 256 := by
      simp [Lit.wf, IntKind.min, IntKind.max, IntKind.bits, IntKind.signed] at wy
      exact ⟨y.toNat, by omega, by omega⟩
    exact back_good a m c f yn hyn w b0 hc he
  · exact back_bad a m c f y w b0 hc _ rfl he
end Go.Proofs.Ytpofccnifecpfaa
