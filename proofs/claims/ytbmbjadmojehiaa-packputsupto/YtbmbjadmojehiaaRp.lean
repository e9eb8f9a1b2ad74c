/- The document's Put at any row of values: the bytes, or the first wrong one's error; conditions: at most 1048576 values. -/
import Derived.Test.YtbmbjadmojehiaaOv
namespace Go.Proofs.Ytbmbjadmojehiaa
open Go.RowKit
set_option linter.unusedVariables false
attribute [local go_sem] run_bits run_frombits run_store_float
theorem own_apart {base b2 n m : Nat} {w w2 : World} {v u : Value} {X Y : Nat → Nat} (hv : OwnB base w v n X) (hu : OwnB b2 w2 u m Y) (h : w.heap.size ≤ b2) : m = 0 ∨ u.ownBlock ≠ v.ownBlock := by
  obtain ⟨a, c, rfl, h0, h1⟩ := hu.len
  cases a with
  | none => exact .inl (h0 rfl).1
  | some ad =>
    right
    obtain ⟨e1, e2, e3, e4⟩ := h1 ad rfl
    obtain ⟨a', c', rfl, g0, g1⟩ := hv.len
    cases a' with
    | none => simp [Value.ownBlock]
    | some ad' =>
      obtain ⟨q1, q2, q3, q4⟩ := g1 ad' rfl
      simp [Value.ownBlock]
      omega
theorem old_apart {n m : Nat} {w w2 : World} {v u : Value} {X Y : Nat → Nat} (hu : ByRow w u m Y) (hv : OwnB w.heap.size w2 v n X) : m = 0 ∨ u.ownBlock ≠ v.ownBlock := by
  rcases hu with ⟨h, _⟩ | ⟨hm, _, b, off, cap, rfl, hc, _⟩
  · exact .inl h
  · right
    have hb := World.block_lt_of_cell? w _ (hc 0 hm).2
    obtain ⟨a', c', rfl, g0, g1⟩ := hv.len
    cases a' with
    | none => simp [Value.ownBlock]
    | some ad' =>
      obtain ⟨q1, q2, q3, q4⟩ := g1 ad' rfl
      simp [Value.ownBlock]
      simp at hb
      omega
/-- Bytes behind bytes, as lists. -/
theorem joinL {base : Nat} {w : World} {v u : Value} {L M : List Nat} (hL : L.length + M.length ≤ 140737488355328) (hv : OwnL base w v L) (hb : base ≤ w.heap.size) (hu : ByRow w u M.length (gd M)) (hne : M.length = 0 ∨ u.ownBlock ≠ v.ownBlock) :
    Calls Try.prog 11 #[v, u] w fun e w' => ∃ v', e = .returned v' ∧ OwnL base w' v' (L ++ M) ∧ Below base w w' ∧ Grew w v w' v' := by
  refine (join_any base v u L.length M.length (gd L) (gd M) hL w hv hb hu hne).mono ?_
  rintro e w' ⟨v', rfl, ho, hg⟩
  exact ⟨v', rfl, OwnL.app ho, hg.below hv hb, hg⟩
theorem own_ne_new {base n : Nat} {w : World} {v : Value} {X : Nat → Nat} (hv : OwnB base w v n X) : some w.heap.size ≠ v.ownBlock := by
  obtain ⟨a', c', rfl, g0, g1⟩ := hv.len
  cases a' with
  | none => simp [Value.ownBlock]
  | some ad' =>
    obtain ⟨q1, q2, q3, q4⟩ := g1 ad' rfl
    simp [Value.ownBlock]
    omega
theorem row1g (w : World) (A : Int) (c g : Nat) (hg : w.heap.size = g) (h0 : A = (c : Int)) (hl : c < 256) :
    ByRow (w.alloc (.cells #[.int .u8 A] 5)) (.slice (some ⟨g, 0, none⟩) 1 1) [c].length (gd [c]) := by subst hg; exact row1L w A c h0 hl
theorem below_up {w W W' : World} (h : Up w W) (k : Below w.heap.size W W') : Up w W' := Below.trans h k
set_option maxHeartbeats 2000000 in
theorem refPut_row (a0 : Option Addr) (n cap : Nat) (f : Nat → PV) (hnc : n ≤ 1048576) (w : World) (hc : ∀ i, i < n → ∃ b off, a0 = some ⟨b, off, none⟩ ∧ PV.At w b (off + i * 5) (f i) ∧ PV.In w (f i)) :
    Calls Try.prog 6 #[.slice a0 n cap] w fun e w' => ∃ v' L', e = .returned (.tuple #[v', .int .i64 (firstE f n : Nat)]) ∧ OwnL w.heap.size w' v' L' ∧ (firstE f n = 0 → L' = putL encV f n) ∧ (firstE f n ≠ 0 → L' = []) ∧ Up w w' := by
  have HC := hid hc
  have HL := hid (putL_len f n (fun i hi => by obtain ⟨b, off, _, _, h⟩ := hc i hi; exact h.nin))
  clear hc
  generalize hE : firstE f n = E
  have HE := hid hE
  clear hE
  go_enter Try.func6, Try.ntmps6
  go_wp2
  go_loopw [4, 5] (fun o i wr => ∃ k : Nat, k ≤ n ∧ i = .int .i64 (k : Nat) ∧ OwnL w.heap.size wr o (putL encV f k) ∧ Up w wr ∧ firstE f k = 0) (fun _ i _ => n - (intOf i).toNat)
  case atStart => exact ⟨0, Nat.zero_le _, rfl, OwnB.empty (Nat.le_refl _) rfl, (Up.refl w).alloc _, rfl⟩
  case round =>
    obtain ⟨k, hk, rfl, ho, hu, h0⟩ := hrel
    by_cases hlt : k < n
    · obtain ⟨b, off, ha, hat, hin⟩ := HC.out k hlt
      subst ha
      have hat2 := hat.up hu
      obtain ⟨x0, x1, x2, x3, x4⟩ := hat2
      have HOk := hid ho
      obtain ⟨a, c, hb⟩ := PV.slice hin
      have HLk := hid (HL.out k (by omega) h0)
      have hS : firstE f (k + 1) = pvE (f k) := by simp [firstE, h0]
      have HP : Hid (putL encV f (k + 1) = putL encV f k ++ encV (f k)) := rfl
      have HI := hid hin
      have HBR := hid hin.row
      have hbs := hid hu.size
      rw [hb] at x3 HBR
      have hStop : pvE (f k) ≠ 0 → E = pvE (f k) := fun hz => by rw [← HE.out, ← hS]; exact firstE_stop f (k + 1) (by rw [hS]; exact hz) n hlt
      have HST := hid hStop
      have HSS := hid hS
      clear ho hat hb HC HL h0 HE hStop hS
      generalize putL encV f k = L at *
      by_cases c1 : (f k).k = 1
      · have e1 : encV (f k) = numL (f k).n := by simp [encV, c1]
        have e2 : pvE (f k) = 0 := by simp [pvE, c1]
        have HS := hid (HSS.out.trans e2)
        have HN := hid (fun w => refNum_any (f k).n hin.nin.1 hin.nin.2 w)
        have hlen := hid (num_len (f k).n hin.nin.1 hin.nin.2)
        rw [e1] at HP
        rw [c1] at x0
        clear e1 e2 HSS HST c1 hin HI HBR
        generalize (f k).n = k2 at *
        generalize (f k).x = k3 at *
        generalize (f k).bn = k4 at *
        generalize (f k).on = k5 at *
        go_wp2_with (first | (go_at_call 12; refine (HN.out _).mono ?_; rintro o w5 ⟨v5, rfl, o5, u5⟩; have O5 := hid o5; have V5 := hid (Up.trans ((Up.refl wr).alloc _) u5); have Z5 := hid u5.size; clear o5 u5) | (go_at_call 11; refine (joinL (L := L) (M := numL k2) (by have := HLk.out; have := hlen.out; omega) (OwnB.up HOk.out V5.out) (Nat.le_trans hbs.out V5.out.size) (OwnB.row O5.out) (own_apart HOk.out O5.out (by simp))).mono ?_; rintro o w6 ⟨v6, rfl, o6, u6, g6⟩; have O6 := hid o6; have V6 := hid (below_up (Up.trans hu V5.out) u6); clear o6 u6 g6))
        go_roundw
        case rel => exact ⟨k + 1, hlt, by go_num, by rw [HP.out]; exact O6.out, V6.out, HS.out⟩
        case measure => simp [intOf]; omega
      · by_cases c2 : (f k).k = 2
        · have e1 : encV (f k) = keyL (Fl.code (f k).x) 8 := by simp [encV, c2]
          have e2 : pvE (f k) = 0 := by simp [pvE, c2]
          have HS := hid (HSS.out.trans e2)
          have HN := hid (fun w => refKey_any (f k).x hin.xin w)
          have hlen := hid (keyL_len (Fl.code (f k).x) 8)
          rw [e1] at HP
          rw [c2] at x0
          clear e1 e2 HSS HST c1 c2 hin HI HBR
          generalize (f k).n = k2 at *
          generalize (f k).x = k3 at *
          generalize (f k).bn = k4 at *
          generalize (f k).on = k5 at *
          go_wp2_with (first | (go_at_call 13; refine (HN.out _).mono ?_; rintro o w5 ⟨v5, rfl, o5, u5⟩; have O5 := hid o5; have V5 := hid (Up.trans ((Up.refl wr).alloc _) u5); clear o5 u5) | (go_at_call 11; refine (joinL (L := L) (M := keyL (Fl.code k3) 8) (by have := HLk.out; have := hlen.out; omega) (OwnB.up HOk.out V5.out) (Nat.le_trans hbs.out V5.out.size) (OwnB.row O5.out) (own_apart HOk.out O5.out (by simp))).mono ?_; rintro o w6 ⟨v6, rfl, o6, u6, g6⟩; have O6 := hid o6; have V6 := hid (below_up (Up.trans hu V5.out) u6); clear o6 u6 g6))
          go_roundw
          case rel => exact ⟨k + 1, hlt, by go_num, by rw [HP.out]; exact O6.out, V6.out, HS.out⟩
          case measure => simp [intOf]; omega
        · by_cases c3 : (f k).k = 3
          · by_cases cb : 4096 < (f k).bn
            · have e2 : pvE (f k) = 2 := by simp [pvE, c3, cb]
              have hE2 := HST.out (by rw [e2]; decide)
              rw [e2] at hE2
              subst hE2
              have cb' : (4096 : Int) < ((f k).bn : Int) := by omega
              rw [c3] at x0
              clear HSS HST c1 c2 c3 hin HI e2 HBR HP
              generalize (f k).n = k2 at *
              generalize (f k).x = k3 at *
              generalize (f k).bn = k4 at *
              generalize (f k).on = k5 at *
              go_wp2
              go_ret2
              exact ⟨_, [], rfl, OwnB.nil _ _ _, fun h => absurd h (by decide), fun _ => rfl, hu.alloc _⟩
            · have e1 : encV (f k) = numL ((f k).bn : Int) ++ byL (f k).bn (f k).bx := by simp [encV, c3]
              have e2 : pvE (f k) = 0 := by simp [pvE, c3, cb]
              have HS := hid (HSS.out.trans e2)
              have HN := hid (fun w => refNum_any ((f k).bn : Int) (by omega) (by omega) w)
              have hlen := hid (num_len ((f k).bn : Int) (by omega) (by omega))
              have HBL := hid (fun (W : World) (hW : Up w W) => ByRow.byL (HBR.out.up hW))
              have HAP := hid (fun (W : World) (v : Value) (M : List Nat) (hv : OwnL w.heap.size W v M) => old_apart HBR.out hv)
              have hbl := hid (byL_len (f k).bn (f k).bx)
              rw [e1, ← List.append_assoc] at HP
              rw [c3] at x0
              have cb' : ((f k).bn : Int) ≤ 4096 := by omega
              clear e1 e2 HSS HST c1 c2 c3 hin HI HBR cb
              generalize byL (f k).bn (f k).bx = BL at *
              generalize (f k).n = k2 at *
              generalize (f k).x = k3 at *
              generalize (f k).bn = k4 at *
              generalize (f k).on = k5 at *
              go_wp2_with (first | (go_at_call 12; refine (HN.out _).mono ?_; rintro o w5 ⟨v5, rfl, o5, u5⟩; have O5 := hid o5; have V5 := hid (Up.trans ((Up.refl wr).alloc _) u5); have y3 := u5.keep (cell_new wr #[.int .i64 3, .int .i64 k2, .float .f64 k3, .slice a k4 c, .bool k5] 39 (0, 0) 3 _ rfl); clear o5 u5) | (go_at_call_of 11 v5; refine (joinL (L := L) (M := numL (k4 : Int)) (by have := HLk.out; have := hlen.out; omega) (OwnB.up HOk.out V5.out) (Nat.le_trans hbs.out V5.out.size) (OwnB.row O5.out) (own_apart HOk.out O5.out (by simp))).mono ?_; rintro o w6 ⟨v6, rfl, o6, u6, g6⟩; have O6 := hid o6; have V6 := hid (below_up (Up.trans hu V5.out) u6); have y6 := g6.by_.cell y3 (own_ne_new HOk.out); clear o6 u6 g6) | (go_at_call 11; refine (joinL (L := L ++ numL (k4 : Int)) (M := BL) (by have := HLk.out; have := hlen.out; have := hbl.out; simp; omega) O6.out V6.out.size (HBL.out _ V6.out) (by rw [hbl.out]; exact HAP.out _ _ _ O6.out)).mono ?_; rintro o w7 ⟨v7, rfl, o7, u7, g7⟩; have O7 := hid o7; have V7 := hid (below_up V6.out u7); clear o7 u7 g7))
              go_roundw
              case rel => exact ⟨k + 1, hlt, by go_num, by rw [HP.out]; exact O7.out, V7.out, HS.out⟩
              case measure => simp [intOf]; omega
          · by_cases c4 : (f k).k = 4
            · have e1 : encV (f k) = [if (f k).on = true then 1 else 0] := by simp [encV, c4]
              have e2 : pvE (f k) = 0 := by simp [pvE, c4]
              have HS := hid (HSS.out.trans e2)
              rw [e1] at HP
              rw [c4] at x0
              clear e1 e2 HSS HST c1 c2 c3 c4 hin HI HBR
              generalize (f k).n = k2 at *
              generalize (f k).x = k3 at *
              generalize (f k).bn = k4 at *
              generalize (f k).on = k5 at *
              cases k5
              · simp only [Bool.false_eq_true, if_false] at HP
                have HR := hid (row1g (wr.alloc (.cells #[.int .i64 4, .int .i64 k2, .float .f64 k3, .slice a k4 c, .bool false] 39)) (0 : Int) 0 (wr.heap.size + 1) (by simp) rfl (by decide))
                go_wp2_with (at_builtin; refine wp_app rfl (.tmp 57) (.tmp 58) rfl w.heap.size _ _ L.length [0].length (gd L) (gd [0]) rfl rfl (OwnB.alloc (OwnB.alloc HOk.out _) _) HR.out (by have := HLk.out; simp; omega) (by have := hbs.out; simp; omega) ?_; intro v5 w5 o5 g5 u5; have O5 := hid (OwnL.app o5); have V5 := hid (below_up (Up.alloc (hu.alloc _) _) u5); clear o5 g5 u5)
                go_roundw
                case rel => exact ⟨k + 1, hlt, by go_num, by rw [HP.out]; exact O5.out, V5.out, HS.out⟩
                case measure => simp [intOf]; omega
              · simp only [if_true] at HP
                have HR := hid (row1g (wr.alloc (.cells #[.int .i64 4, .int .i64 k2, .float .f64 k3, .slice a k4 c, .bool true] 39)) (1 : Int) 1 (wr.heap.size + 1) (by simp) rfl (by decide))
                go_wp2_with (at_builtin; refine wp_app rfl (.tmp 54) (.tmp 55) rfl w.heap.size _ _ L.length [1].length (gd L) (gd [1]) rfl rfl (OwnB.alloc (OwnB.alloc HOk.out _) _) HR.out (by have := HLk.out; simp; omega) (by have := hbs.out; simp; omega) ?_; intro v5 w5 o5 g5 u5; have O5 := hid (OwnL.app o5); have V5 := hid (below_up (Up.alloc (hu.alloc _) _) u5); clear o5 g5 u5)
                go_roundw
                case rel => exact ⟨k + 1, hlt, by go_num, by rw [HP.out]; exact O5.out, V5.out, HS.out⟩
                case measure => simp [intOf]; omega
            · have e2 : pvE (f k) = 1 := by unfold pvE; rw [if_pos (by omega)]
              have hE2 := HST.out (by rw [e2]; decide)
              rw [e2] at hE2
              subst hE2
              clear HSS HST hin HI e2 HBR HP
              generalize (f k).k = k1 at *
              generalize (f k).n = k2 at *
              generalize (f k).x = k3 at *
              generalize (f k).bn = k4 at *
              generalize (f k).on = k5 at *
              have d1 : (k1 == 1) = false := by simpa using c1
              have d2 : (k1 == 2) = false := by simpa using c2
              have d3 : (k1 == 3) = false := by simpa using c3
              have d4 : (k1 == 4) = false := by simpa using c4
              go_wp2
              go_ret2
              exact ⟨_, [], rfl, OwnB.nil _ _ _, fun h => absurd h (by decide), fun _ => rfl, hu.alloc _⟩
    · obtain rfl : k = n := by omega
      have HOk := hid ho
      obtain rfl : 0 = E := by rw [← HE.out, h0]
      clear ho HC HL HE
      go_wp2
      go_ret2
      exact ⟨_, rfl, _, HOk.out, rfl, hu⟩
end Go.Proofs.Ytbmbjadmojehiaa
