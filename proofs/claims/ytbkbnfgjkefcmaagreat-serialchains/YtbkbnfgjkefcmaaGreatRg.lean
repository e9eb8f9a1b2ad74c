/- Two lists of keys, two spans held against each other bit by bit; the span of a range: what SameKeys, SameSpan and Span of the reference return; conditions: the rows lie in memory. -/
import Derived.Test.YtbkbnfgjkefcmaaGreatRf
import Derived.Deep.QuietTactic
import Derived.BigQuiet
namespace Go.Proofs.YtbkbnfgjkefcmaaGreat
open Go.RowKit
namespace Fl
def sameU (x y : Nat → Nat) : Nat → Bool | 0 => true | k + 1 => sameU x y k && decide (x k = y k)
theorem sameU_false (x y : Nat → Nat) : ∀ n k, k < n → x k ≠ y k → sameU x y n = false
  | n + 1, k, h, e => by
    unfold sameU
    by_cases hk : k = n
    · subst hk; simp [e]
    · rw [sameU_false x y n k (by omega) e]; rfl
end Fl
attribute [local go_sem] run_bits run_frombits run_store_float eqF

set_option maxHeartbeats 1000000 in
set_option maxRecDepth 20000 in
theorem sameKeys_any (b1 o1 c1 b2 o2 c2 n : Nat) (x y : Nat → Nat) (hm : n ≤ maxLen) (w : World) (hx : ∀ i, i < n → w.cell? ⟨b1, o1 + i, none⟩ = some (.float .f64 (x i))) (hy : ∀ i, i < n → w.cell? ⟨b2, o2 + i, none⟩ = some (.float .f64 (y i))) :
    Calls Tryz.prog 40 #[.slice (some ⟨b1, o1, none⟩) n c1, .slice (some ⟨b2, o2, none⟩) n c2] w fun e w' => e = .returned (.bool (Fl.sameU x y n)) ∧ Up w w' := by
  unfold maxLen at hm
  have HX := hid hx
  have HY := hid hy
  clear hx hy
  go_enter Tryz.func40, Tryz.ntmps40
  go_wp2
  go_loopw [5] (fun i wx => ∃ k : Nat, k ≤ n ∧ i = .int .i64 k ∧ Fl.sameU x y k = true ∧ Up w wx) (fun i _ => n - (intOf i).toNat)
  case atStart => exact ⟨0, Nat.zero_le _, rfl, rfl, Up.refl _⟩
  case round =>
    obtain ⟨k, hk, rfl, hs, hup⟩ := hrel
    have hs' := hid hs
    clear hs
    by_cases hlt : k < n
    · have cx := hup.keep (HX.out k hlt)
      have cy := hup.keep (HY.out k hlt)
      have l1 : (0 : Int) ≤ (k : Int) := by omega
      have l2 : (k : Int) < (n : Int) := by omega
      by_cases he : x k = y k
      · have t : ((x k : Int) != (y k : Int)) = false := by rw [he]; simp
        have he' := hid he
        clear he
        go_wp2
        go_quiet (fail)
        go_wp2
        refine ⟨⟨k + 1, hlt, by go_num, ?_, hup.drewN _⟩, by simp [intOf]; omega⟩
        show (Fl.sameU x y k && decide (x k = y k)) = true
        rw [hs'.out, decide_eq_true he'.out]; rfl
      · have t : ((x k : Int) != (y k : Int)) = true := by rw [bne_iff_ne]; omega
        have hf := hid (Fl.sameU_false x y n k hlt he)
        clear he
        go_wp2
        go_quiet (fail)
        go_wp2
        go_ret
        exact ⟨ret_b (by rw [hf.out]), hup.drewN _⟩
    · go_wp2
      go_ret
      exact ⟨ret_b (by rw [show n = k by omega]; exact hs'.out.symm), hup⟩

theorem row2 (a b m : Nat) (W : World) (h0 : W.cell? ⟨m, 0, none⟩ = some (.float .f64 a)) (h1 : W.cell? ⟨m, 1, none⟩ = some (.float .f64 b)) : ∀ i, i < 2 → W.cell? ⟨m, 0 + i, none⟩ = some (.float .f64 ((fun j => if j = 0 then a else b) i)) := by
  intro i hi
  rw [Nat.zero_add]
  match i, hi with
  | 0, _ => exact h0
  | 1, _ => exact h1
theorem sameKeys2 (a b c d m1 m2 c1 c2 : Nat) (W : World) (h0 : W.cell? ⟨m1, 0, none⟩ = some (.float .f64 a)) (h1 : W.cell? ⟨m1, 1, none⟩ = some (.float .f64 b)) (g0 : W.cell? ⟨m2, 0, none⟩ = some (.float .f64 c)) (g1 : W.cell? ⟨m2, 1, none⟩ = some (.float .f64 d)) :
    Calls Tryz.prog 40 #[.slice (some ⟨m1, 0, none⟩) 2 c1, .slice (some ⟨m2, 0, none⟩) 2 c2] W fun e w' => e = .returned (.bool (decide (a = c) && decide (b = d))) ∧ Up W w' :=
  sameKeys_any m1 0 c1 m2 0 c2 2 _ _ (by unfold maxLen; omega) W (row2 a b m1 W h0 h1) (row2 c d m2 W g0 g1)

set_option maxHeartbeats 1000000 in
set_option maxRecDepth 20000 in
theorem sameSpan_any (a b c d : Nat) (p q r s : Bool) (w : World) :
    Calls Tryz.prog 70 #[.agg #[.float .f64 a, .float .f64 b, .bool p, .bool q], .agg #[.float .f64 c, .float .f64 d, .bool r, .bool s]] w fun e w' => e = .returned (.bool ((p == r) && (q == s) && (decide (a = c) && decide (b = d)))) ∧ Up w w' := by
  have B := hid (show ∀ t, ((p == r) && (q == s) && t) = (p == r && q == s && t) from fun _ => rfl)
  by_cases h1 : (p == r) = true
  · by_cases h2 : (q == s) = true
    · have e : ((p == r) && (q == s) && (decide (a = c) && decide (b = d))) = (decide (a = c) && decide (b = d)) := by rw [h1, h2]; rfl
      rw [e]; clear e B
      have g1 : p = r := by simpa using h1
      have g2 : q = s := by simpa using h2
      subst g1 g2
      clear h1 h2
      go_enter Tryz.func70, Tryz.ntmps70
      go_wp2_with (go_at_call 40; refine (sameKeys2 a b c d _ _ _ _ _ (by simp [go_sem]) (by simp [go_sem]) (by simp [go_sem]) (by simp [go_sem])).mono ?_; rintro e w1 ⟨rfl, hb1⟩)
      go_ret
      exact ⟨rfl, (by repeat (first | exact Up.refl _ | assumption | refine Up.drew ?_ | refine Up.drewN ?_ _ | refine Up.alloc ?_ _ | refine Up.setCell ?_ ?_ _ | exact Nat.le_refl _ | exact Nat.le_add_right _ _ | (dsimp only; omega) | refine Up.trans ?_ ‹Up _ _›))⟩
    · have h2' : (q == s) = false := by simpa using h2
      have e : ((p == r) && (q == s) && (decide (a = c) && decide (b = d))) = false := by rw [h2']; simp
      rw [e]; clear e B h2
      go_enter Tryz.func70, Tryz.ntmps70
      go_wp2
      go_ret
      exact ⟨rfl, (by repeat (first | exact Up.refl _ | assumption | refine Up.drew ?_ | refine Up.drewN ?_ _ | refine Up.alloc ?_ _ | refine Up.setCell ?_ ?_ _ | exact Nat.le_refl _ | exact Nat.le_add_right _ _ | (dsimp only; omega) | refine Up.trans ?_ ‹Up _ _›))⟩
  · have h1' : (p == r) = false := by simpa using h1
    have e : ((p == r) && (q == s) && (decide (a = c) && decide (b = d))) = false := by rw [h1']; simp
    rw [e]; clear e B h1
    go_enter Tryz.func70, Tryz.ntmps70
    go_wp2
    go_ret
    exact ⟨rfl, (by repeat (first | exact Up.refl _ | assumption | refine Up.drew ?_ | refine Up.drewN ?_ _ | refine Up.alloc ?_ _ | refine Up.setCell ?_ ?_ _ | exact Nat.le_refl _ | exact Nat.le_add_right _ _ | (dsimp only; omega) | refine Up.trans ?_ ‹Up _ _›))⟩

/-- Block n holds a range; block m holds a span and may be written. -/
abbrev S3 (n l h m c d : Nat) (r s : Bool) (w : World) : Prop := RgAt n l h w ∧ SpAt m c d r s w ∧ FrAt m w
theorem S3.up {n l h m c d : Nat} {r s : Bool} {W w' : World} (hb : Up W w') (k : S3 n l h m c d r s W) : S3 n l h m c d r s w' := ⟨RgAt.up hb k.1, SpAt.up hb k.2.1, SpAt.frUp hb k.2.1 k.2.2⟩

set_option maxHeartbeats 1000000 in
set_option maxRecDepth 20000 in
theorem rSpan_none (L H : Nat) (h : H < L) (w : World) :
    Calls Tryz.prog 71 #[.agg #[.int .u64 (L : Nat), .int .u64 (H : Nat)]] w fun e w' => e = .returned (.agg #[.float .f64 0, .float .f64 0, .bool true, .bool true]) ∧ Up w w' := by
  have t : decide (H < L) = true := by simpa using h
  clear h
  go_enter Tryz.func71, Tryz.ntmps71
  go_wp2_with (go_at_call 38; refine (rEmpty_any L H _).mono ?_; rintro e w1 ⟨rfl, hb1⟩; have s1 : S3 w.heap.size L H (w.heap.size + 1) 0 0 false false w1 := S3.up hb1 (by simp [S3, RgAt, SpAt, FrAt]))
  exact bodyPost_ret (v := .agg #[.float .f64 0, .float .f64 0, .bool true, .bool true]) (by simp [results, Tryz.results71, go_sem, s1]) rfl ⟨rfl, (by repeat (first | exact Up.refl _ | assumption | refine Up.drew ?_ | refine Up.drewN ?_ _ | refine Up.alloc ?_ _ | refine Up.setCell ?_ ?_ _ | exact Nat.le_refl _ | exact Nat.le_add_right _ _ | (dsimp only; omega) | refine Up.trans ?_ ‹Up _ _›))⟩
set_option maxHeartbeats 1000000 in
set_option maxRecDepth 20000 in
theorem rSpan_some (L H : Nat) (wL : Fl.W L) (wH : Fl.W H) (h : ¬ H < L) (w : World) :
    Calls Tryz.prog 71 #[.agg #[.int .u64 (L : Nat), .int .u64 (H : Nat)]] w fun e w' => e = .returned (.agg #[.float .f64 (Fl.of L), .float .f64 (Fl.of H), .bool false, .bool false]) ∧ Up w w' := by
  have t : decide (H < L) = false := by simpa using h
  have HL := hid (fun w => of_any L wL w)
  have HH := hid (fun w => of_any H wH w)
  generalize Fl.of L = u at *
  generalize Fl.of H = v at *
  clear h wL wH
  go_enter Tryz.func71, Tryz.ntmps71
  go_wp2_with (go_at_call 38; refine (rEmpty_any L H _).mono ?_; rintro e w1 ⟨rfl, hb1⟩; have s1 : S3 w.heap.size L H (w.heap.size + 1) 0 0 false false w1 := S3.up hb1 (by simp [S3, RgAt, SpAt, FrAt]))
  go_region_held3 (RgAt w.heap.size L H) (first | (apply RgAt.up; exact Up.drew (Up.refl _); exact s1.1) | (simp [RgAt, *, World.cell?_setCell_far])) (first | (go_at_call_of 69 (Value.int IntKind.u64 (L : Int)); refine (HL.out _).mono ?_; rintro e w' ⟨rfl, rfl⟩) | (go_at_call_of 69 (Value.int IntKind.u64 (H : Int)); refine (HH.out _).mono ?_; rintro e w' ⟨rfl, rfl⟩))
  go_wp2
  exact bodyPost_ret (v := .agg #[.float .f64 u, .float .f64 v, .bool false, .bool false]) (by simp [results, Tryz.results71, go_sem, s1]) rfl ⟨rfl, (by repeat (first | exact Up.refl _ | assumption | refine Up.drew ?_ | refine Up.drewN ?_ _ | refine Up.alloc ?_ _ | refine Up.setCell ?_ ?_ _ | exact Nat.le_refl _ | exact Nat.le_add_right _ _ | (dsimp only; omega) | refine Up.trans ?_ ‹Up _ _›))⟩

/-- The span of a span's codes is its form. -/
theorem rSpan_form (a b : Nat) (ha : Fl.W a) (hb : Fl.W b) (p q : Bool) (w : World) :
    Calls Tryz.prog 71 #[.agg #[.int .u64 (Fl.rL a b p q : Nat), .int .u64 (Fl.rH a b p q : Nat)]] w fun e w' => e = .returned (.agg #[.float .f64 (Fl.csU a b p q), .float .f64 (Fl.csV a b p q), .bool (Fl.csE a b p q), .bool (Fl.csE a b p q)]) ∧ Up w w' := by
  cases h : Fl.csE a b p q
  · have f := Fl.cs_form a b p q ha hb h
    have hu := Fl.csU_W a b p q ha
    have hv := Fl.csV_W a b p q hb
    have e1 : Fl.rL a b p q = Fl.code (Fl.csU a b p q) := by unfold Fl.rL; rw [h]; rfl
    have e2 : Fl.rH a b p q = Fl.code (Fl.csV a b p q) := by unfold Fl.rH; rw [h]; rfl
    have X := rSpan_some (Fl.code (Fl.csU a b p q)) (Fl.code (Fl.csV a b p q)) (Fl.code_le _ hu) (Fl.code_le _ hv) (by omega) w
    rw [Fl.of_code _ hu, Fl.of_code _ hv, Fl.csU_canon a b p q ha, Fl.csV_canon a b p q hb] at X
    rw [e1, e2]; exact X
  · have e := Fl.csE_true a b p q h
    have e1 : Fl.rL a b p q = 1 := by unfold Fl.rL; rw [h]; rfl
    have e2 : Fl.rH a b p q = 0 := by unfold Fl.rH; rw [h]; rfl
    rw [e1, e2, e.1, e.2]; exact rSpan_none 1 0 (by omega) w

end Go.Proofs.YtbkbnfgjkefcmaaGreat
