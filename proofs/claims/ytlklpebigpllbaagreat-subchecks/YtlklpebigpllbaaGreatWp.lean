/- The document's SameKeys and Same at any two rows; no condition. -/
import Derived.Test.YtlklpebigpllbaaGreatWh
namespace Go.Proofs.YtlklpebigpllbaaGreat
open Go.RowKit Go.Lib
set_option linter.unusedVariables false
set_option linter.unusedSimpArgs false
set_option maxRecDepth 20000
def spEq (s t : Sp) : Bool := (s.p == t.p) && (s.q == t.q) && (decide (s.a = t.a) && decide (s.b = t.b))
namespace Fl
def spU (f g : Nat → Sp) : Nat → Bool | 0 => true | n + 1 => spU f g n && spEq (f n) (g n)
theorem spU_false (f g : Nat → Sp) : ∀ n k, k < n → spEq (f k) (g k) = false → spU f g n = false
  | n + 1, k, h, e => by
    show (spU f g n && spEq (f n) (g n)) = false
    by_cases q : k = n
    · subst q; rw [e, Bool.and_false]
    · rw [spU_false f g n k (by omega) e]; rfl
end Fl
theorem FRow.nlen {w : World} {v : Value} {n : Nat} {x : Nat → Nat} (h : FRow w v n x) : n ≤ 9223372036854775807 ∧ ∃ a c, v = .slice a n c := by
  obtain ⟨h1, a, c, e, _⟩ := h
  exact ⟨h1, a, c, e⟩
theorem SRow.nlen {w : World} {v : Value} {n : Nat} {f : Nat → Sp} (h : SRow w v n f) : ∃ a c, v = .slice a n c := by
  obtain ⟨h1, a, c, e, _⟩ := h
  exact ⟨a, c, e⟩
abbrev X82 (b o b' o' : Nat) (s t : Sp) (w : World) : Prop := (w.cell? ⟨b, o, none⟩ = some (.float .f64 s.a) ∧ w.cell? ⟨b, o + 1, none⟩ = some (.float .f64 s.b) ∧ w.cell? ⟨b, o + 2, none⟩ = some (.bool s.p) ∧ w.cell? ⟨b, o + 3, none⟩ = some (.bool s.q)) ∧ w.cell? ⟨b', o', none⟩ = some (.float .f64 t.a) ∧ w.cell? ⟨b', o' + 1, none⟩ = some (.float .f64 t.b) ∧ w.cell? ⟨b', o' + 2, none⟩ = some (.bool t.p) ∧ w.cell? ⟨b', o' + 3, none⟩ = some (.bool t.q)
theorem X82.old {b o b' o' : Nat} {s t : Sp} {w w' : World} (u : Old w w') (h : X82 b o b' o' s t w) : X82 b o b' o' s t w' := ⟨⟨u.keep h.1.1, u.keep h.1.2.1, u.keep h.1.2.2.1, u.keep h.1.2.2.2⟩, u.keep h.2.1, u.keep h.2.2.1, u.keep h.2.2.2.1, u.keep h.2.2.2.2⟩
attribute [local go_sem] run_bits run_frombits run_store_float eqF
set_option maxHeartbeats 400000 in
set_option maxRecDepth 20000 in
theorem sameKeys_ne (a b : Option Addr) (n m c d : Nat) (h : n ≠ m) (w : World) : Calls Tryz.prog 16 #[.slice a n c, .slice b m d] w fun e w' => e = .returned (.bool false) ∧ w' = w := by
  have t : ((n : Int) != (m : Int)) = true := by rw [bne_iff_ne]; omega
  clear h
  go_enter Tryz.func16, Tryz.ntmps16
  go_wp2
  go_ret
  exact ⟨rfl, rfl⟩
theorem sameKeysG (v1 v2 : Value) (n m : Nat) (x y : Nat → Nat) (w : World) (h1 : FRow w v1 n x) (h2 : FRow w v2 m y) :
    Calls Tryz.prog 16 #[v1, v2] w fun e w' => e = .returned (.bool (decide (n = m) && Fl.sameU x y n)) ∧ Old w w' := by
  by_cases e : n = m
  · subst e
    rw [decide_eq_true rfl, Bool.true_and]
    have hb := h1.nlen.1
    rcases h1.cases with ⟨rfl, a, c, rfl⟩ | ⟨hn, b, off, c, rfl, hc⟩
    · obtain ⟨_, a', c', rfl⟩ := h2.nlen
      exact (sameKeys_none a a' c c' w).mono fun e w' h => ⟨h.1, by rw [h.2]; exact Old.refl _⟩
    · rcases h2.cases with ⟨h0, _⟩ | ⟨_, b', off', c', rfl, hc'⟩
      · omega
      · exact (sameKeys_any b off c b' off' c' n x y (by unfold maxLen; omega) w (fun i hi => (hc i hi).2) (fun i hi => (hc' i hi).2)).mono fun e w' h => ⟨h.1, h.2.old⟩
  · rw [decide_eq_false e, Bool.false_and]
    obtain ⟨_, a, c, rfl⟩ := h1.nlen
    obtain ⟨_, a', c', rfl⟩ := h2.nlen
    exact (sameKeys_ne a a' n m c c' e w).mono fun e w' h => ⟨h.1, by rw [h.2]; exact Old.refl _⟩
set_option maxHeartbeats 400000 in
set_option maxRecDepth 20000 in
theorem sameSpans_ne (a b : Option Addr) (n m c d : Nat) (h : n ≠ m) (w : World) : Calls Tryz.prog 18 #[.slice a n c, .slice b m d] w fun e w' => e = .returned (.bool false) ∧ w' = w := by
  have t : ((n : Int) != (m : Int)) = true := by rw [bne_iff_ne]; omega
  clear h
  go_enter Tryz.func18, Tryz.ntmps18
  go_wp2
  go_ret
  exact ⟨rfl, rfl⟩
set_option maxHeartbeats 1000000 in
set_option maxRecDepth 20000 in
theorem sameSpans_eq (v1 v2 : Value) (n : Nat) (f g : Nat → Sp) (w : World) (h1 : SRow w v1 n f) (h2 : SRow w v2 n g) :
    Calls Tryz.prog 18 #[v1, v2] w fun e w' => e = .returned (.bool (Fl.spU f g n)) ∧ Old w w' := by
  obtain ⟨hm, a, c, rfl, hc⟩ := h1
  obtain ⟨_, a', c', rfl, hc'⟩ := h2
  have HC := hid hc
  have HC' := hid hc'
  clear hc hc'
  go_enter Tryz.func18, Tryz.ntmps18
  go_wp2
  go_loopw [5] (fun i wr => ∃ j : Nat, j ≤ n ∧ i = .int .i64 (j : Nat) ∧ Fl.spU f g j = true ∧ Old w wr) (fun i _ => n - (intOf i).toNat)
  case atStart => exact ⟨0, Nat.zero_le _, rfl, rfl, Old.refl _⟩
  case round =>
    obtain ⟨j, hj, rfl, hs, hu⟩ := hrel
    have HSU := hid hs
    clear hs
    by_cases hlt : j < n
    · obtain ⟨b, off, ha, _, _, c0, c1, c2, c3⟩ := HC.out j hlt
      obtain ⟨b', off', ha', _, _, d0, d1, d2, d3⟩ := HC'.out j hlt
      subst ha ha'
      have hX : X82 b (off + j * 4) b' (off' + j * 4) (f j) (g j) wr := ⟨⟨hu.keep c0, hu.keep c1, hu.keep c2, hu.keep c3⟩, hu.keep d0, hu.keep d1, hu.keep d2, hu.keep d3⟩
      have HK0 := fun W => sameSpan_any (f j).a (f j).b (g j).a (g j).b (f j).p (f j).q (g j).p (g j).q W
      have l1 : (0 : Int) ≤ (j : Int) := by omega
      have l2 : (j : Int) < (n : Int) := by omega
      clear c0 c1 c2 c3 d0 d1 d2 d3
      have HSt := hid (show Fl.spU f g (j + 1) = (Fl.spU f g j && spEq (f j) (g j)) from rfl)
      have HFl := hid (fun (e : spEq (f j) (g j) = false) => Fl.spU_false f g n j hlt e)
      have HQ := hid (show ((f j).p == (g j).p && (f j).q == (g j).q && (decide ((f j).a = (g j).a) && decide ((f j).b = (g j).b))) = spEq (f j) (g j) from rfl)
      rw [HQ.out] at HK0
      have HK := hid HK0
      clear HK0 HQ
      generalize hs1 : f j = s1 at *
      generalize hs2 : g j = s2 at *
      clear hs1 hs2
      cases hq : spEq s1 s2
      · have HF := hid (HFl.out hq)
        rw [hq] at HK
        clear hq HFl HSt
        go_wp2_with fail
        go_region_held3 (X82 b (off + j * 4) b' (off' + j * 4) s1 s2) (first | assumption | exact hX | (refine X82.old ?_ hX; assumption)) (first | (go_at_call 39; refine (HK.out _).mono ?_; rintro o w5 ⟨rfl, u5⟩; have U5 : Old wr w5 := ((Old.refl _).drew).trans u5.old))
        all_goals go_wp2
        go_ret
        exact ⟨ret_b HF.out.symm, Old.trans hu U5⟩
      · have HF := hid (show Fl.spU f g (j + 1) = true by rw [HSt.out, HSU.out, hq, Bool.and_true])
        rw [hq] at HK
        clear hq HFl HSt
        go_wp2_with fail
        go_region_held3 (X82 b (off + j * 4) b' (off' + j * 4) s1 s2) (first | assumption | exact hX | (refine X82.old ?_ hX; assumption)) (first | (go_at_call 39; refine (HK.out _).mono ?_; rintro o w5 ⟨rfl, u5⟩; have U5 : Old wr w5 := ((Old.refl _).drew).trans u5.old))
        all_goals go_wp2
        go_roundw
        case rel => exact ⟨j + 1, hlt, by go_num, HF.out, Old.trans hu U5⟩
        case measure => simp [intOf]; omega
    · obtain rfl : j = n := by omega
      go_wp2
      go_ret
      exact ⟨ret_b HSU.out.symm, hu⟩
theorem sameSpansG (v1 v2 : Value) (n m : Nat) (f g : Nat → Sp) (w : World) (h1 : SRow w v1 n f) (h2 : SRow w v2 m g) :
    Calls Tryz.prog 18 #[v1, v2] w fun e w' => e = .returned (.bool (decide (n = m) && Fl.spU f g n)) ∧ Old w w' := by
  by_cases e : n = m
  · subst e
    rw [decide_eq_true rfl, Bool.true_and]
    exact sameSpans_eq v1 v2 n f g w h1 h2
  · rw [decide_eq_false e, Bool.false_and]
    obtain ⟨a, c, rfl⟩ := h1.nlen
    obtain ⟨a', c', rfl⟩ := h2.nlen
    exact (sameSpans_ne a a' n m c c' e w).mono fun e w' h => ⟨h.1, by rw [h.2]; exact Old.refl _⟩
end Go.Proofs.YtlklpebigpllbaaGreat
