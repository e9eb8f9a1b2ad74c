/- span.Covers; the document's Same at equal rows and Spans of a row of ranges; conditions: the lengths fit. -/
import Derived.Test.YtbkbnfgjkefcmaaGreatNq
namespace Go.Proofs.YtbkbnfgjkefcmaaGreat
open Go.RowKit
set_option linter.unusedVariables false
attribute [local go_sem] run_bits run_frombits run_store_float eqF
namespace Fl
def hasS (s : Sp) (k : Nat) : Bool := hasF (csU s.a s.b s.p s.q) (csV s.a s.b s.p s.q) (csE s.a s.b s.p s.q) k
def anyG (g : Nat → Bool) : Nat → Bool | 0 => false | n + 1 => anyG g n || g n
theorem anyG_true (g : Nat → Bool) : ∀ n i, i < n → g i = true → anyG g n = true
  | n + 1, i, h, e => by
    unfold anyG
    by_cases hi : i = n
    · subst hi; rw [e]; simp
    · rw [anyG_true g n i (by omega) e]; rfl
theorem anyG_step (g : Nat → Bool) (k : Nat) (h : anyG g k = false) (e : g k = false) : anyG g (k + 1) = false := by
  show (anyG g k || g k) = false
  rw [h, e]; rfl
end Fl
abbrev X8 (b o b' o' a1 b1 : Nat) (p1 q1 : Bool) (w : World) : Prop := (w.cell? ⟨b, o, none⟩ = some (.float .f64 a1) ∧ w.cell? ⟨b, o + 1, none⟩ = some (.float .f64 b1) ∧ w.cell? ⟨b, o + 2, none⟩ = some (.bool p1) ∧ w.cell? ⟨b, o + 3, none⟩ = some (.bool q1)) ∧ w.cell? ⟨b', o', none⟩ = some (.float .f64 a1) ∧ w.cell? ⟨b', o' + 1, none⟩ = some (.float .f64 b1) ∧ w.cell? ⟨b', o' + 2, none⟩ = some (.bool p1) ∧ w.cell? ⟨b', o' + 3, none⟩ = some (.bool q1)
theorem X8.old {b o b' o' a1 b1 : Nat} {p1 q1 : Bool} {w w' : World} (u : Old w w') (h : X8 b o b' o' a1 b1 p1 q1 w) : X8 b o b' o' a1 b1 p1 q1 w' := ⟨⟨u.keep h.1.1, u.keep h.1.2.1, u.keep h.1.2.2.1, u.keep h.1.2.2.2⟩, u.keep h.2.1, u.keep h.2.2.1, u.keep h.2.2.2.1, u.keep h.2.2.2.2⟩
set_option maxHeartbeats 1000000 in
set_option maxRecDepth 20000 in
theorem covers_any (v : Value) (n : Nat) (f : Nat → Sp) (k : Nat) (hk : Fl.W k) (w : World) (hv : SRow w v n f) :
    Calls Tryz.prog 86 #[v, .float .f64 k] w fun e w' => e = .returned (.bool (Fl.anyG (fun i => Fl.hasS (f i) k) n)) ∧ Old w w' := by
  obtain ⟨hm, a, c, rfl, hc⟩ := hv
  have HC := hid hc
  generalize hg : (fun i => Fl.hasS (f i) k) = g
  have HG := hid hg
  clear hc hg
  go_enter Tryz.func86, Tryz.ntmps86
  go_wp2
  go_loopw [9] (fun i wr => ∃ j : Nat, j ≤ n ∧ i = .int .i64 (j : Nat) ∧ Fl.anyG g j = false ∧ Old w wr) (fun i _ => n - (intOf i).toNat)
  case atStart => exact ⟨0, Nat.zero_le _, rfl, rfl, Old.refl _⟩
  case round =>
    obtain ⟨j, hj, rfl, h0, hu⟩ := hrel
    by_cases hlt : j < n
    · obtain ⟨b, off, ha, hW1, hW2, c0, c1, c2, c3⟩ := HC.out j hlt
      subst ha
      have x0 := hu.keep c0
      have x1 := hu.keep c1
      have x2 := hu.keep c2
      have x3 := hu.keep c3
      have HK := hid (fun W => has_any (f j).a (f j).b k hW1 hW2 hk (f j).p (f j).q W)
      have hgj : Fl.hasF (Fl.csU (f j).a (f j).b (f j).p (f j).q) (Fl.csV (f j).a (f j).b (f j).p (f j).q) (Fl.csE (f j).a (f j).b (f j).p (f j).q) k = g j := by rw [← HG.out]; rfl
      rw [hgj] at HK
      have l1 : (0 : Int) ≤ (j : Int) := by omega
      have l2 : (j : Int) < (n : Int) := by omega
      have H0 := hid h0
      clear c0 c1 c2 c3 h0 hgj hW1 hW2
      generalize (f j).a = a1 at *
      generalize (f j).b = b1 at *
      generalize (f j).p = p1 at *
      generalize (f j).q = q1 at *
      cases hg : g j
      · rw [hg] at HK
        have HS := hid (Fl.anyG_step g j H0.out hg)
        clear hg
        go_wp2_with (go_at_call 98; refine (HK.out _).mono ?_; rintro o w5 ⟨rfl, u5⟩; have U5 := hid (Old.trans (hu.alloc _) u5.old); clear u5)
        go_roundw
        case rel => exact ⟨j + 1, hlt, by go_num, HS.out, U5.out⟩
        case measure => simp [intOf]; omega
      · have HT := hid (Fl.anyG_true g n j hlt hg)
        rw [hg] at HK
        clear hg
        go_wp2_with (go_at_call 98; refine (HK.out _).mono ?_; rintro o w5 ⟨rfl, u5⟩; have U5 := hid (Old.trans (hu.alloc _) u5.old); clear u5)
        go_ret
        exact ⟨ret_b HT.out.symm, U5.out⟩
    · obtain rfl : j = n := by omega
      have H0 := hid h0
      clear h0
      go_wp2
      go_ret
      exact ⟨ret_b H0.out.symm, hu⟩

set_option maxHeartbeats 1000000 in
set_option maxRecDepth 20000 in
theorem same_rows (v1 v2 : Value) (n : Nat) (f : Nat → Sp) (w : World) (h1 : SRow w v1 n f) (h2 : SRow w v2 n f) :
    Calls Tryz.prog 42 #[v1, v2] w fun e w' => e = .returned (.bool true) ∧ Old w w' := by
  obtain ⟨hm, a, c, rfl, hc⟩ := h1
  obtain ⟨_, a', c', rfl, hc'⟩ := h2
  have HC := hid hc
  have HC' := hid hc'
  clear hc hc'
  go_enter Tryz.func42, Tryz.ntmps42
  go_wp2
  go_loopw [5] (fun i wr => ∃ j : Nat, j ≤ n ∧ i = .int .i64 (j : Nat) ∧ Old w wr) (fun i _ => n - (intOf i).toNat)
  case atStart => exact ⟨0, Nat.zero_le _, rfl, Old.refl _⟩
  case round =>
    obtain ⟨j, hj, rfl, hu⟩ := hrel
    by_cases hlt : j < n
    · obtain ⟨b, off, ha, _, _, c0, c1, c2, c3⟩ := HC.out j hlt
      obtain ⟨b', off', ha', _, _, d0, d1, d2, d3⟩ := HC'.out j hlt
      subst ha ha'
      have x0 := hu.keep c0
      have x1 := hu.keep c1
      have x2 := hu.keep c2
      have x3 := hu.keep c3
      have y0 := hu.keep d0
      have y1 := hu.keep d1
      have y2 := hu.keep d2
      have y3 := hu.keep d3
      have HK0 := fun W => sameSpan_any (f j).a (f j).b (f j).a (f j).b (f j).p (f j).q (f j).p (f j).q W
      have e1 : ((f j).p == (f j).p && (f j).q == (f j).q && (decide ((f j).a = (f j).a) && decide ((f j).b = (f j).b))) = true := by simp
      rw [e1] at HK0
      have HK := hid HK0
      have l1 : (0 : Int) ≤ (j : Int) := by omega
      have l2 : (j : Int) < (n : Int) := by omega
      clear c0 c1 c2 c3 d0 d1 d2 d3 HK0 e1
      generalize (f j).a = a1 at *
      generalize (f j).b = b1 at *
      generalize (f j).p = p1 at *
      generalize (f j).q = q1 at *
      have hX : X8 b (off + j * 4) b' (off' + j * 4) a1 b1 p1 q1 wr := ⟨⟨x0, x1, x2, x3⟩, ⟨y0, y1, y2, y3⟩⟩
      go_wp2_with fail
      go_region_held3 (X8 b (off + j * 4) b' (off' + j * 4) a1 b1 p1 q1) (first | assumption | exact hX | (refine X8.old ?_ hX; assumption)) (first | (go_at_call 70; refine (HK.out _).mono ?_; rintro o w5 ⟨rfl, u5⟩; have U5 : Old wr w5 := ((Old.refl _).drew).trans u5.old))
      all_goals go_wp2
      go_roundw
      case rel => exact ⟨j + 1, hlt, by go_num, Old.trans hu U5⟩
      case measure => simp [intOf]; omega
    · obtain rfl : j = n := by omega
      go_wp2
      go_ret
      exact ⟨rfl, hu⟩

theorem map_snoc (L : List (Nat × Nat)) (k : Nat) (h : k < L.length) : (L.take (k + 1)).map Fl.spo = (L.take k).map Fl.spo ++ [Fl.spo L[k]] := by
  rw [List.take_succ_eq_append_getElem h, List.map_append]; rfl
set_option maxHeartbeats 1000000 in
set_option maxRecDepth 20000 in
theorem spans_any (v : Value) (base : Nat) (L : List (Nat × Nat)) (w : World) (hown : OwnG base w v L) (hR : ∀ r ∈ L, Fl.RV r) (hl : L.length ≤ 5864062014805) :
    Calls Tryz.prog 43 #[v] w fun e w' => ∃ v', e = .returned v' ∧ OwnS w.heap.size w' v' (L.map Fl.spo) ∧ Old w w' := by
  have hsh : 0 < L.length → ∃ g cap, v = .slice (some ⟨g, 0, none⟩) L.length cap ∧ ∀ i (hi : i < L.length), RgIn w g (i * 2) L[i] := fun h => by
    obtain ⟨g, cap, e, _, _, r⟩ := hown.shape h; exact ⟨g, cap, e, r⟩
  obtain ⟨a, c, rfl⟩ := hown.len
  have HS := hid hsh
  clear hsh hown
  go_enter Tryz.func43, Tryz.ntmps43
  go_wp2
  go_loopw [3, 4] (fun o i wr => ∃ k : Nat, k ≤ L.length ∧ i = .int .i64 (k : Nat) ∧ OwnS w.heap.size wr o ((L.take k).map Fl.spo) ∧ Old w wr) (fun _ i _ => L.length - (intOf i).toNat)
  case atStart => exact ⟨0, Nat.zero_le _, rfl, OwnS.empty (Nat.le_refl _) rfl, (Old.refl w).alloc _⟩
  case round =>
    obtain ⟨k, hk, rfl, ho, hu⟩ := hrel
    have HO := hid ho
    have HU := hid hu
    clear ho hu
    by_cases hlt : k < L.length
    · obtain ⟨g, cap, he, hr⟩ := HS.out (by omega)
      obtain ⟨rfl, rfl⟩ : a = some ⟨g, 0, none⟩ ∧ c = cap := by cases he; exact ⟨rfl, rfl⟩
      have hrv := hR L[k] (List.getElem_mem hlt)
      obtain ⟨x0, x1⟩ := (hr k hlt).old HU.out
      have HK := hid (fun W => rSpan_some L[k].1 L[k].2 (Fl.V_isCode hrv.1).2.2 (Fl.V_isCode hrv.2.1).2.2 (by have := hrv.2.2; omega) W)
      have l1 : (0 : Int) ≤ (k : Int) := by omega
      have l2 : (k : Int) < (L.length : Int) := by omega
      have HM := hid (map_snoc L k hlt)
      have hlk : (List.map Fl.spo (L.take k)).length = k := by simp; omega
      have hsp : Fl.spo L[k] = ⟨Fl.of L[k].1, Fl.of L[k].2, false, false⟩ := rfl
      have HSP := hid hsp
      clear hsp hr he HS
      generalize Fl.of L[k].1 = u at *
      generalize Fl.of L[k].2 = v at *
      go_wp2_with (first | (go_at_call 71; refine (HK.out _).mono ?_; rintro o w5 ⟨rfl, u5⟩; have U5 := hid u5.old; clear u5) | (at_builtin; refine wp_appS rfl (.tmp 12) (.tmp 18) rfl w.heap.size _ (List.map Fl.spo (L.take k)) [⟨u, v, false, false⟩] _ 0 1 rfl rfl (OwnS.old HO.out (U5.out.alloc _)) (spIn_new _ ⟨u, v, false, false⟩ _ rfl) (by rw [hlk]; simp; omega) (by have := HU.out.size; have := U5.out.size; simp; omega) ?_; intro v8 w8 o8 u8; have O8 := hid o8; have V8 := hid (Old.below ((HU.out.trans U5.out).alloc _) u8); clear o8 u8))
      go_roundw
      case rel => exact ⟨k + 1, hlt, by go_num, by rw [HM.out, HSP.out]; exact O8.out, V8.out⟩
      case measure => simp [intOf]; omega
    · obtain rfl : k = L.length := by omega
      have h2 := HO.out
      rw [List.take_length] at h2
      obtain ⟨a', c', rfl⟩ := h2.len
      go_wp2
      go_ret
      exact ⟨_, rfl, h2, HU.out⟩
end Go.Proofs.YtbkbnfgjkefcmaaGreat
