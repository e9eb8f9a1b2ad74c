/- The document's Middle at every row; it is the program's; conditions: the row lies in memory. -/
import Derived.Test.YtafjfmfkeaenhaaK3
namespace Go.Proofs.Ytafjfmfkeaenhaa
open Go.RowKit Go.Lib
set_option linter.unusedVariables false
set_option linter.unusedSimpArgs false
set_option maxRecDepth 20000
/-- How many have reached a number. -/
def cntK (X : Nat → Int) (x : Int) : Nat → Nat | 0 => 0 | k + 1 => if x ≤ X k then cntK X x k + 1 else cntK X x k
theorem cntK_le (X : Nat → Int) (x : Int) : ∀ k, cntK X x k ≤ k
  | 0 => Nat.le_refl _
  | k + 1 => by have := cntK_le X x k; unfold cntK; split <;> omega
theorem cntK_count (X : Nat → Int) (x : Int) : ∀ k, cntK X x k = (lsI X k).countP (fun y => decide (x ≤ y))
  | 0 => rfl
  | k + 1 => by
    unfold cntK lsI
    rw [List.countP_append, ← cntK_count X x k, List.countP_singleton]
    by_cases h : x ≤ X k
    · rw [if_pos h, decide_eq_true h]; rfl
    · rw [if_neg h, decide_eq_false h]; rfl
/-- The document's greatest, number by number. -/
def gdB (X : Nat → Int) (n i : Nat) : Bool := decide ((n : Int) < 2 * (cntK X (X i) n : Nat))
def rst (X : Nat → Int) (n : Nat) : Nat → Bool × Int | 0 => (false, 0) | i + 1 => if gdB X n i && (!(rst X n i).1 || decide ((rst X n i).2 < X i)) then (true, X i) else rst X n i
theorem rst_inv (X : Nat → Int) (n : Nat) : ∀ i, ((rst X n i).1 = true → ∃ j, j < i ∧ (rst X n i).2 = X j ∧ gdB X n j = true) ∧ (∀ j, j < i → gdB X n j = true → (rst X n i).1 = true ∧ X j ≤ (rst X n i).2) ∧ ((rst X n i).1 = false → (rst X n i).2 = 0)
  | 0 => ⟨(fun h => by cases h), (fun j hj => by omega), fun _ => rfl⟩
  | i + 1 => by
    obtain ⟨h1, h2, h3⟩ := rst_inv X n i
    unfold rst
    by_cases hc : (gdB X n i && (!(rst X n i).1 || decide ((rst X n i).2 < X i))) = true
    · rw [if_pos hc]
      simp only [Bool.and_eq_true, Bool.or_eq_true, Bool.not_eq_true', decide_eq_true_eq] at hc
      refine ⟨fun _ => ⟨i, by omega, rfl, hc.1⟩, fun j hj hg => ⟨rfl, ?_⟩, fun h => by cases h⟩
      show X j ≤ X i
      by_cases e : j = i
      · rw [e]; exact Int.le_refl _
      · obtain ⟨a, b⟩ := h2 j (by omega) hg
        rcases hc.2 with q | q
        · rw [q] at a; cases a
        · omega
    · rw [if_neg hc]
      simp only [Bool.and_eq_true, Bool.or_eq_true, Bool.not_eq_true', decide_eq_true_eq] at hc
      refine ⟨fun h => by obtain ⟨j, a, b⟩ := h1 h; exact ⟨j, by omega, b⟩, fun j hj hg => ?_, h3⟩
      by_cases e : j = i
      · subst e
        cases hb : (rst X n j).1 with
        | false => exact absurd ⟨hg, Or.inl hb⟩ hc
        | true => exact ⟨rfl, by by_cases q : (rst X n j).2 < X j; exact absurd ⟨hg, Or.inr q⟩ hc; omega⟩
      · exact h2 j (by omega) hg
theorem lsI_mem (X : Nat → Int) : ∀ n x, x ∈ lsI X n ↔ ∃ j, j < n ∧ x = X j
  | 0, x => ⟨(fun h => by cases h), (fun ⟨j, h, _⟩ => by omega)⟩
  | n + 1, x => by
    unfold lsI
    rw [List.mem_append, lsI_mem X n x, List.mem_singleton]
    constructor
    · rintro (⟨j, a, b⟩ | h)
      · exact ⟨j, by omega, b⟩
      · exact ⟨n, by omega, h⟩
    · rintro ⟨j, a, b⟩
      by_cases e : j = n
      · right; rw [b, e]
      · left; exact ⟨j, by omega, b⟩
theorem pw_get {s : List Int} (h : s.Pairwise (· ≤ ·)) {i j : Nat} (hi : i ≤ j) (hj : j < s.length) : s[i]'(by omega) ≤ s[j] := by
  by_cases e : i = j
  · subst e; exact Int.le_refl _
  · exact List.pairwise_iff_getElem.1 h i j (by omega) hj (by omega)
theorem split_count (p : Int → Bool) (s : List Int) (k : Nat) : s.countP p = (s.take k).countP p + (s.drop k).countP p := by rw [← List.countP_append, List.take_append_drop]
/-- At least so many have reached what stands at a place of the sorted row. -/
theorem count_ge {s : List Int} (h : s.Pairwise (· ≤ ·)) (k : Nat) (hk : k < s.length) : s.length - k ≤ s.countP (fun y => decide (s[k] ≤ y)) := by
  have q : (s.drop k).countP (fun y => decide (s[k] ≤ y)) = (s.drop k).length := List.countP_eq_length.2 fun y hy => by
    obtain ⟨i, hi, e⟩ := List.mem_iff_getElem.1 hy
    rw [List.getElem_drop] at e
    simp at hi
    rw [← e]; simp; exact pw_get h (by omega) (by omega)
  have r := split_count (fun y => decide (s[k] ≤ y)) s k
  rw [r, q, List.length_drop]
  omega
theorem count_lt {s : List Int} (h : s.Pairwise (· ≤ ·)) (k : Nat) (hk : k < s.length) (x : Int) (hx : s[k] < x) : s.countP (fun y => decide (x ≤ y)) ≤ s.length - (k + 1) := by
  have q : (s.take (k + 1)).countP (fun y => decide (x ≤ y)) = 0 := List.countP_eq_zero.2 fun y hy => by
    obtain ⟨i, hi, e⟩ := List.mem_iff_getElem.1 hy
    rw [List.getElem_take] at e
    simp at hi
    have := pw_get h (i := i) (j := k) (by omega) hk
    rw [← e]; simp; omega
  have r := split_count (fun y => decide (x ≤ y)) s (k + 1)
  have t := List.countP_le_length (p := fun y => decide (x ≤ y)) (l := s.drop (k + 1))
  rw [r, q, List.length_drop] at *
  omega
/-- The document's is the program's. -/
theorem rst_mid (X : Nat → Int) (n : Nat) : (rst X n n).2 = midL (lsI X n) := by
  by_cases hz : n = 0
  · subst hz; simp [midL, srt, rst, lsI]
  · have hl : (srt (lsI X n)).length = n := by rw [srt_len, lsI_len]
    have hk : (n - 1) / 2 < (srt (lsI X n)).length := by omega
    have hm : midL (lsI X n) = (srt (lsI X n))[(n - 1) / 2] := by
      unfold midL; rw [lsI_len, List.getD_eq_getElem?_getD, List.getElem?_eq_getElem hk]; rfl
    have hp := srt_perm (lsI X n)
    obtain ⟨j, hj, ej⟩ := (lsI_mem X n _).1 (hp.mem_iff.1 (List.getElem_mem hk))
    obtain ⟨i1, i2, i3⟩ := rst_inv X n n
    have gj : gdB X n j = true := by
      unfold gdB
      have q := count_ge (srt_pw (lsI X n)) _ hk
      rw [hl, hp.countP_eq, ← cntK_count, ej] at q
      simp; omega
    obtain ⟨a, b⟩ := i2 j hj gj
    obtain ⟨i, hi, ei, gi⟩ := i1 a
    rw [hm]
    have c : ¬ (srt (lsI X n))[(n - 1) / 2] < X i := fun c => by
      have q := count_lt (srt_pw (lsI X n)) _ hk (X i) c
      rw [hl, hp.countP_eq, ← cntK_count] at q
      unfold gdB at gi
      simp at gi; omega
    rw [← ej] at b
    omega
set_option maxHeartbeats 4000000 in
set_option maxRecDepth 20000 in
theorem rMiddle_any (v : Value) (n : Nat) (X : Nat → Int) (w : World) (h : NRowL w v n X) :
    Calls Try.prog 8 #[v] w fun e w' => e = .returned (.int .i64 (rst X n n).2) ∧ Old w w' := by
  obtain ⟨hn, p, c, rfl, hnc, hcm, hc⟩ := h
  have HC := hid hc
  clear hc
  have hmm : (n : Int) ≤ 17592186044000 := by omega
  go_enter Try.func8, Try.ntmps8
  go_wp2
  go_loopw [3, 4, 5] (fun b fd i wx => ∃ t : Nat, t ≤ n ∧ i = .int .i64 t ∧ b = .int .i64 (rst X n t).2 ∧ fd = .bool (rst X n t).1 ∧ Old w wx) (fun _ _ i _ => n - (intOf i).toNat)
  case atStart => exact ⟨0, Nat.zero_le _, rfl, rfl, rfl, Old.refl _⟩
  case round =>
    obtain ⟨t, ht, rfl, rfl, rfl, hu⟩ := hrel
    by_cases hlt : t < n
    · obtain ⟨gb, go, e1, ct0⟩ := HC.out t hlt
      subst e1
      have ct1 := hu.keep ct0
      clear ct0
      have HR : Hid (rst X n (t + 1) = if gdB X n t && (!(rst X n t).1 || decide ((rst X n t).2 < X t)) then (true, X t) else rst X n t) := hid rfl
      have HG : Hid (gdB X n t = decide ((n : Int) < 2 * (cntK X (X t) n : Nat))) := hid rfl
      generalize rst X n t = R at *
      obtain ⟨fd, best⟩ := R
      dsimp only at *
      have l1 : (0 : Int) ≤ (t : Int) := by omega
      have l2 : (t : Int) < (n : Int) := by omega
      generalize hx : X t = x at *
      have CT := hid ct1
      clear ct1
      go_wp2
      go_loopw [6, 7] (fun a b wx => ∃ s : Nat, s ≤ n ∧ b = .int .i64 s ∧ a = .int .i64 (cntK X x s : Nat) ∧ Old w wx ∧ wx.cell? ⟨gb, go + t, none⟩ = some (.int .i64 x)) (fun _ b _ => n - (intOf b).toNat)
      case atStart => exact ⟨0, Nat.zero_le _, rfl, rfl, hu, CT.out⟩
      case round =>
        obtain ⟨s, hs, rfl, rfl, hv, ct⟩ := hrel
        by_cases hls : s < n
        · obtain ⟨gb', go', e2, cs0⟩ := HC.out s hls
          cases e2
          have cs1 := hv.keep cs0
          clear cs0
          have hcl := cntK_le X x s
          have HCN : Hid (cntK X x (s + 1) = if x ≤ X s then cntK X x s + 1 else cntK X x s) := hid rfl
          generalize X s = y at *
          generalize cntK X x s = q at *
          have m1 : (0 : Int) ≤ (s : Int) := by omega
          have m2 : (s : Int) < (n : Int) := by omega
          have hq0 : (q : Int) ≤ 17592186044000 := by omega
          go_wp2
          go_quiet (fail)
          by_cases hyx : x ≤ y
          · have d1 : decide (x ≤ y) = true := decide_eq_true hyx
            have HCZ := hid (HCN.out.trans (if_pos hyx))
            go_wp2
            exact ⟨⟨s + 1, hls, by go_num, by rw [HCZ.out]; go_num, hv.drewN _, (Old.refl _).drewN _ |>.keep ct⟩, by simp [intOf]; omega⟩
          · have d1 : decide (x ≤ y) = false := decide_eq_false hyx
            have HCZ := hid (HCN.out.trans (if_neg hyx))
            go_wp2
            exact ⟨⟨s + 1, hls, by go_num, by rw [HCZ.out], hv.drewN _, (Old.refl _).drewN _ |>.keep ct⟩, by simp [intOf]; omega⟩
        · obtain rfl : n = s := by omega
          have hcl := cntK_le X x n
          generalize cntK X x n = q at *
          have hq0 : (q : Int) ≤ 17592186044000 := by omega
          rw [HG.out] at HR
          clear HG
          by_cases g1 : (n : Int) < 2 * (q : Int)
          · have g2 : decide ((n : Int) < 2 * (q : Int)) = true := decide_eq_true g1
            rw [g2] at HR
            cases fd with
            | false =>
              have HZ : Hid (rst X n (t + 1) = (true, x)) := HR
              clear HR
              go_wp2
              exact ⟨⟨t + 1, hlt, by go_num, by rw [HZ.out], by rw [HZ.out], hv⟩, by simp [intOf]; omega⟩
            | true =>
              by_cases g3 : best < x
              · have g4 : decide (best < x) = true := decide_eq_true g3
                rw [g4] at HR
                have HZ : Hid (rst X n (t + 1) = (true, x)) := HR
                clear HR
                go_wp2
                exact ⟨⟨t + 1, hlt, by go_num, by rw [HZ.out], by rw [HZ.out], hv⟩, by simp [intOf]; omega⟩
              · have g4 : decide (best < x) = false := decide_eq_false g3
                rw [g4] at HR
                have HZ : Hid (rst X n (t + 1) = (true, best)) := HR
                clear HR
                go_wp2
                exact ⟨⟨t + 1, hlt, by go_num, by rw [HZ.out], by rw [HZ.out], hv⟩, by simp [intOf]; omega⟩
          · have g2 : decide ((n : Int) < 2 * (q : Int)) = false := decide_eq_false g1
            rw [g2] at HR
            have HZ : Hid (rst X n (t + 1) = (fd, best)) := HR
            clear HR
            go_wp2
            exact ⟨⟨t + 1, hlt, by go_num, by rw [HZ.out], by rw [HZ.out], hv⟩, by simp [intOf]; omega⟩
    · obtain rfl : n = t := by omega
      go_wp2
      go_ret
      exact ⟨rfl, hu⟩
end Go.Proofs.Ytafjfmfkeaenhaa
