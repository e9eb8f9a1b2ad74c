/- sess: find, highest, outside, and the library's BinarySearchFunc and Compare; rows of items that rise; conditions: the rows lie in memory. -/
import Derived.Test.YtefffjlcfghniaaZm
namespace Go.Proofs.Ytefffjlcfghniaa
open Go.RowKit Go.Lib
set_option linter.unusedVariables false
set_option linter.unusedSimpArgs false
set_option maxRecDepth 20000
/-- Items by rising numbers. -/
def Rise (L : List It) : Prop := L.Pairwise fun x y => x.n < y.n
/-- Where a number is, or would be. -/
def posS (q : Int) : List It → Nat
  | [] => 0
  | x :: t => if x.n < q then posS q t + 1 else 0
def foundB (q : Int) (L : List It) : Bool := decide (posS q L < L.length) && decide ((atI L (posS q L)).n = q)
/-- The highest number, 0 of none. -/
def hiL (L : List It) : Int := if L.length = 0 then 0 else (atI L (L.length - 1)).n
theorem atS_zero (x : It) (t : List It) : atI (x :: t) 0 = x := rfl
theorem atS_succ (x : It) (t : List It) (i : Nat) : atI (x :: t) (i + 1) = atI t i := by simp [atI]
theorem posS_le (q : Int) : ∀ L, posS q L ≤ L.length
  | [] => Nat.le_refl _
  | x :: t => by
    have := posS_le q t
    unfold posS
    split <;> simp <;> omega
theorem posS_lt (q : Int) : ∀ (L : List It) (i : Nat), i < posS q L → (atI L i).n < q
  | [], i, h => by simp [posS] at h
  | x :: t, i, h => by
    unfold posS at h
    split at h
    · rename_i c
      cases i with
      | zero => exact c
      | succ i => rw [atS_succ]; exact posS_lt q t i (by omega)
    · omega
theorem posS_ge (q : Int) : ∀ (L : List It), Rise L → ∀ i, posS q L ≤ i → i < L.length → q ≤ (atI L i).n
  | [], _, i, _, h => by simp at h
  | x :: t, hr, i, h, hi => by
    have hr2 := List.pairwise_cons.1 hr
    unfold posS at h
    split at h
    · cases i with
      | zero => omega
      | succ i => rw [atS_succ]; exact posS_ge q t hr2.2 i (by omega) (by simpa using hi)
    · rename_i c
      cases i with
      | zero => rw [atS_zero]; omega
      | succ i =>
        rw [atS_succ]
        have hi2 : i < t.length := by simpa using hi
        have := hr2.1 (atI t i) (by rw [atI_get t i hi2]; exact List.getElem_mem hi2)
        omega
def cmpI (a b : Int) : Int := if a < b then -1 else if b < a then 1 else 0
set_option maxHeartbeats 400000 in
set_option maxRecDepth 20000 in
theorem isNaN_any (a : Int) (w : World) : Calls Try.prog 61 #[.int .i64 a] w fun e w' => e = .returned (.bool false) ∧ Old w w' := by
  go_enter Try.func61, Try.ntmps61
  go_wp2
  go_ret
  exact ⟨ret_b (by simp), Old.refl _⟩
set_option maxHeartbeats 400000 in
set_option maxRecDepth 20000 in
theorem compare_any (a b : Int) (w : World) : Calls Try.prog 47 #[.int .i64 a, .int .i64 b] w fun e w' => e = .returned (.int .i64 (cmpI a b)) ∧ Old w w' := by
  have HC : Hid (cmpI a b = if a < b then -1 else if b < a then 1 else 0) := hid rfl
  generalize cmpI a b = r at *
  by_cases h1 : a < b
  · rw [if_pos h1] at HC
    go_enter Try.func47, Try.ntmps47
    go_wp2_with (first | (go_at_call_of 61 (Value.int .i64 a); refine (isNaN_any a _).mono ?_; rintro e w1 ⟨rfl, u1⟩; have U1 := hid u1; clear u1) | (go_at_call 61; refine (isNaN_any b _).mono ?_; rintro e w2 ⟨rfl, u2⟩; have U2 := hid (U1.out.trans u2); clear u2))
    go_ret
    exact ⟨by rw [HC.out]; rfl, U2.out⟩
  · rw [if_neg h1] at HC
    by_cases h2 : b < a
    · rw [if_pos h2] at HC
      go_enter Try.func47, Try.ntmps47
      go_wp2_with (first | (go_at_call_of 61 (Value.int .i64 a); refine (isNaN_any a _).mono ?_; rintro e w1 ⟨rfl, u1⟩; have U1 := hid u1; clear u1) | (go_at_call 61; refine (isNaN_any b _).mono ?_; rintro e w2 ⟨rfl, u2⟩; have U2 := hid (U1.out.trans u2); clear u2))
      go_ret
      exact ⟨by rw [HC.out]; rfl, U2.out⟩
    · rw [if_neg h2] at HC
      have h3 : a = b := by omega
      subst h3
      have tok1 : True := trivial
      go_enter Try.func47, Try.ntmps47
      go_wp2_with (first | (go_at_call 61; have _t := tok1; clear tok1 _t; refine (isNaN_any a _).mono ?_; rintro e w1 ⟨rfl, u1⟩; have U1 := hid u1; clear u1) | (go_at_call 61; refine (isNaN_any a _).mono ?_; rintro e w2 ⟨rfl, u2⟩; have U2 := hid (U1.out.trans u2); clear u2))
      go_ret
      exact ⟨by rw [HC.out]; rfl, U2.out⟩
set_option maxHeartbeats 400000 in
set_option maxRecDepth 20000 in
theorem find1_any (x : It) (q : Int) (w : World) : Calls Try.prog 46 #[.agg #[.int .i64 x.n, .int .i64 x.c, .int .i64 x.m], .int .i64 q] w fun e w' => e = .returned (.int .i64 (cmpI x.n q)) ∧ Old w w' := by
  have HC := hid (fun W => compare_any x.n q W)
  generalize cmpI x.n q = r at *
  go_enter Try.func46, Try.ntmps46
  go_wp2_with (go_at_call 47; refine (HC.out _).mono ?_; rintro e w2 ⟨rfl, u2⟩; have U2 := hid (((Old.refl w).alloc _).trans u2); clear u2)
  go_ret
  exact ⟨rfl, U2.out⟩
set_option maxHeartbeats 2000000 in
set_option maxRecDepth 20000 in
theorem search_any (base : Nat) (v : Value) (L : List It) (q : Int) (w : World) (hL : L.length ≤ 1000) (hr : Rise L) (hown : Own base w v L) :
    Calls Try.prog 45 #[v, .int .i64 q, .func (.func 46) #[] #[]] w fun e w' => e = .returned (.tuple #[.int .i64 (posS q L : Nat), .bool (foundB q L)]) ∧ Old w w' := by
  have HF := hid (fun (x : It) (W : World) => find1_any x q W)
  have HP1 := hid (posS_lt q L)
  have HP2 := hid (posS_ge q L hr)
  have HPl := hid (posS_le q L)
  have HFo : Hid (foundB q L = (decide (posS q L < L.length) && decide ((atI L (posS q L)).n = q))) := hid rfl
  have HS := hid (fun (h : 0 < L.length) => hown.shape h)
  obtain ⟨a, c, rfl⟩ := hown.len
  generalize foundB q L = fo at *
  generalize posS q L = p at *
  clear hown hr
  generalize hN : L.length = N at *
  have HN := hid hN
  have lN : (N : Int) ≤ 1000 := by omega
  clear hN
  go_enter Try.func45, Try.ntmps45
  go_wp2
  go_loopw [9, 10] (fun i j wr => ∃ s t : Nat, i = .int .i64 (s : Nat) ∧ j = .int .i64 (t : Nat) ∧ s ≤ p ∧ p ≤ t ∧ t ≤ N ∧ Old w wr) (fun i j _ => (intOf j).toNat - (intOf i).toNat)
  case atStart => exact ⟨0, N, rfl, rfl, Nat.zero_le _, HPl.out, Nat.le_refl _, Old.refl _⟩
  case round =>
    obtain ⟨s, t, rfl, rfl, hs, ht, htn, hu⟩ := hrel
    have HU := hid hu
    have HA := hid hs
    have HB := hid ht
    clear hs ht
    by_cases hlt : s < t
    · obtain ⟨h, hh, q1, q2⟩ : ∃ h : Nat, ((s : Int) + (t : Int)) / 2 = ((h : Nat) : Int) ∧ s ≤ h ∧ h < t := ⟨(s + t) / 2, by omega, by omega, by omega⟩
      have l1 : (s : Int) < (t : Int) := by omega
      obtain ⟨g, cap, e, _, _, hc, _⟩ := HS.out (by omega)
      cases e
      obtain ⟨x0, x1, x2⟩ := (hc h (by have := HN.out; omega)).old hu
      have l2 : (0 : Int) ≤ (h : Int) := by omega
      have l3 : (h : Int) < (N : Int) := by omega
      have HQ1 := hid q1
      have HQ2 := hid q2
      have hb3 : h < 1000 := by omega
      have HK := hid (HF.out (atI L h))
      have HX1 := hid (HP1.out h)
      have HX2 := hid (HP2.out h)
      clear q1 q2 hc hu HS HF
      generalize atI L h = x at *
      by_cases hcm : x.n < q
      · have hcc : cmpI x.n q = -1 := by unfold cmpI; rw [if_pos hcm]
        rw [hcc] at HK
        have HNx := hid (show h < p from Classical.byContradiction fun e => by have := HX2.out (by omega) (by omega); omega)
        clear hcc
        go_wp2_with (go_at_call 46; refine (HK.out _).mono ?_; rintro e w5 ⟨rfl, u5⟩; have U5 := hid (HU.out.trans u5); clear u5)
        go_roundw
        case rel => exact ⟨h + 1, t, by go_num, rfl, HNx.out, HB.out, htn, U5.out⟩
        case measure => simp [intOf]; have := HQ1.out; have := HQ2.out; omega
      · have HNx := hid (show p ≤ h from Classical.byContradiction fun e => hcm (HX1.out (by omega)))
        obtain ⟨r, hr, hr0⟩ : ∃ r : Int, cmpI x.n q = r ∧ ¬ r < 0 := ⟨_, rfl, by unfold cmpI; rw [if_neg hcm]; split <;> omega⟩
        rw [hr] at HK
        clear hr hcm
        go_wp2_with (go_at_call 46; refine (HK.out _).mono ?_; rintro e w5 ⟨rfl, u5⟩; have U5 := hid (HU.out.trans u5); clear u5)
        go_roundw
        case rel => exact ⟨s, h, rfl, rfl, HA.out, HNx.out, by have := HQ2.out; omega, U5.out⟩
        case measure => simp [intOf]; have := HQ1.out; have := HQ2.out; omega
    · obtain rfl : s = t := by have := HA.out; have := HB.out; omega
      obtain rfl : p = s := by have := HA.out; have := HB.out; omega
      clear HA HB HP1 HP2 HPl
      by_cases hpn : p < N
      · obtain ⟨g, cap, e, _, _, hc, _⟩ := HS.out (by omega)
        cases e
        obtain ⟨x0, x1, x2⟩ := (hc p (by have := HN.out; omega)).old hu
        have l2 : (0 : Int) ≤ (p : Int) := by omega
        have l3 : (p : Int) < (N : Int) := by omega
        have HK := hid (HF.out (atI L p))
        rw [decide_eq_true hpn, Bool.true_and] at HFo
        clear hc hu HS HF
        generalize atI L p = x at *
        by_cases hq : x.n = q
        · have hcc : cmpI x.n q = 0 := by unfold cmpI; rw [if_neg (by omega), if_neg (by omega)]
          rw [hcc] at HK
          rw [decide_eq_true hq] at HFo
          clear hcc hq
          go_wp2_with (go_at_call 46; refine (HK.out _).mono ?_; rintro e w5 ⟨rfl, u5⟩; have U5 := hid (HU.out.trans u5); clear u5)
          exact bodyPost_ret (v := .tuple #[.int .i64 (p : Nat), .bool true]) (by simp [results, Try.results45, go_sem]) rfl ⟨by rw [HFo.out], U5.out⟩
        · obtain ⟨r, hr, hr0⟩ : ∃ r : Int, cmpI x.n q = r ∧ ¬ r = 0 := ⟨_, rfl, by unfold cmpI; split; omega; split <;> omega⟩
          rw [hr] at HK
          rw [decide_eq_false hq] at HFo
          have hr1 : (r == 0) = false := by rw [beq_eq_false_iff_ne]; exact hr0
          clear hr hq
          go_wp2_with (go_at_call 46; refine (HK.out _).mono ?_; rintro e w5 ⟨rfl, u5⟩; have U5 := hid (HU.out.trans u5); clear u5)
          exact bodyPost_ret (v := .tuple #[.int .i64 (p : Nat), .bool false]) (by simp [results, Try.results45, go_sem]) rfl ⟨by rw [HFo.out], U5.out⟩
      · have l3 : ¬ (p : Int) < (N : Int) := by omega
        rw [decide_eq_false hpn, Bool.false_and] at HFo
        clear HS HF
        go_wp2
        exact bodyPost_ret (v := .tuple #[.int .i64 (p : Nat), .bool false]) (by simp [results, Try.results45, go_sem]) rfl ⟨by rw [HFo.out], HU.out⟩
set_option maxHeartbeats 1000000 in
set_option maxRecDepth 20000 in
theorem find_any (base : Nat) (v : Value) (L : List It) (q : Int) (w : World) (hL : L.length ≤ 1000) (hr : Rise L) (hown : Own base w v L) :
    Calls Try.prog 25 #[v, .int .i64 q] w fun e w' => e = .returned (.tuple #[.int .i64 (posS q L : Nat), .bool (foundB q L)]) ∧ Old w w' := by
  have HS := hid (search_any base v L q w hL hr hown)
  generalize foundB q L = fo at *
  generalize posS q L = p at *
  clear hL hr hown
  go_enter Try.func25, Try.ntmps25
  go_wp2_with (go_at_call 45; refine HS.out.mono ?_; rintro e w5 ⟨rfl, u5⟩; have U5 := hid u5; clear u5)
  go_ret2
  exact ⟨rfl, U5.out⟩
set_option maxHeartbeats 1000000 in
set_option maxRecDepth 20000 in
theorem highest_any (base : Nat) (v : Value) (L : List It) (w : World) (hL : L.length ≤ 1000) (hown : Own base w v L) :
    Calls Try.prog 27 #[v] w fun e w' => e = .returned (.int .i64 (hiL L)) ∧ Old w w' := by
  have HH : Hid (hiL L = if L.length = 0 then 0 else (atI L (L.length - 1)).n) := hid rfl
  have HS := hid (fun (h : 0 < L.length) => hown.shape h)
  obtain ⟨a, c, rfl⟩ := hown.len
  generalize hiL L = r at *
  clear hown
  by_cases hz : L.length = 0
  · rw [if_pos hz] at HH
    rw [hz]
    clear HS hz hL
    go_enter Try.func27, Try.ntmps27
    go_wp2
    go_ret
    exact ⟨by rw [HH.out]; rfl, Old.refl _⟩
  · rw [if_neg hz] at HH
    obtain ⟨g, cap, e, _, _, hc, _⟩ := HS.out (by omega)
    cases e
    obtain ⟨x0, x1, x2⟩ := hc (L.length - 1) (by omega)
    obtain ⟨k, hk⟩ : ∃ k, L.length = k + 1 := ⟨L.length - 1, by omega⟩
    rw [hk] at HH x0 x1 x2 ⊢
    simp only [Nat.add_sub_cancel] at HH x0 x1 x2
    have l1 : (0 : Int) ≤ (k : Int) := by omega
    have l2 : (k : Int) < (k : Int) + 1 := by omega
    have l3 : IntKind.i64.wrap (k : Int) = (k : Int) := IntWalk.i64_in _ (by omega)
    clear hc HS hz hk
    generalize atI L k = x at *
    go_enter Try.func27, Try.ntmps27
    go_wp2
    go_ret
    exact ⟨by rw [HH.out]; rfl, Old.refl _⟩
def outB (n l m : Int) : Bool := decide (n < l) || decide (m < n)
set_option maxHeartbeats 400000 in
set_option maxRecDepth 20000 in
theorem outside_any (n l m : Int) (w : World) : Calls Try.prog 24 #[.int .i64 n, .int .i64 l, .int .i64 m] w fun e w' => e = .returned (.bool (outB n l m)) ∧ Old w w' := by
  have HO : Hid (outB n l m = (decide (n < l) || decide (m < n))) := hid rfl
  generalize outB n l m = r at *
  by_cases h1 : n < l
  · rw [decide_eq_true h1, Bool.true_or] at HO
    go_enter Try.func24, Try.ntmps24
    go_wp2
    go_ret
    exact ⟨ret_b (by rw [HO.out]), Old.refl _⟩
  · rw [decide_eq_false h1, Bool.false_or] at HO
    go_enter Try.func24, Try.ntmps24
    go_wp2
    go_ret
    exact ⟨ret_b (by rw [HO.out]), Old.refl _⟩
end Go.Proofs.Ytefffjlcfghniaa
