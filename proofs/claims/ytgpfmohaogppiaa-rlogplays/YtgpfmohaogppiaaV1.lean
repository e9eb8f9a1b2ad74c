/- conf.Right, Voter, Member and what they call, at every configuration; conditions: the rows lie in memory. -/
import Derived.Test.YtgpfmohaogppiaaK0
import Derived.Shelf.Abstract
namespace Go.Proofs.Ytgpfmohaogppiaa
open Go.RowKit Go.Lib
set_option linter.unusedVariables false
set_option linter.unusedSimpArgs false
set_option maxRecDepth 20000
/-- Does one of the first so many hold? -/
def anyK (p : Nat → Bool) : Nat → Bool | 0 => false | k + 1 => anyK p k || p k
theorem anyK_iff (p : Nat → Bool) : ∀ n, anyK p n = true ↔ ∃ i, i < n ∧ p i = true
  | 0 => ⟨(fun h => by cases h), (fun ⟨i, h, _⟩ => by omega)⟩
  | n + 1 => by
    unfold anyK
    rw [Bool.or_eq_true, anyK_iff p n]
    constructor
    · rintro (⟨i, h, q⟩ | q)
      · exact ⟨i, by omega, q⟩
      · exact ⟨n, by omega, q⟩
    · rintro ⟨i, h, q⟩
      by_cases e : i = n
      · right; rw [← e]; exact q
      · left; exact ⟨i, by omega, q⟩
def hasK (f : Nat → Int) (x : Int) (n : Nat) : Bool := anyK (fun i => x == f i) n
theorem anyK_at (p : Nat → Bool) (n k : Nat) (hk : k < n) (h : p k = true) : anyK p n = true := (anyK_iff p n).2 ⟨k, hk, h⟩
/-- Do the first so many rise, and are they members' numbers? -/
def lastK (f : Nat → Int) : Nat → Int | 0 => 0 | k + 1 => f k
def riK (f : Nat → Int) : Nat → Bool | 0 => true | k + 1 => riK f k && (decide (lastK f k < f k) && decide (f k ≤ 7))
theorem riK_stop (f : Nat → Int) (k : Nat) (h : (decide (lastK f k < f k) && decide (f k ≤ 7)) = false) : ∀ n, k < n → riK f n = false
  | 0, hn => by omega
  | n + 1, hn => by
    unfold riK
    by_cases e : k = n
    · rw [← e, h, Bool.and_false]
    · rw [riK_stop f k h n (by omega), Bool.false_and]
def rightB (n : Nat) (f : Nat → Int) (m : Nat) (g : Nat → Int) : Bool := decide (0 < n) && (riK f n && (riK g m && !anyK (fun i => hasK g (f i) m) n))
set_option maxHeartbeats 2000000 in
set_option maxRecDepth 20000 in
theorem index_any (v : Value) (n : Nat) (f : Nat → Int) (x : Int) (w : World) (h : NRowL w v n f) :
    Calls Try.prog 70 #[v, .int .i64 x] w fun e w' => ∃ r : Int, e = .returned (.int .i64 r) ∧ decide (0 ≤ r) = hasK f x n ∧ Old w w' := by
  obtain ⟨hn, p, c, rfl, h1, h2, hc⟩ := h
  have HX := hid hc
  have hmm : (n : Int) ≤ 17592186044000 := by omega
  clear hc
  go_enter Try.func70, Try.ntmps70
  go_wp2
  go_loopw [8] (fun i wx => ∃ k : Nat, k ≤ n ∧ i = .int .i64 k ∧ hasK f x k = false ∧ Old w wx) (fun i _ => n - (intOf i).toNat)
  case atStart => exact ⟨0, Nat.zero_le _, rfl, rfl, Old.refl _⟩
  case round =>
    obtain ⟨k, hk, rfl, hz, hup⟩ := hrel
    by_cases hlt : k < n
    · obtain ⟨b1, o1, e1, cx0⟩ := HX.out k hlt
      subst e1
      have cx := hup.keep cx0
      have l1 : (0 : Int) ≤ (k : Int) := by omega
      have l2 : (k : Int) < (n : Int) := by omega
      have HS : Hid (hasK f x (k + 1) = (hasK f x k || (x == f k))) := hid rfl
      have HA : Hid ((x == f k) = true → hasK f x n = true) := hid (fun q => anyK_at _ n k hlt q)
      generalize f k = y at *
      clear cx0
      by_cases hxy : x = y
      · have t : (x == y) = true := by simp [hxy]
        have HT := hid (HA.out t)
        clear HA HS hxy hz
        go_wp2
        go_ret
        exact ⟨_, rfl, by rw [HT.out]; simp, hup⟩
      · have t : (x == y) = false := by simp [hxy]
        rw [t, hz] at HS
        clear HA
        go_wp2
        exact ⟨⟨k + 1, hlt, by go_num, HS.out, hup⟩, by simp [intOf]; omega⟩
    · obtain rfl : n = k := by omega
      have HZ := hid hz
      clear hz
      go_wp2
      go_ret
      exact ⟨_, rfl, by rw [HZ.out]; decide, hup⟩
set_option maxHeartbeats 1000000 in
set_option maxRecDepth 20000 in
theorem contains_any (v : Value) (n : Nat) (f : Nat → Int) (x : Int) (w : World) (h : NRowL w v n f) :
    Calls Try.prog 65 #[v, .int .i64 x] w fun e w' => e = .returned (.bool (hasK f x n)) ∧ Old w w' := by
  have HI := hid (index_any v n f x w h)
  obtain ⟨_, p, c, rfl, _⟩ := h
  go_enter Try.func65, Try.ntmps65
  go_wp2_with (go_at_call 70; refine HI.out.mono ?_; rintro e w1 ⟨r, rfl, hr, o1⟩; have O1 := hid o1; have HR := hid hr; clear o1 hr)
  go_ret
  exact ⟨by rw [← HR.out]; rfl, O1.out⟩
set_option maxHeartbeats 2000000 in
set_option maxRecDepth 20000 in
theorem indexFn_any (F : FuncId) (caps : Array Value) (q : Nat → Bool) (henter : ∀ args w, (callFunc F args).run Try.prog w = .ok (.enter F args) w) (v : Value) (n : Nat) (f : Nat → Int) (w : World) (h : NRowL w v n f)
    (hat : ∀ (W : World), Old w W → ∀ i, i < n → Calls Try.prog F (#[.int .i64 (f i)] ++ caps) W fun e w' => e = .returned (.bool (q i)) ∧ Old W w') :
    Calls Try.prog 71 #[v, .func (.func F) #[] caps] w fun e w' => ∃ r : Int, e = .returned (.int .i64 r) ∧ ((r = -1 ∧ anyK q n = false) ∨ ∃ k : Nat, r = (k : Int) ∧ k < n ∧ q k = true ∧ anyK q k = false) ∧ Old w w' := by
  obtain ⟨hn, p, c, rfl, h1, h2, hc⟩ := h
  have HX := hid hc
  have HAt := hid hat
  have hmm : (n : Int) ≤ 17592186044000 := by omega
  clear hc hat
  go_enter Try.func71, Try.ntmps71
  go_wp2
  go_loopw [8] (fun i wx => ∃ k : Nat, k ≤ n ∧ i = .int .i64 k ∧ anyK q k = false ∧ Old w wx) (fun i _ => n - (intOf i).toNat)
  case atStart => exact ⟨0, Nat.zero_le _, rfl, rfl, Old.refl _⟩
  case round =>
    obtain ⟨k, hk, rfl, hz, hup⟩ := hrel
    have HZ := hid hz
    have HU := hid hup
    clear hz hup
    by_cases hlt : k < n
    · obtain ⟨b1, o1, e1, cx0⟩ := HX.out k hlt
      subst e1
      have cx := HU.out.keep cx0
      have l1 : (0 : Int) ≤ (k : Int) := by omega
      have l2 : (k : Int) < (n : Int) := by omega
      have HS : Hid (anyK q (k + 1) = (anyK q k || q k)) := hid rfl
      clear cx0
      go_wp2_with (fail)
      refine (HAt.out _ HU.out k hlt).mono ?_
      rintro e w2 ⟨rfl, o2⟩
      have O2 := hid (HU.out.trans o2)
      clear o2 cx
      cases hq : q k with
      | true =>
        have HQ := hid hq
        clear hq
        go_wp2
        go_ret
        exact ⟨_, rfl, .inr ⟨k, rfl, hlt, HQ.out, HZ.out⟩, O2.out⟩
      | false =>
        rw [hq, HZ.out] at HS
        clear hq
        go_wp2
        exact ⟨⟨k + 1, hlt, by go_num, HS.out, O2.out⟩, by simp [intOf]; omega⟩
    · obtain rfl : n = k := by omega
      go_wp2
      go_ret
      exact ⟨_, rfl, .inl ⟨rfl, HZ.out⟩, HU.out⟩
set_option maxHeartbeats 1000000 in
set_option maxRecDepth 20000 in
theorem containsFn_any (F : FuncId) (caps : Array Value) (q : Nat → Bool) (henter : ∀ args w, (callFunc F args).run Try.prog w = .ok (.enter F args) w) (v : Value) (n : Nat) (f : Nat → Int) (w : World) (h : NRowL w v n f)
    (hat : ∀ (W : World), Old w W → ∀ i, i < n → Calls Try.prog F (#[.int .i64 (f i)] ++ caps) W fun e w' => e = .returned (.bool (q i)) ∧ Old W w') :
    Calls Try.prog 67 #[v, .func (.func F) #[] caps] w fun e w' => e = .returned (.bool (anyK q n)) ∧ Old w w' := by
  have HI := hid (indexFn_any F caps q henter v n f w h hat)
  obtain ⟨_, p, c, rfl, _⟩ := h
  go_enter Try.func67, Try.ntmps67
  go_wp2_with (go_at_call 71; refine HI.out.mono ?_; rintro e w1 ⟨r, rfl, hr, o1⟩; have O1 := hid o1; have HR := hid hr; clear o1 hr)
  go_ret
  refine ⟨?_, O1.out⟩
  rcases HR.out with ⟨e1, e2⟩ | ⟨k, e1, e2, e3, e4⟩
  · rw [e1, e2]; rfl
  · rw [anyK_at q n k e2 e3, e1]
    show Ending.returned (.bool (decide (0 ≤ (k : Int)))) = _
    rw [decide_eq_true (by omega)]
set_option maxHeartbeats 2000000 in
set_option maxRecDepth 20000 in
theorem rise_any (v : Value) (n : Nat) (f : Nat → Int) (w : World) (h : NRowL w v n f) :
    Calls Try.prog 66 #[v] w fun e w' => e = .returned (.bool (riK f n)) ∧ Old w w' := by
  obtain ⟨hn, p, c, rfl, h1, h2, hc⟩ := h
  have HX := hid hc
  have hmm : (n : Int) ≤ 17592186044000 := by omega
  clear hc
  go_enter Try.func66, Try.ntmps66
  go_wp2
  go_loopw [3, 8] (fun l i wx => ∃ k : Nat, k ≤ n ∧ i = .int .i64 k ∧ l = .int .i64 (lastK f k) ∧ riK f k = true ∧ Old w wx) (fun _ i _ => n - (intOf i).toNat)
  case atStart => exact ⟨0, Nat.zero_le _, rfl, rfl, rfl, Old.refl _⟩
  case round =>
    obtain ⟨k, hk, rfl, rfl, hz, hup⟩ := hrel
    have HU := hid hup
    clear hup
    by_cases hlt : k < n
    · obtain ⟨b1, o1, e1, cx0⟩ := HX.out k hlt
      subst e1
      have cx := HU.out.keep cx0
      have l1 : (0 : Int) ≤ (k : Int) := by omega
      have l2 : (k : Int) < (n : Int) := by omega
      have HS : Hid (riK f (k + 1) = (riK f k && (decide (lastK f k < f k) && decide (f k ≤ 7)))) := hid rfl
      have HL : Hid (lastK f (k + 1) = f k) := hid rfl
      have HB : Hid ((decide (lastK f k < f k) && decide (f k ≤ 7)) = false → riK f n = false) := hid (fun q => riK_stop f k q n hlt)
      rw [hz] at HS
      clear cx0 hz
      generalize f k = y at *
      generalize lastK f k = l at *
      by_cases q1 : y ≤ l
      · have d1 : decide (y ≤ l) = true := decide_eq_true q1
        have HZ := hid (HB.out (by rw [decide_eq_false (by omega), Bool.false_and]))
        clear HB HS
        go_wp2
        go_ret
        exact ⟨by rw [HZ.out]; rfl, HU.out⟩
      · have d1 : decide (y ≤ l) = false := decide_eq_false q1
        by_cases q2 : 7 < y
        · have d2 : decide (7 < y) = true := decide_eq_true q2
          have HZ := hid (HB.out (by rw [decide_eq_false (show ¬ y ≤ 7 by omega), Bool.and_false]))
          clear HB HS
          go_wp2
          go_ret
          exact ⟨by rw [HZ.out]; rfl, HU.out⟩
        · have d2 : decide (7 < y) = false := decide_eq_false q2
          have HZ := hid (HS.out.trans (by rw [decide_eq_true (show l < y by omega), decide_eq_true (show y ≤ 7 by omega)]))
          clear HB HS
          go_wp2
          exact ⟨⟨k + 1, hlt, by go_num, by rw [HL.out], HZ.out, HU.out⟩, by simp [intOf]; omega⟩
    · obtain rfl : n = k := by omega
      have HZ := hid hz
      clear hz
      go_wp2
      go_ret
      exact ⟨by rw [HZ.out]; rfl, HU.out⟩
set_option maxHeartbeats 1000000 in
set_option maxRecDepth 20000 in
theorem learns_any (cb : Nat) (v : Value) (m : Nat) (g : Nat → Int) (x : Int) (w : World) (h : NRowL w v m g) (hb : w.cell? ⟨cb, 1, none⟩ = some v) :
    Calls Try.prog 64 #[.int .i64 x, .pointer (some ⟨cb, 0, none⟩)] w fun e w' => e = .returned (.bool (hasK g x m)) ∧ Old w w' := by
  have HC := hid (contains_any v m g x w h)
  obtain ⟨_, p, c, rfl, _⟩ := h
  go_enter Try.func64, Try.ntmps64
  go_wp2_with (go_at_call 65; refine HC.out.mono ?_; rintro e w1 ⟨rfl, o1⟩; have O1 := hid o1; clear o1)
  go_ret
  exact ⟨rfl, O1.out⟩
set_option maxHeartbeats 4000000 in
set_option maxRecDepth 20000 in
theorem right_any (v1 v2 : Value) (n m : Nat) (f g : Nat → Int) (w : World) (h1 : NRowL w v1 n f) (h2 : NRowL w v2 m g) :
    Calls Try.prog 57 #[.agg #[v1, v2]] w fun e w' => e = .returned (.bool (rightB n f m g)) ∧ Old w w' := by
  have HR1 := hid (fun (W : World) (u : Old w W) => rise_any v1 n f W (h1.old u))
  have HR2 := hid (fun (W : World) (u : Old w W) => rise_any v2 m g W (h2.old u))
  have hmf : ∀ (fn : Fn) (first cap : Array Value) (w : World), (Instr.makeFunc fn first cap).run Try.prog w = .ok (.func fn first cap) w := fun _ _ _ _ => rfl
  have HC := hid (fun (W : World) (cb : Nat) (u : Old w W) (hb : W.cell? ⟨cb, 1, none⟩ = some v2) => containsFn_any 64 #[.pointer (some ⟨cb, 0, none⟩)] (fun i => hasK g (f i) m) (enters_of Try.func64 (by kernel_rfl) rfl) v1 n f W (h1.old u) (fun W' u' i hi => learns_any cb v2 m g (f i) W' (h2.old (u.trans u')) (u'.keep hb)))
  have hn := h1.1
  obtain ⟨_, p1, c1, rfl, _⟩ := h1
  obtain ⟨_, p2, c2, rfl, _⟩ := h2
  have hmm : (n : Int) ≤ 17592186044000 := by omega
  go_enter Try.func57, Try.ntmps57
  go_upto_region 2 with (fail)
  generalize hw1 : w.alloc (.cells #[.slice p1 n c1, .slice p2 m c2] 24) = w1
  have O1 := hid (show Old w w1 from by rw [← hw1]; exact (Old.refl _).alloc _)
  have x0 : w1.cell? ⟨w.heap.size, 0, none⟩ = some (.slice p1 n c1) := by rw [← hw1]; simp
  have x1 : w1.cell? ⟨w.heap.size, 1, none⟩ = some (.slice p2 m c2) := by rw [← hw1]; simp
  clear hw1
  generalize w.heap.size = cb at *
  by_cases hz : 0 < n
  · have d1 : decide (0 < (n : Int)) = true := decide_eq_true (by omega)
    have e1 : Hid (rightB n f m g = (riK f n && (riK g m && !anyK (fun i => hasK g (f i) m) n))) := hid (by unfold rightB; rw [decide_eq_true hz, Bool.true_and])
    cases q1 : riK f n with
    | false =>
      rw [q1, Bool.false_and] at e1
      rw [q1] at HR1
      go_wp2_with (go_at_call 66; refine (HR1.out _ O1.out).mono ?_; rintro e w2 ⟨rfl, o2⟩; have O2 := hid (O1.out.trans o2); clear o2)
      go_ret
      exact ⟨by rw [e1.out]; rfl, O2.out⟩
    | true =>
      rw [q1, Bool.true_and] at e1
      rw [q1] at HR1
      have tok1 : True := trivial
      cases q2 : riK g m with
      | false =>
        rw [q2, Bool.false_and] at e1
        rw [q2] at HR2
        go_wp2_with (first | (go_at_call 66; have _t := tok1; clear tok1 _t; refine (HR1.out _ O1.out).mono ?_; rintro e w2 ⟨rfl, o2⟩; have O2 := hid (O1.out.trans o2); have y1 := o2.keep x1; clear o2) | (go_at_call 66; refine (HR2.out _ O2.out).mono ?_; rintro e w3 ⟨rfl, o3⟩; have O3 := hid (O2.out.trans o3); clear o3))
        go_ret
        exact ⟨by rw [e1.out]; rfl, O3.out⟩
      | true =>
        rw [q2, Bool.true_and] at e1
        rw [q2] at HR2
        generalize hA : anyK (fun i => hasK g (f i) m) n = A at *
        go_wp2_with (first | (go_at_call 66; have _t := tok1; clear tok1 _t; refine (HR1.out _ O1.out).mono ?_; rintro e w2 ⟨rfl, o2⟩; have O2 := hid (O1.out.trans o2); have V2 := hid o2; have y1 := o2.keep x1; clear o2) | (go_at_call 66; refine (HR2.out _ O2.out).mono ?_; rintro e w3 ⟨rfl, o3⟩; have O3 := hid (O2.out.trans o3); have z0 := (V2.out.trans o3).keep x0; have z1 := (V2.out.trans o3).keep x1; clear o3) | (go_at_call 67; refine (HC.out _ _ O3.out z1).mono ?_; rintro e w4 ⟨rfl, o4⟩; have O4 := hid (O3.out.trans o4); clear o4))
        go_ret
        exact ⟨by rw [e1.out]; rfl, O4.out⟩
  · have d1 : decide (0 < (n : Int)) = false := decide_eq_false (by omega)
    have e1 : Hid (rightB n f m g = false) := hid (by unfold rightB; rw [decide_eq_false hz, Bool.false_and])
    go_wp2_with (fail)
    go_ret
    exact ⟨by rw [e1.out]; rfl, O1.out⟩
end Go.Proofs.Ytgpfmohaogppiaa
