/- The law ConfMiddle; no condition. -/
import Derived.Test.YtafjfmfkeaenhaaK4
namespace Go.Proofs.Ytafjfmfkeaenhaa
open Go.ChangeShapes Go.WideShapes Go.ChangeAt Go.RowKit Go.Joins Go.Lib
set_option linter.unusedVariables false
set_option linter.unusedSimpArgs false
set_option maxRecDepth 20000
/-- A configuration's rows. -/
def CfB (w : World) (v : Value) : Prop := ∃ (v1 v2 : Value) (n m : Nat) (f g : Nat → Int), v = .agg #[v1, v2] ∧ NRowL w v1 n f ∧ NRowL w v2 m g
theorem cellsCf : Try.prog.cellsOf 24 = 2 ∧ Try.prog.cellsOf 22 = 1 := by refine ⟨?_, ?_⟩ <;> kernel_rfl
theorem trod_ints {H : Type} {enc : TypeId × Value → H} {w : World} {fuel : Nat} {v : Value} {y : DataW H × List MemPlace} (hf : DataW.trod enc Try.prog w 0 (fun _ => true) true fuel 22 [v] = some y) (hz : ∀ k ∈ y.1.weights Try.prog 22, k ≤ reachBytes) : ∃ (n : Nat) (f : Nat → Int), NRowL w v n f := by
  rcases DataW.trod_slice Try.underlying22 hf with ⟨hcs, _⟩ | ⟨a, len0, cap0, elems, rest, m, _, hcs, hx, hb, hl, hm, hlen, hel, _, _⟩
  · simp at hcs
    subst hcs
    exact ⟨0, fun _ => 0, by omega, none, 0, rfl, by omega, by omega, fun i hi => by omega⟩
  · simp at hcs
    subst hcs
    have hlr := len_row Try.underlying22 hf
    have hfit := row_fits Try.underlying22 bytesInt hlr hz
    simp only [reachBytes] at hfit
    have hcm : cap0 ≤ 9223372036854775807 := by unfold maxLen at hm; omega
    by_cases hzz : len0 = 0
    · subst hzz
      exact ⟨0, fun _ => 0, by omega, _, cap0, rfl, by omega, hcm, fun i hi => by omega⟩
    · have each : ∀ i, i < len0 → ∃ x : Int, w.cell? ((a.add (i * 1)).add 0) = some (.int .i64 x) := by
        intro i hi
        have h1 := hel i hi
        have h2 : elems[i]? = some (elems[i]'(by omega)) := List.getElem?_eq_getElem (by omega)
        rw [h2, cellsN.2, Option.bind_eq_some_iff] at h1
        obtain ⟨cs', hcs, hy'⟩ := h1
        obtain ⟨x, e0, _, _⟩ := DataW.trod_int Try.underlying3 hy'
        have q := cellsEach hcs 0 (by omega)
        rw [e0] at q
        exact ⟨x, q⟩
      obtain ⟨b, off, spot⟩ := a
      obtain ⟨x0, h0⟩ := each 0 (by omega)
      have hspot : spot = none := by simpa [Addr.add] using World.cell?_spot h0
      subst hspot
      have each2 : ∀ i, ∃ x : Int, i < len0 → w.cell? ⟨b, off + i, none⟩ = some (.int .i64 x) := by
        intro i
        by_cases hi : i < len0
        · obtain ⟨x, q⟩ := each i hi
          simp only [Go.WideShapes.add_plain, Nat.mul_one, Nat.add_zero] at q
          exact ⟨x, fun _ => q⟩
        · exact ⟨0, fun h => absurd h hi⟩
      exact ⟨len0, fun i => Classical.choose (each2 i), by omega, _, cap0, rfl, hl, hcm, fun i hi => ⟨b, off, rfl, Classical.choose_spec (each2 i) hi⟩⟩
theorem open_conf {H : Type} {enc : TypeId × Value → H} {w : World} {base : Nat} {v : Value} {d : DataW H} {ps : List MemPlace} (hv : Value.okWide Try.prog w .any base 24 v) (h : DataW.Trod enc Try.prog w 0 (fun _ => true) true 24 v d ps) (hz : ∀ k ∈ d.weights Try.prog 24, k ≤ reachBytes) : CfB w v := by
  obtain ⟨v0, v1, y0, y1, n, rfl, hdd, _, h0, h1⟩ := open_agg2 Try.underlying24 (by kernel_rfl) cellsCf.1 hv h
  have hw : ∀ (j : Nat) (t : TypeId) (z : DataW H), ([22, 22] : List TypeId)[j]? = some t → [y0.1, y1.1][j]? = some z → ∀ x ∈ z.weights Try.prog t, x ≤ reachBytes := by
    intro j t z ht hz' x hx
    refine hz x ?_
    rw [hdd]
    simp only [DataW.weights, Try.underlying24]
    exact DataW.weights_mem_each ht hz' x hx
  obtain ⟨a, f, r1⟩ := trod_ints h0 (hw 0 _ _ rfl rfl)
  obtain ⟨b, g, r2⟩ := trod_ints h1 (hw 1 _ _ rfl rfl)
  exact ⟨v0, v1, a, b, f, g, rfl, r1, r2⟩
def atF (m : Nat) (ns : Nat → Int) (x : Int) : Int := if 1 ≤ x ∧ x ≤ (m : Int) then ns (x - 1).toNat else 0
set_option maxHeartbeats 2000000 in
set_option maxRecDepth 20000 in
theorem at1_any (b : Nat) (v : Value) (m : Nat) (ns : Nat → Int) (x : Int) (w : World) (h : NRowL w v m ns) (hb : w.cell? ⟨b, 0, none⟩ = some v) :
    Calls Try.prog 4 #[.int .i64 x, .pointer (some ⟨b, 0, none⟩)] w fun e w' => e = .returned (.int .i64 (atF m ns x)) ∧ Old w w' := by
  obtain ⟨hn, p, c, rfl, hnc, hcm, hc⟩ := h
  have HC := hid hc
  clear hc
  have hmm : (m : Int) ≤ 17592186044000 := by omega
  go_enter Try.func4, Try.ntmps4
  by_cases h1 : 1 ≤ x
  · by_cases h2 : x ≤ (m : Int)
    · obtain ⟨gb, go, rfl, hk⟩ := HC.out (x - 1).toNat (by omega)
      have l1 : (0 : Int) ≤ x - 1 := by omega
      have l2 : x - 1 < (m : Int) := by omega
      have e : atF m ns x = ns (x - 1).toNat := if_pos ⟨h1, h2⟩
      have d1 : decide (1 ≤ x) = true := decide_eq_true h1
      have d2 : decide (x ≤ (m : Int)) = true := decide_eq_true h2
      rw [e]
      generalize ns (x - 1).toNat = y at *
      generalize hz : x - 1 = z at *
      go_wp2
      go_ret
      exact ⟨rfl, Old.refl _⟩
    · have e : atF m ns x = 0 := if_neg (fun q => h2 q.2)
      have d1 : decide (1 ≤ x) = true := decide_eq_true h1
      have d2 : decide (x ≤ (m : Int)) = false := decide_eq_false h2
      rw [e]
      go_wp2
      go_ret
      exact ⟨rfl, Old.refl _⟩
  · have e : atF m ns x = 0 := if_neg (fun q => h1 q.1)
    have d1 : decide (1 ≤ x) = false := decide_eq_false h1
    rw [e]
    go_wp2
    go_ret
    exact ⟨rfl, Old.refl _⟩
def iota1 : Nat → Int := fun i => (i : Int) + 1
set_option maxHeartbeats 2000000 in
set_option maxRecDepth 20000 in
theorem at2_any (i : Nat) (hi : i < 3) (w : World) :
    Calls Try.prog 7 #[.int .i64 (iota1 i)] w fun e w' => e = .returned (.int .i64 (10 * iota1 i)) ∧ Old w w' := by
  have h1 : 1 ≤ iota1 i ∧ iota1 i ≤ 3 := by unfold iota1; omega
  generalize iota1 i = x at *
  obtain ⟨h1, h2⟩ := h1
  go_enter Try.func7, Try.ntmps7
  go_wp2
  go_ret
  exact ⟨rfl, Old.refl _⟩
set_option maxHeartbeats 2000000 in
set_option maxRecDepth 20000 in
theorem three_any (w : World) : Calls Try.prog 6 #[] w fun e w' => ∃ b1 b2, e = .returned (.agg #[.slice (some ⟨b1, 0, none⟩) 3 3, .slice (some ⟨b2, 0, none⟩) 1 1]) ∧ NRowL w' (.slice (some ⟨b1, 0, none⟩) 3 3) 3 iota1 ∧ Old w w' := by
  go_enter Try.func6, Try.ntmps6
  go_wp2
  refine bodyPost_ret (v := .agg #[.slice (some ⟨w.heap.size + 1, 0, none⟩) 3 3, .slice (some ⟨w.heap.size + 1 + 1, 0, none⟩) 1 1]) (by simp [results, Try.results6, go_sem]) rfl ⟨w.heap.size + 1, w.heap.size + 1 + 1, rfl, ⟨by omega, _, 3, rfl, by omega, by omega, fun i hi => ⟨w.heap.size + 1, 0, rfl, ?_⟩⟩, ((((Old.refl w).alloc _).alloc _).alloc _)⟩
  refine ((Old.refl _).alloc _).keep ?_
  match i, hi with
  | 0, _ => simp [iota1]
  | 1, _ => simp [iota1]
  | 2, _ => simp [iota1]
theorem mid3 : midL (lsI (fun i => 10 * iota1 i) 3) = 20 := by rw [← rst_mid]; decide
set_option maxHeartbeats 4000000 in
set_option maxRecDepth 20000 in
theorem middleLaw (v0 v1 : Value) (w : World) (h0 : CfB w v0) (h1 : ∃ (n : Nat) (f : Nat → Int), NRowL w v1 n f) :
    Calls Try.prog 3 #[v0, v1] w fun e w' => e = .returned (.bool true) ∧ Old w w' := by
  obtain ⟨u1, u2, n, n2, f, f2, rfl, r1, r2⟩ := h0
  obtain ⟨m, ns, rn⟩ := h1
  have hn := r1.1
  have hmm : (n : Int) ≤ 17592186044000 := by omega
  have HR1 := hid r1
  have HRn := hid rn
  obtain ⟨_, p1, c1, rfl, _⟩ := r1
  obtain ⟨_, p2, c2, rfl, _⟩ := r2
  obtain ⟨_, pn, cn, rfl, _⟩ := rn
  have hmf : ∀ (fn : Fn) (first cap : Array Value) (w : World), (Instr.makeFunc fn first cap).run Try.prog w = .ok (.func fn first cap) w := fun _ _ _ _ => rfl
  go_enter Try.func3, Try.ntmps3
  have M3 := hid (fun (b1 b2 : Nat) (W : World) (h : NRowL W (.slice (some ⟨b1, 0, none⟩) 3 3) 3 iota1) => by
    have q := middle_any 7 #[] (fun x => 10 * x) (enters_of Try.func7 (by kernel_rfl) rfl) _ (.slice (some ⟨b2, 0, none⟩) 1 1) 3 iota1 W h _ _ _ rfl (fun W' _ i hi => at2_any i hi W')
    rw [mid3] at q; exact q)
  go_upto_region 4 with (first | (go_at_call 6; refine (three_any _).mono ?_; rintro e w1 ⟨b1, b2, rfl, t1, o1⟩; have T1 := hid t1; have O1 := hid o1; clear t1 o1) | (go_at_call 5; refine (M3.out _ _ _ T1.out).mono ?_; rintro e w2 ⟨rfl, o2⟩; have O2 := hid (O1.out.trans o2); clear o2))
  clear M3 T1 O1
  have cb0 : w2.cell? ⟨w.heap.size, 0, none⟩ = some (.slice p1 n c1) := O2.out.keep (((Old.refl _).alloc _).keep (by simp))
  have cb1 : w2.cell? ⟨w.heap.size, 1, none⟩ = some (.slice p2 n2 c2) := O2.out.keep (((Old.refl _).alloc _).keep (by simp))
  have cnb : w2.cell? ⟨w.heap.size + 1, 0, none⟩ = some (.slice pn m cn) := O2.out.keep (by simp)
  have U2 := hid ((((Old.refl w).alloc _).alloc _).trans O2.out)
  clear O2
  generalize w.heap.size = cb at *
  have HAt := hid (fun (W : World) (u : Old w2 W) (x : Int) => at1_any (cb + 1) _ m ns x W (HRn.out.old (U2.out.trans u)) (u.keep cnb))
  have HF := hid (HR1.out.old U2.out)
  obtain ⟨_, p1', c1', e1', hnc1, hcm1, hc1⟩ := HF.out
  cases e1'
  have HC1 := hid hc1
  clear hc1 cnb HRn
  have cb2 : (w2.alloc (.cells #[] 2)).cell? ⟨cb, 0, none⟩ = some (.slice p1 n c1) := ((Old.refl _).alloc _).keep cb0
  go_wp2
  go_loopw [6, 17] (fun a i wx => ∃ k : Nat, k ≤ n ∧ i = .int .i64 k ∧ OwnN w2.heap.size wx a (lsI (fun i => atF m ns (f i)) k) ∧ Old w2 wx) (fun _ i _ => n - (intOf i).toNat)
  case atStart => exact ⟨0, Nat.zero_le _, rfl, World.ownsRow_made w2 #[] 0 (Nat.le_refl _) (by unfold maxLen; omega) rfl, (Old.refl _).alloc _⟩
  case round =>
    obtain ⟨k, hk, rfl, ok, hu⟩ := hrel
    have OK := hid ok
    have UK := hid hu
    clear ok hu
    by_cases hlt : k < n
    · obtain ⟨gb, go, e1, cx0⟩ := HC1.out k hlt
      subst e1
      have cx := UK.out.keep cx0
      have l1 : (0 : Int) ≤ (k : Int) := by omega
      have l2 : (k : Int) < (n : Int) := by omega
      clear cx0
      obtain ⟨pa, ca, ea⟩ := OK.out.len
      rw [lsI_len] at ea
      subst ea
      go_wp2_with (first | (go_at_call 4; refine (HAt.out _ UK.out _).mono ?_; rintro e w3 ⟨rfl, o3⟩; have O3 := hid (OK.out.up o3); have U3 := hid (UK.out.trans o3); clear o3) | (at_builtin; refine wp_appN rfl (.tmp 21) (.tmp 25) rfl w2.heap.size _ (lsI (fun i => atF m ns (f i)) k) _ 1 (atF m ns (f k)) rfl rfl (O3.out.up ((Old.refl _).alloc _)) (cell_oneN _ _ _ rfl) (by rw [lsI_len]; omega) (by have := U3.out.size; simp; omega) ?_; intro v4 w4 o4 g4 _; have O4 := hid o4; have U4 := hid (Below.grown (U3.out.alloc _) g4 (U3.out.alloc _).size (fun q e => (World.ownsRow.lt O3.out q e).1)); clear o4 g4))
      exact ⟨⟨k + 1, hlt, by go_num, O4.out, U4.out⟩, by simp [intOf]; omega⟩
    · obtain rfl : n = k := by omega
      have x0 := UK.out.keep cb0
      have x1 := UK.out.keep cb1
      have HM := hid (middle_any 4 #[.pointer (some ⟨cb + 1, 0, none⟩)] (atF m ns) (enters_of Try.func4 (by kernel_rfl) rfl) _ (.slice p2 n2 c2) n f wr (HF.out.old UK.out) _ _ _ rfl (fun W' u' i hi => HAt.out W' (UK.out.trans u') (f i)))
      have HQ := hid (fun (W : World) (u : Old wr W) => by have q := rMiddle_any _ n (fun i => atF m ns (f i)) W (OK.out.rowL (by rw [lsI_len]; omega) (lsI_len _ _) (fun i hi => lsI_get _ _ _ hi) |>.old u); rw [rst_mid] at q; exact q)
      obtain ⟨pa, ca, ea⟩ := OK.out.len
      rw [lsI_len] at ea
      subst ea
      generalize midL (lsI (fun i => atF m ns (f i)) n) = y at *
      go_wp2_with (first | (go_at_call 5; refine HM.out.mono ?_; rintro e w3 ⟨rfl, o3⟩; have O3 := hid o3; clear o3) | (go_at_call 8; refine (HQ.out _ O3.out).mono ?_; rintro e w4 ⟨rfl, o4⟩; have O4 := hid (O3.out.trans o4); clear o4))
      go_ret
      exact ⟨by simp, U2.out.trans (UK.out.trans O4.out)⟩
end Go.Proofs.Ytafjfmfkeaenhaa
