/- rlog's right, cloneEntry, sort.Search, confsUpTo at every log; conditions: it lies in memory. -/
import Derived.Test.YtgpfmohaogppiaaRl4
namespace Go.Proofs.Ytgpfmohaogppiaa
open Go.RowKit Go.Lib
set_option linter.unusedVariables false
set_option linter.unusedSimpArgs false
set_option maxRecDepth 20000
theorem box4 {w : World} {b : Nat} {x y z u : Value} {T : TypeId} (h : w.heap[b]? = some (.cells #[x, y, z, u] T (0, 0))) : w.cell? ⟨b, 0, none⟩ = some x ∧ w.cell? ⟨b, 1, none⟩ = some y ∧ w.cell? ⟨b, 2, none⟩ = some z ∧ w.cell? ⟨b, 3, none⟩ = some u ∧ w.frozen? ⟨b, 0, none⟩ = false ∧ w.frozen? ⟨b, 1, none⟩ = false ∧ w.frozen? ⟨b, 2, none⟩ = false ∧ w.frozen? ⟨b, 3, none⟩ = false :=
  ⟨by rw [Go.Joins.cell_of_block h]; rfl, by rw [Go.Joins.cell_of_block h]; rfl, by rw [Go.Joins.cell_of_block h]; rfl, by rw [Go.Joins.cell_of_block h]; rfl, Go.Joins.unfrozen_of_block h 0, Go.Joins.unfrozen_of_block h 1, Go.Joins.unfrozen_of_block h 2, Go.Joins.unfrozen_of_block h 3⟩
theorem box4_set {w : World} {b : Nat} {x y z u p q r s : Value} {T : TypeId} (h : w.heap[b]? = some (.cells #[x, y, z, u] T (0, 0))) : ((((w.setCell ⟨b, 0, none⟩ p).setCell ⟨b, 1, none⟩ q).setCell ⟨b, 2, none⟩ r).setCell ⟨b, 3, none⟩ s).heap[b]? = some (.cells #[p, q, r, s] T (0, 0)) := by
  have h1 := Go.Joins.block_setCell h p (i := 0)
  have h2 := Go.Joins.block_setCell h1 q (i := 1)
  have h3 := Go.Joins.block_setCell h2 r (i := 2)
  exact Go.Joins.block_setCell h3 s (i := 3)
theorem set_other {w : World} {b k i : Nat} {v : Value} {o : Obj} (h : w.heap[k]? = some o) (hn : k ≠ b) : (w.setCell ⟨b, i, none⟩ v).heap[k]? = some o := by
  rw [Below.heap_setCell w ⟨b, i, none⟩ v k (fun e => hn e)]; exact h
theorem Old.set4 {a w : World} {b : Nat} {p q r s : Value} (h : Old a w) (hb : a.heap.size ≤ b) : Old a ((((w.setCell ⟨b, 0, none⟩ p).setCell ⟨b, 1, none⟩ q).setCell ⟨b, 2, none⟩ r).setCell ⟨b, 3, none⟩ s) :=
  (((h.setCell (p := ⟨b, 0, none⟩) hb _).setCell (p := ⟨b, 1, none⟩) hb _).setCell (p := ⟨b, 2, none⟩) hb _).setCell (p := ⟨b, 3, none⟩) hb _
theorem Rw.load {w : World} {v : Value} {d : List Nat} (h : Rw w v d) : Calls Try.prog 47 #[v] w fun e w' => LdPost d w e w' := load_any d w v h
/-- What Load answers, as to its error. -/
def ldE (d : List Nat) : Int := if (ldConf d).isSome then 0 else 30
set_option maxHeartbeats 4000000 in
set_option maxRecDepth 20000 in
theorem rlRight_any (i t k : Int) (v : Value) (d : List Nat) (w : World) (hv : Rw w v d) :
    Calls Try.prog 46 #[.agg #[.int .i64 i, .int .i64 t, .int .i64 k, v]] w fun e w' => e = .returned (.bool (rightE i t k d)) ∧ Old w w' := by
  have H1 := hid (fun W => outside_any i 1 W)
  have H2 := hid (fun W => outside_any t 0 W)
  have HL := hid (fun (W : World) (u : Old w W) => ((hv.old u).load).mono (fun e w' (q : LdPost d W e w') => show ∃ p1 m1 c1 p2 m2 c2, e = .returned (.tuple #[.agg #[.slice p1 m1 c1, .slice p2 m2 c2], .int .i64 (ldE d)]) ∧ Old W w' from by
    rcases q with ⟨o, ⟨a, b, v1, v2, e1, rfl, r1, r2⟩ | ⟨e1, rfl⟩⟩
    · obtain ⟨_, _, rfl⟩ := r1.len
      obtain ⟨_, _, rfl⟩ := r2.len
      exact ⟨_, _, _, _, _, _, by simp only [ldE, e1]; rfl, o⟩
    · exact ⟨none, 0, 0, none, 0, 0, by simp only [ldE, e1]; rfl, o⟩))
  have HR := hid (show rightE i t k d = (!(decide (i < 1) || decide (1099511627776 < i)) && (!(decide (t < 0) || decide (1099511627776 < t)) && (decide (d.length ≤ 2048) && (k == 0 || (k == 1 || (k == 2 && (ldConf d).isSome)))))) from rfl)
  have HLE := hid (show (ldE d == 0) = (ldConf d).isSome from by unfold ldE; cases (ldConf d).isSome <;> rfl)
  obtain ⟨pa, pc, rfl⟩ := hv.len
  generalize rightE i t k d = B at *
  generalize (ldConf d).isSome = S at *
  generalize ldE d = LE at *
  generalize (decide (i < 1) || decide (1099511627776 < i)) = O1 at *
  generalize (decide (t < 0) || decide (1099511627776 < t)) = O2 at *
  generalize d.length = n at *
  clear hv
  cases O1 with
  | true =>
    go_enter Try.func46, Try.ntmps46
    go_wp2_with (go_at_call_of 53 (Value.int .i64 i); refine (H1.out _).mono ?_; rintro e w1 ⟨rfl, rfl⟩)
    go_ret
    exact ⟨ret_b (by rw [HR.out]; rfl), (Old.refl w).alloc _⟩
  | false =>
    cases O2 with
    | true =>
      have tok1 : True := trivial
      go_enter Try.func46, Try.ntmps46
      go_wp2_with (first | (go_at_call 53; have _t := tok1; clear tok1 _t; refine (H1.out _).mono ?_; rintro e w1 ⟨rfl, rfl⟩) | (go_at_call 53; refine (H2.out _).mono ?_; rintro e w1 ⟨rfl, rfl⟩))
      go_ret
      exact ⟨ret_b (by rw [HR.out]; rfl), (Old.refl w).alloc _⟩
    | false =>
      by_cases hn : n ≤ 2048
      · have d1 : decide ((2048 : Int) < (n : Int)) = false := decide_eq_false (by omega)
        have d2 : decide (n ≤ 2048) = true := decide_eq_true hn
        have tok1 : True := trivial
        rw [d2] at HR
        go_enter Try.func46, Try.ntmps46
        go_upto_region 3 with (first | (go_at_call 53; have _t := tok1; clear tok1 _t; refine (H1.out _).mono ?_; rintro e w1 ⟨rfl, rfl⟩) | (go_at_call 53; refine (H2.out _).mono ?_; rintro e w1 ⟨rfl, rfl⟩))
        by_cases k0 : k = 0
        · have e0 : (k == 0) = true := by simp [k0]
          go_wp2
          go_ret
          exact ⟨ret_b (by rw [HR.out, e0]; rfl), (Old.refl w).alloc _⟩
        · have e0 : (k == 0) = false := by simp [k0]
          by_cases k1 : k = 1
          · have e1 : (k == 1) = true := by simp [k1]
            go_wp2
            go_ret
            exact ⟨ret_b (by rw [HR.out, e1]; simp), (Old.refl w).alloc _⟩
          · have e1 : (k == 1) = false := by simp [k1]
            by_cases k2 : k = 2
            · subst k2
              have HU := hid ((Old.refl w).alloc (.cells #[.int .i64 i, .int .i64 t, .int .i64 2, .slice pa n pc] 41))
              go_wp2_with (go_at_call 47; refine (HL.out _ HU.out).mono ?_; rintro e w3 ⟨p1, m1, c1, p2, m2, c2, rfl, o3⟩; have O3 := hid (HU.out.trans o3); clear o3)
              go_ret
              exact ⟨ret_b (by rw [HR.out, ← HLE.out]; rfl), (O3.out.alloc _)⟩
            · have e2 : (k == 2) = false := by simp [k2]
              go_wp2
              go_ret
              exact ⟨ret_b (by rw [HR.out, e0, e1, e2]; rfl), (Old.refl w).alloc _⟩
      · have d1 : decide ((2048 : Int) < (n : Int)) = true := decide_eq_true (by omega)
        have d2 : decide (n ≤ 2048) = false := decide_eq_false hn
        have tok1 : True := trivial
        rw [d2] at HR
        go_enter Try.func46, Try.ntmps46
        go_wp2_with (first | (go_at_call 53; have _t := tok1; clear tok1 _t; refine (H1.out _).mono ?_; rintro e w1 ⟨rfl, rfl⟩) | (go_at_call 53; refine (H2.out _).mono ?_; rintro e w1 ⟨rfl, rfl⟩))
        go_ret
        exact ⟨ret_b (by rw [HR.out]; rfl), (Old.refl w).alloc _⟩
/-- A new entry's data. -/
def EnNew (w w' : World) (v : Value) (d : List Nat) : Prop := Own w' v d ∧ ∀ g, v.ownBlock = some g → w.heap.size ≤ g ∧ g < w'.heap.size
set_option maxHeartbeats 1000000 in
set_option maxRecDepth 20000 in
theorem cloneE_any (i t k : Int) (v : Value) (L : List Nat) (w : World) (hv : Rw w v L) (hb : L.length ≤ 140737488355328) :
    Calls Try.prog 35 #[.agg #[.int .i64 i, .int .i64 t, .int .i64 k, v]] w fun e w' => ∃ a c, e = .returned (.agg #[.int .i64 i, .int .i64 t, .int .i64 k, .slice a L.length c]) ∧ EnNew w w' (.slice a L.length c) L ∧ Old w w' := by
  have HV := hid hv
  have HB := hid hb
  obtain ⟨pa, pc, rfl⟩ := hv.len
  clear hv hb
  go_enter Try.func35, Try.ntmps35
  go_upto_region 1 with (fail)
  have HU := hid (show Old w ((w.alloc (.cells #[.int .i64 i, .int .i64 t, .int .i64 k, .slice pa L.length pc] 41)).alloc (.cells #[.int .i64 0, .int .i64 0, .int .i64 0, .slice none 0 0] 41)) from ((Old.refl w).alloc _).alloc _)
  have B1 := hid (show ((w.alloc (.cells #[.int .i64 i, .int .i64 t, .int .i64 k, .slice pa L.length pc] 41)).alloc (.cells #[.int .i64 0, .int .i64 0, .int .i64 0, .slice none 0 0] 41)).heap[w.heap.size]? = some (.cells #[.int .i64 i, .int .i64 t, .int .i64 k, .slice pa L.length pc] 41 (0, 0)) from alloc_keep (alloc_at w _))
  have B2 := hid (show ((w.alloc (.cells #[.int .i64 i, .int .i64 t, .int .i64 k, .slice pa L.length pc] 41)).alloc (.cells #[.int .i64 0, .int .i64 0, .int .i64 0, .slice none 0 0] 41)).heap[w.heap.size + 1]? = some (.cells #[.int .i64 0, .int .i64 0, .int .i64 0, .slice none 0 0] 41 (0, 0)) from by have := alloc_at (w.alloc (.cells #[.int .i64 i, .int .i64 t, .int .i64 k, .slice pa L.length pc] 41)) (.cells #[.int .i64 0, .int .i64 0, .int .i64 0, .slice none 0 0] 41); simpa using this)
  generalize (w.alloc (.cells #[.int .i64 i, .int .i64 t, .int .i64 k, .slice pa L.length pc] 41)).alloc (.cells #[.int .i64 0, .int .i64 0, .int .i64 0, .slice none 0 0] 41) = w0 at *
  obtain ⟨b1, hb1⟩ : ∃ b1, b1 = w.heap.size := ⟨_, rfl⟩
  obtain ⟨b2, hb2⟩ : ∃ b2, b2 = w.heap.size + 1 := ⟨_, rfl⟩
  have Q1 := hid (show w.heap.size ≤ b1 ∧ w.heap.size ≤ b2 ∧ b1 ≠ b2 ∧ b2 ≠ b1 from by omega)
  rw [← hb1] at B1 ⊢
  rw [← hb2] at B2
  try rw [show b1 + 1 = b2 from by omega]
  clear hb1 hb2
  obtain ⟨x0, x1, x2, x3, -, -, -, xf⟩ := box4 B1.out
  go_upto_region 2 with (go_at_call 50; refine (cloneS_ok _ L _ (HV.out.old HU.out) HB.out).mono ?_; rintro e w1 ⟨v1, rfl, o1, u1, n1⟩; obtain ⟨a1, c1, e1⟩ := o1.len; subst e1; have O1 := hid o1; have U1 := hid (HU.out.trans u1); have N1 := hid (show ∀ g, (Value.slice a1 L.length c1).ownBlock = some g → w.heap.size ≤ g ∧ w0.heap.size ≤ g ∧ g < w1.heap.size from fun g e => by have := n1 g e; have := HU.out.size; omega); have B1b := hid (u1.block B1.out); have B2b := hid (u1.block B2.out); have y2 := u1.keep x3; have yf := u1.keepF x3 xf; clear o1 u1 n1)
  have HL1 := hid (show b1 < w0.heap.size ∧ b2 < w0.heap.size from ⟨heap_lt B1.out, heap_lt B2.out⟩)
  have C1 := hid (show (w1.setCell ⟨b1, 3, none⟩ (.slice a1 L.length c1)).heap[b1]? = some (.cells #[.int .i64 i, .int .i64 t, .int .i64 k, .slice a1 L.length c1] 41 (0, 0)) from Go.Joins.block_setCell B1b.out (.slice a1 L.length c1) (i := 3))
  have C2 := hid (show (w1.setCell ⟨b1, 3, none⟩ (.slice a1 L.length c1)).heap[b2]? = some (.cells #[.int .i64 0, .int .i64 0, .int .i64 0, .slice none 0 0] 41 (0, 0)) from set_other B2b.out Q1.out.2.2.2)
  have O2 := hid (show Own (w1.setCell ⟨b1, 3, none⟩ (.slice a1 L.length c1)) (.slice a1 L.length c1) L from O1.out.chg (Chg.set (S := [b1]) w1 ⟨b1, 3, none⟩ _ (by simp)) (fun g e q => by have := N1.out g e; have := HL1.out; simp at q; omega))
  have U2 := hid (show Old w (w1.setCell ⟨b1, 3, none⟩ (.slice a1 L.length c1)) from U1.out.setCell (p := ⟨b1, 3, none⟩) Q1.out.1 _)
  have N2 := hid (show ∀ g, (Value.slice a1 L.length c1).ownBlock = some g → w.heap.size ≤ g ∧ w0.heap.size ≤ g ∧ g < (w1.setCell ⟨b1, 3, none⟩ (.slice a1 L.length c1)).heap.size from fun g e => by have := N1.out g e; simpa using this)
  clear x0 x1 x2 x3 xf y2 yf B1 B2 B1b B2b O1 U1 N1 HV HB HU
  generalize w1.setCell ⟨b1, 3, none⟩ (.slice a1 L.length c1) = w2 at *
  obtain ⟨x0, x1, x2, x3, -, -, -, -⟩ := box4 C1.out
  obtain ⟨y0, y1, y2, y3, f0, f1, f2, f3⟩ := box4 C2.out
  go_wp2
  obtain ⟨z0, z1, z2, z3, -, -, -, -⟩ := box4 (box4_set (p := .int .i64 i) (q := .int .i64 t) (r := .int .i64 k) (s := .slice a1 L.length c1) C2.out)
  refine bodyPost_ret (v := .agg #[.int .i64 i, .int .i64 t, .int .i64 k, .slice a1 L.length c1]) (by simp [results, Try.results35, go_sem, z0, z1, z2, z3]) rfl ⟨a1, c1, rfl, ⟨?_, ?_⟩, U2.out.set4 Q1.out.2.1⟩
  · have hc : Chg [b2] w2 ((((w2.setCell ⟨b2, 0, none⟩ (.int .i64 i)).setCell ⟨b2, 1, none⟩ (.int .i64 t)).setCell ⟨b2, 2, none⟩ (.int .i64 k)).setCell ⟨b2, 3, none⟩ (.slice a1 L.length c1)) := (((Chg.set (S := [b2]) w2 ⟨b2, 0, none⟩ _ (by simp)).trans (Chg.set (S := [b2]) _ ⟨b2, 1, none⟩ _ (by simp))).trans (Chg.set (S := [b2]) _ ⟨b2, 2, none⟩ _ (by simp))).trans (Chg.set (S := [b2]) _ ⟨b2, 3, none⟩ _ (by simp))
    exact O2.out.chg hc (fun g e q => by have := N2.out g e; have := HL1.out; simp at q; omega)
  · intro g e
    have := N2.out g e
    exact ⟨this.1, by simpa using this.2.2⟩
set_option maxHeartbeats 2000000 in
set_option maxRecDepth 20000 in
theorem search_any (F : FuncId) (caps : Array Value) (henter : ∀ args w, (callFunc F args).run Try.prog w = .ok (.enter F args) w) (n p : Nat) (q : Nat → Bool) (w : World) (hn : n ≤ 4611686018427387903) (hp : p ≤ n) (h1 : ∀ i, i < p → q i = false) (h2 : ∀ i, p ≤ i → i < n → q i = true)
    (hf : ∀ i, i < n → ∀ W, Old w W → Calls Try.prog F (#[.int .i64 (i : Nat)] ++ caps) W fun e w' => e = .returned (.bool (q i)) ∧ Old W w') :
    Calls Try.prog 48 #[.int .i64 (n : Nat), .func (.func F) #[] caps] w fun e w' => e = .returned (.int .i64 (p : Nat)) ∧ Old w w' := by
  have HF := hid hf
  have H1 := hid h1
  have H2 := hid h2
  have HP := hid hp
  clear hf h1 h2 hp
  go_enter Try.func48, Try.ntmps48
  go_wp2
  go_loopw [5, 6] (fun i j wr => ∃ a b : Nat, i = .int .i64 (a : Nat) ∧ j = .int .i64 (b : Nat) ∧ a ≤ p ∧ p ≤ b ∧ b ≤ n ∧ Old w wr) (fun i j _ => (intOf j).toNat - (intOf i).toNat)
  case atStart => exact ⟨0, n, rfl, rfl, Nat.zero_le _, HP.out, Nat.le_refl _, Old.refl _⟩
  case round =>
    obtain ⟨a, b, rfl, rfl, ha, hb, hbn, hu⟩ := hrel
    have HU := hid hu
    have HA := hid ha
    have HB := hid hb
    clear hu ha hb
    by_cases hlt : a < b
    · obtain ⟨h, hh, q1, q2⟩ : ∃ h : Nat, ((a : Int) + (b : Int)) / 2 = ((h : Nat) : Int) ∧ a ≤ h ∧ h < b := ⟨(a + b) / 2, by omega, by omega, by omega⟩
      have l1 : (a : Int) < (b : Int) := by omega
      have HQ1 := hid q1
      have HQ2 := hid q2
      have hb3 : h < 4611686018427387903 := by omega
      have HK := hid (HF.out h (by omega) wr HU.out)
      have HN := hid (show (q h = false → h < p) ∧ (q h = true → p ≤ h) from ⟨fun e => Classical.byContradiction fun z => (by have := H2.out h (by omega) (by have := HQ2.out; omega); rw [e] at this; cases this), fun e => Classical.byContradiction fun z => (by have := H1.out h (by omega); rw [e] at this; cases this)⟩)
      clear q1 q2
      generalize q h = qb at *
      go_wp2_with (fail)
      refine HK.out.mono ?_
      rintro e w2 ⟨rfl, o2⟩
      have O2 := hid o2
      clear o2
      cases qb with
      | false =>
        go_wp2
        go_roundw
        case rel => exact ⟨h + 1, b, by go_num, rfl, (by first | exact HN.out.1 rfl | exact HN.out.1 trivial), HB.out, hbn, HU.out.trans O2.out⟩
        case measure => simp [intOf]; have := HQ1.out; have := HQ2.out; omega
      | true =>
        go_wp2
        go_roundw
        case rel => exact ⟨a, h, rfl, by go_num, HA.out, (by first | exact HN.out.2 rfl | exact HN.out.2 trivial), by have := HQ2.out; omega, HU.out.trans O2.out⟩
        case measure => simp [intOf]; have := HQ1.out; have := HQ2.out; omega
    · obtain rfl : a = b := by have := HA.out; have := HB.out; omega
      obtain rfl : p = a := by have := HA.out; have := HB.out; omega
      clear HA HB
      go_wp2
      go_ret
      exact ⟨rfl, HU.out⟩
set_option maxHeartbeats 2000000 in
set_option maxRecDepth 20000 in
theorem upTo1G (lb gc off n c i : Nat) (x ix : Int) (a b : Nat) (w : World) (h3 : w.cell? ⟨lb, 3, none⟩ = some (.slice (some ⟨gc, off, none⟩) n c)) (hi : i < n) (hn : n ≤ 1099511627777) (k0 : w.cell? ⟨gc, off + i * 3, none⟩ = some (.int .i64 x)) (ha : w.cell? ⟨a, 0, none⟩ = some (.pointer (some ⟨lb, 0, none⟩))) (hb : w.cell? ⟨b, 0, none⟩ = some (.int .i64 ix)) :
    Calls Try.prog 49 #[.int .i64 (i : Nat), .pointer (some ⟨a, 0, none⟩), .pointer (some ⟨b, 0, none⟩)] w fun e w' => e = .returned (.bool (decide (ix < x))) ∧ Old w w' := by
  have l1 : (0 : Int) ≤ (i : Int) := by omega
  have l2 : (i : Int) < (n : Int) := by omega
  go_enter Try.func49, Try.ntmps49
  go_wp2
  go_quiet (fail)
  go_wp2
  go_ret
  exact ⟨rfl, (Old.refl _).drewN _⟩
theorem LogM.cells {base lb : Nat} {G : Lg} {w : World} (h : LogM base lb G w) : w.cell? ⟨lb, 0, none⟩ = some (.int .i64 G.ix) ∧ w.cell? ⟨lb, 1, none⟩ = some (.int .i64 G.tm) ∧ w.cell? ⟨lb, 2, none⟩ = some G.ve ∧ w.cell? ⟨lb, 3, none⟩ = some G.vc ∧ w.frozen? ⟨lb, 0, none⟩ = false ∧ w.frozen? ⟨lb, 1, none⟩ = false ∧ w.frozen? ⟨lb, 2, none⟩ = false ∧ w.frozen? ⟨lb, 3, none⟩ = false := box4 h.bx
/-- The configurations' row: there is always one. -/
theorem LogM.conf {base lb : Nat} {G : Lg} {w : World} (h : LogM base lb G w) (hn : 0 < G.cs.length) : ∃ gc off c, G.vc = .slice (some ⟨gc, off, none⟩) G.cs.length c ∧ G.cs.length ≤ c ∧ c ≤ 9223372036854775807 ∧ ∀ i, i < G.cs.length → w.cell? ⟨gc, off + i * 3, none⟩ = some (.int .i64 (atP G.cs i).x) ∧ w.cell? ⟨gc, off + i * 3 + 1, none⟩ = some (atP G.cs i).u ∧ w.cell? ⟨gc, off + i * 3 + 2, none⟩ = some (atP G.cs i).v := by
  obtain ⟨a, cp, e, h1, h2, h3⟩ := h.oc.len
  obtain ⟨gc, off, ea, _⟩ := h3 _ _ (pcs_at G.cs 0 hn).1
  subst ea
  refine ⟨gc, off, cp, e, h1, h2, fun i hi => ?_⟩
  obtain ⟨x0, x1, x2⟩ := pcs_at G.cs i hi
  obtain ⟨g, o, ea, q0⟩ := h3 _ _ x0
  obtain ⟨g1, o1, ea1, q1⟩ := h3 _ _ x1
  obtain ⟨g2, o2, ea2, q2⟩ := h3 _ _ x2
  cases ea; cases ea1; cases ea2
  exact ⟨q0, by rw [Nat.add_assoc]; exact q1, by rw [Nat.add_assoc]; exact q2⟩
set_option maxHeartbeats 2000000 in
set_option maxRecDepth 20000 in
theorem upTo_any (base lb : Nat) (G : Lg) (ix : Int) (p : Nat) (w : World) (h : LogM base lb G w) (h0 : 0 < G.cs.length) (hn : G.cs.length ≤ 1099511627777) (hp : p ≤ G.cs.length) (q1 : ∀ i, i < p → (atP G.cs i).x ≤ ix) (q2 : ∀ i, p ≤ i → i < G.cs.length → ix < (atP G.cs i).x) :
    Calls Try.prog 34 #[.pointer (some ⟨lb, 0, none⟩), .int .i64 ix] w fun e w' => e = .returned (.int .i64 ((max 1 p : Nat) : Int)) ∧ Old w w' := by
  have hmf : ∀ (fn : Fn) (first cap : Array Value) (w : World), (Instr.makeFunc fn first cap).run Try.prog w = .ok (.func fn first cap) w := fun _ _ _ _ => rfl
  obtain ⟨gc, off, c, evc, hc1, hc2, hcc⟩ := h.conf h0
  obtain ⟨-, -, -, h3, -⟩ := h.cells
  rw [evc] at h3
  have x3 : ((w.alloc (.cells #[.pointer (some ⟨lb, 0, none⟩)] 26)).alloc (.cells #[.int .i64 ix] 2)).cell? ⟨lb, 3, none⟩ = some (.slice (some ⟨gc, off, none⟩) G.cs.length c) := (((Old.refl _).alloc _).alloc _).keep h3
  have x0 : ((w.alloc (.cells #[.pointer (some ⟨lb, 0, none⟩)] 26)).alloc (.cells #[.int .i64 ix] 2)).cell? ⟨w.heap.size, 0, none⟩ = some (.pointer (some ⟨lb, 0, none⟩)) := ((Old.refl _).alloc _).keep (by simp)
  have y0 : ((w.alloc (.cells #[.pointer (some ⟨lb, 0, none⟩)] 26)).alloc (.cells #[.int .i64 ix] 2)).cell? ⟨w.heap.size + 1, 0, none⟩ = some (.int .i64 ix) := by simp
  have OW := hid (((Old.refl w).alloc (.cells #[.pointer (some ⟨lb, 0, none⟩)] 26)).alloc (.cells #[.int .i64 ix] 2))
  have HS := hid (search_any 49 #[.pointer (some ⟨w.heap.size, 0, none⟩), .pointer (some ⟨w.heap.size + 1, 0, none⟩)] (enters_of Try.func49 (by kernel_rfl) rfl) G.cs.length p (fun i => decide (ix < (atP G.cs i).x)) ((w.alloc (.cells #[.pointer (some ⟨lb, 0, none⟩)] 26)).alloc (.cells #[.int .i64 ix] 2)) (by omega) hp (fun i hi => decide_eq_false (by have := q1 i hi; omega)) (fun i hi hl => decide_eq_true (q2 i hi hl))
    (fun i hi W u => upTo1G lb gc off G.cs.length c i (atP G.cs i).x ix _ _ W (u.keep x3) hi hn (u.keep (OW.out.keep (hcc i hi).1)) (u.keep x0) (u.keep y0)))
  generalize hs : ((w.alloc (.cells #[.pointer (some ⟨lb, 0, none⟩)] 26)).alloc (.cells #[.int .i64 ix] 2)) = w1 at *
  clear hcc q1 q2 evc h hp h0
  have hmm : (G.cs.length : Int) ≤ 1099511627777 := by omega
  generalize G.cs.length = N at *
  obtain ⟨m, hm⟩ : ∃ m, max 1 p = m := ⟨_, rfl⟩
  rw [hm]
  have HM := hid hm
  clear hm
  go_enter Try.func34, Try.ntmps34
  go_upto_region 1 with (fail)
  try rw [hs]
  generalize w.heap.size = sz at *
  clear hs h3 y0
  by_cases hq : 1 < p
  · have e : m = p := by have := HM.out; omega
    subst e
    have l1 : (1 : Int) < (m : Int) := by omega
    go_wp2_with (go_at_call 48; refine HS.out.mono ?_; rintro e w2 ⟨rfl, o2⟩; have O2 := hid o2; clear o2)
    go_ret
    exact ⟨rfl, OW.out.trans O2.out⟩
  · have e : m = 1 := by have := HM.out; omega
    subst e
    have l1 : ¬ ((1 : Int) < (p : Int)) := by omega
    go_wp2_with (go_at_call 48; refine HS.out.mono ?_; rintro e w2 ⟨rfl, o2⟩; have O2 := hid o2; clear o2)
    go_ret
    exact ⟨rfl, OW.out.trans O2.out⟩
end Go.Proofs.Ytgpfmohaogppiaa
