/- The law PredsAt at every row of calls and every key; no condition. -/
import Derived.Test.YtpmjlphimdhiiaaYk
import Derived.Test.YtpmjlphimdhiiaaYr
namespace Go.Proofs.Ytpmjlphimdhiiaa
open Go.RowKit Go.Lib
set_option linter.unusedVariables false
set_option linter.unusedSimpArgs false
set_option maxRecDepth 20000
theorem ent_at (args : Array Value) (w : World) : (callFunc 14 args).run Try.prog w = .ok (.enter 14 args) w := by kernel_rfl
theorem ent_has (args : Array Value) (w : World) : (callFunc 12 args).run Try.prog w = .ok (.enter 12 args) w := by kernel_rfl
/-- A call in a variable. -/
abbrev OpB (g : Nat) (z : Opv) (w : World) : Prop := w.cell? ⟨g, 1, none⟩ = some (.float .f64 z.a) ∧ w.cell? ⟨g, 2, none⟩ = some (.float .f64 z.b) ∧ w.cell? ⟨g, 3, none⟩ = some (.bool z.p) ∧ w.cell? ⟨g, 4, none⟩ = some (.bool z.q) ∧ w.cell? ⟨g, 5, none⟩ = some (.int .i64 z.n)
theorem OpB.old {g : Nat} {z : Opv} {w w' : World} (u : Old w w') (h : OpB g z w) : OpB g z w' := ⟨u.keep h.1, u.keep h.2.1, u.keep h.2.2.1, u.keep h.2.2.2.1, u.keep h.2.2.2.2⟩
def hasI (k : Nat) (x : It) : Bool := hasB x.a x.b x.p x.q k
theorem over_ge0 (k : Nat) (L : List It) : ∀ j, 0 ≤ overT k L j
  | 0 => Int.le_refl _
  | j + 1 => by
    have := over_ge0 k L j
    unfold overT
    split <;> omega
theorem over_mono (k : Nat) (L : List It) : ∀ j i, i < j → hasI k (atI L i) = true → (atI L i).n ≤ overT k L j
  | 0, i, hi, _ => by omega
  | j + 1, i, hi, hh => by
    unfold overT
    by_cases e : i = j
    · subst e; unfold hasI at hh; rw [if_pos hh]; omega
    · have := over_mono k L j i (by omega) hh
      split <;> omega
theorem over_le (k : Nat) (L : List It) (B : Int) (hB : 0 ≤ B) : ∀ j, (∀ i, i < j → hasI k (atI L i) = true → (atI L i).n ≤ B) → overT k L j ≤ B
  | 0, _ => hB
  | j + 1, hh => by
    have := over_le k L B hB j fun i hi => hh i (by omega)
    unfold overT
    split
    · rename_i hk; have := hh j (by omega) hk; omega
    · exact this
theorem has_with (k : Nat) (y : It) (m : Int) : hasI k (withN y m) = hasI k y := rfl
theorem over_in (k : Nat) (L : List It) (z : It) (hz : z ∈ L) (hh : hasI k z = true) : z.n ≤ overT k L L.length := by
  obtain ⟨j, hj, rfl⟩ := List.getElem_of_mem hz
  have := over_mono k L L.length j hj (by rw [atI_get _ j hj]; exact hh)
  rw [atI_get _ j hj] at this
  exact this
theorem over_put (k : Nat) (x : It) (L : List It) : overT k L L.length ≤ overT k (putL x L) (putL x L).length := by
  refine over_le k L _ (over_ge0 _ _ _) _ fun i hi hh => ?_
  obtain ⟨z, hz, _, hn, m, e⟩ := put_has x L (atI L i) (mem_atI L i hi)
  have := over_in k (putL x L) z hz (by rw [e, has_with]; exact hh)
  omega
def okO (z : Opv) : Prop := Fl.csE z.a z.b z.p z.q = false ∧ ¬ (z.n < 1 ∨ 1099511627776 < z.n)
def itO (f : Nat → Opv) (i : Nat) : It := ⟨Fl.csU (f i).a (f i).b (f i).p (f i).q, Fl.csV (f i).a (f i).b (f i).p (f i).q, false, false, (f i).n⟩
theorem putR_room {z : Opv} {L : List It} (h : (L.length : Int) < 64) : (okO z → putR z.a z.b z.p z.q z.n 64 L = (0, putL ⟨Fl.csU z.a z.b z.p z.q, Fl.csV z.a z.b z.p z.q, false, false, z.n⟩ L)) ∧ (¬ okO z → (putR z.a z.b z.p z.q z.n 64 L).2 = L) := by
  unfold putR okO
  by_cases h1 : Fl.csE z.a z.b z.p z.q = true
  · rw [if_pos h1]; exact ⟨fun e => absurd e.1 (by simp [h1]), fun _ => rfl⟩
  · rw [if_neg h1]
    have h1' : Fl.csE z.a z.b z.p z.q = false := by simpa using h1
    by_cases h2 : z.n < 1 ∨ 1099511627776 < z.n
    · rw [if_pos h2]; exact ⟨fun e => absurd h2 e.2, fun _ => rfl⟩
    · rw [if_neg h2]
      refine ⟨fun _ => ?_, fun e => absurd ⟨h1', h2⟩ e⟩
      split
      · rfl
      · rw [if_neg (by omega)]
theorem putR_bad {z : Opv} {L : List It} (h : ¬ okO z) : (putR z.a z.b z.p z.q z.n 64 L).1 ≠ 0 := by
  unfold okO at h
  unfold putR
  by_cases h1 : Fl.csE z.a z.b z.p z.q = true
  · rw [if_pos h1]; simp
  · rw [if_neg h1]
    have h1' : Fl.csE z.a z.b z.p z.q = false := by simpa using h1
    by_cases h2 : z.n < 1 ∨ 1099511627776 < z.n
    · rw [if_pos h2]; simp
    · exact absurd ⟨h1', h2⟩ h
/-- Forms of one key are one. -/
theorem form_one {u1 v1 u2 v2 : Nat} (h1 : Fl.IsForm u1 v1 false) (h2 : Fl.IsForm u2 v2 false) (e : 18446744073709551616 * Fl.code u1 + Fl.code v1 = 18446744073709551616 * Fl.code u2 + Fl.code v2) : u1 = u2 ∧ v1 = v2 := by
  have a := Fl.code_le v1 h1.2.1
  have b := Fl.code_le v2 h2.2.1
  have f1 := h1.2.2.2 rfl
  have f2 := h2.2.2.2 rfl
  have e1 : Fl.code u1 = Fl.code u2 := by omega
  have e2 : Fl.code v1 = Fl.code v2 := by omega
  refine ⟨?_, ?_⟩
  · rw [← f1.1, ← f2.1, ← Fl.of_code u1 h1.1, ← Fl.of_code u2 h2.1, e1]
  · rw [← f1.2.1, ← f2.2.1, ← Fl.of_code v1 h1.2.1, ← Fl.of_code v2 h2.2.1, e2]
theorem form_has (z : Opv) (ha : Fl.W z.a) (hb : Fl.W z.b) (hE : Fl.csE z.a z.b z.p z.q = false) (k : Nat) : hasB (Fl.csU z.a z.b z.p z.q) (Fl.csV z.a z.b z.p z.q) false false k = hasB z.a z.b z.p z.q k := by
  have hf := Fl.cs_isForm z.a z.b z.p z.q ha hb
  rw [hE] at hf
  obtain ⟨e1, e2, e3⟩ := Fl.cs_of_form _ _ _ hf
  unfold hasB
  rw [e1, e2, e3, hE]
theorem form_O {z : Opv} (ha : Fl.W z.a) (hb : Fl.W z.b) (ho : okO z) : Fl.IsForm (Fl.csU z.a z.b z.p z.q) (Fl.csV z.a z.b z.p z.q) false := by
  have hf := Fl.cs_isForm z.a z.b z.p z.q ha hb
  rw [ho.1] at hf
  exact hf
/-- What one Put does to a table with room. -/
theorem put_step (f : Nat → Opv) (j : Nat) (hW : Fl.W (f j).a ∧ Fl.W (f j).b) (P Q : Nat → Prop) (e : ∀ i, Q i ↔ P i ∨ (i = j ∧ okO (f j))) (L : List It) (hG : Good L) (hl : (L.length : Int) < 64) (hH : Holds (itO f) P L) :
    Good (putR (f j).a (f j).b (f j).p (f j).q (f j).n 64 L).2 ∧ (putR (f j).a (f j).b (f j).p (f j).q (f j).n 64 L).2.length ≤ L.length + 1 ∧ Holds (itO f) Q (putR (f j).a (f j).b (f j).p (f j).q (f j).n 64 L).2 ∧ (∀ k, overT k L L.length ≤ overT k (putR (f j).a (f j).b (f j).p (f j).q (f j).n 64 L).2 (putR (f j).a (f j).b (f j).p (f j).q (f j).n 64 L).2.length) ∧ ((putR (f j).a (f j).b (f j).p (f j).q (f j).n 64 L).1 = 0 → ∀ k, hasB (f j).a (f j).b (f j).p (f j).q k = true → (f j).n ≤ overT k (putR (f j).a (f j).b (f j).p (f j).q (f j).n 64 L).2 (putR (f j).a (f j).b (f j).p (f j).q (f j).n 64 L).2.length) := by
  refine ⟨put_good hW.1 hW.2 hG, ?_⟩
  have hb := @putR_bad (f j) L
  obtain ⟨hr1, hr2⟩ := @putR_room (f j) L hl
  by_cases ho : okO (f j)
  · rw [hr1 ho]
    have hF := form_O hW.1 hW.2 ho
    have hinj : ∀ y, Okp y → kc y = kc (itO f j) → withN y (f j).n = itO f j := fun y g hk => by
      obtain ⟨e1, e2⟩ := form_one g.1 hF hk
      show (⟨y.a, y.b, y.p, y.q, (f j).n⟩ : It) = ⟨_, _, _, _, _⟩
      rw [e1, e2, g.2.1, g.2.2.1]
    refine ⟨put_len _ _, hH.put j (fun i => by rw [e i]; simp [ho]) (fun y hy hk => hinj y (hG.2 y hy) hk), fun k => over_put k _ L, fun _ k hh => ?_⟩
    obtain ⟨z, hz, hkz, hn⟩ := put_self (itO f j) L
    have hzG : Okp z := by
      have := (put_good (p := (f j).p) (q := (f j).q) (n := (f j).n) (most := 64) hW.1 hW.2 hG).2
      rw [hr1 ho] at this
      exact this z hz
    have hi := hinj z hzG hkz
    have := over_in k _ z hz (by rw [← has_with k z (f j).n, hi]; show hasB (Fl.csU (f j).a (f j).b (f j).p (f j).q) (Fl.csV (f j).a (f j).b (f j).p (f j).q) false false k = true; rw [form_has (f j) hW.1 hW.2 ho.1]; exact hh)
    exact Int.le_trans hn this
  · rw [hr2 ho]
    exact ⟨by simp, hH.skip fun i => by rw [e i]; simp [ho], fun k => Int.le_refl _, fun q => absurd q (hb ho)⟩
theorem Own.mono {base b' : Nat} {w : World} {v : Value} {L : List It} (h : Own base w v L) (hb : b' ≤ base) : Own b' w v L := by
  refine ⟨h.1, ?_⟩
  rcases h.2 with e | ⟨g, cap, cur, e, hb', r⟩
  · exact .inl e
  · exact .inr ⟨g, cap, cur, e, by omega, r⟩
theorem TabAt.mono {base b' : Nat} {w : World} {b : Nat} {most : Int} {v : Value} {L : List It} (h : TabAt base w b most v L) (hb : b' ≤ base) : TabAt b' w b most v L := ⟨by have := h.1; omega, h.2.1, h.2.2.1, h.2.2.2.1, h.2.2.2.2.1.mono hb, h.2.2.2.2.2⟩
/-- Two tables in the middle of the rounds. -/
def Two (f : Nat → Opv) (N b0 b1 b2 : Nat) (w0 : World) (k : Nat) (w : World) : Prop := ∃ v1 L1 v2 L2, (TabAt b0 w b1 64 v1 L1 ∧ Good L1 ∧ L1.length ≤ k ∧ Holds (itO f) (fun i => i < k ∧ okO (f i)) L1) ∧ (TabAt b0 w b2 64 v2 L2 ∧ Good L2 ∧ L2.length ≤ k ∧ Holds (itO f) (fun i => (i < N ∧ N < i + k + 1) ∧ okO (f i)) L2) ∧ (∀ g, g ∈ blks b1 v1 → g ∉ blks b2 v2) ∧ Old w0 w
theorem Two.same {f : Nat → Opv} {N : Nat} (hW : ∀ i, i < N → Fl.W (f i).a ∧ Fl.W (f i).b) {L1 L2 : List It} (h1 : Good L1) (h2 : Good L2) (g1 : Holds (itO f) (fun i => i < N ∧ okO (f i)) L1) (g2 : Holds (itO f) (fun i => (i < N ∧ N < i + N + 1) ∧ okO (f i)) L2) : L1 = L2 := by
  refine g1.one (g2.skip fun i => ?_) h1.1 h2.1 ?_
  · constructor
    · rintro ⟨⟨a, _⟩, b⟩; exact ⟨a, b⟩
    · rintro ⟨a, b⟩; exact ⟨⟨a, by omega⟩, b⟩
  · rintro i j ⟨hi, oi⟩ ⟨hj, oj⟩ e
    obtain ⟨e1, e2⟩ := form_one (form_O (hW i hi).1 (hW i hi).2 oi) (form_O (hW j hj).1 (hW j hj).2 oj) e
    show (⟨Fl.csU (f i).a (f i).b (f i).p (f i).q, Fl.csV (f i).a (f i).b (f i).p (f i).q, false, false, (f j).n⟩ : It) = ⟨Fl.csU (f j).a (f j).b (f j).p (f j).q, Fl.csV (f j).a (f j).b (f j).p (f j).q, false, false, (f j).n⟩
    rw [e1, e2]
attribute [local go_sem] run_bits run_frombits run_store_float
set_option maxHeartbeats 8000000 in
set_option maxRecDepth 20000 in
theorem atsLaw (vs : Value) (N0 : Nat) (f : Nat → Opv) (key : Nat) (hkey : Fl.W key) (w : World) (h : ORow w vs N0 f) :
    Calls Try.prog 5 #[vs, .float .f64 key] w fun e w' => e = .returned (.bool true) ∧ Old w w' := by
  have HO0 := hid h
  obtain ⟨hbN, sa, sc, hvs, hsc, _⟩ := h
  subst hvs
  go_enter Try.func5, Try.ntmps5
  have HN := hid (fun W => new_any 64 W)
  go_upto_region 2 with (first | (go_at_call 7; refine (HN.out _).mono ?_; (first | (have T0 := T1; have U0 := U1; rintro e w2 ⟨rfl, t1, u1⟩; have T2 := hid t1; have U2 := hid (U0.out.trans u1); have T1' := hid (T0.out.old u1); clear t1 u1) | (rintro e w1 ⟨rfl, t1, u1⟩; have HSz := hid t1.lt; have T1 := hid t1; have U1 := hid u1; clear t1 u1))))
  clear T0 U0 T1 U1
  go_upto_region 4 with (first | (go_at_call 8; refine (alive_any _).mono ?_; rintro e w3 ⟨rfl, u3⟩; have T3 := hid (T1'.out.old u3); have T3b := hid (T2.out.old u3); have U3 := hid (U2.out.trans u3); clear u3))
  have hm64 : mostC 64 = 64 := by kernel_rfl
  rw [hm64] at T3 T3b
  have hww := T1'.out.lt
  have hwb := T2.out.1
  have hb12 : w.heap.size < w1.heap.size := HSz.out
  have HI := hid (fun N => show Two f N w.heap.size w.heap.size w1.heap.size w 0 w3 from ⟨_, [], _, [], ⟨T3.out, good0, Nat.le_refl _, Holds.nil _ _ (fun i hi => by omega)⟩, ⟨T3b.out.mono (by omega), good0, Nat.le_refl _, Holds.nil _ _ (fun i hi => by omega)⟩, fun g hg hg2 => by
    rcases mem_blks.1 hg with e1 | e1
    · rcases mem_blks.1 hg2 with e2 | e2
      · omega
      · simp [Value.ownBlock] at e2
    · simp [Value.ownBlock] at e1, U3.out⟩)
  clear T1' T2 T3 T3b U2 U3 hm64 hww hwb HN HSz
  generalize hwb : w.heap.size = b1 at *
  generalize w1.heap.size = b2 at *
  by_cases hN6 : 60 < N0
  · have HO := hid (show ORow w (.slice sa 60 sc) 60 f from by
      obtain ⟨h1, a, c, e, h4, h5⟩ := HO0.out
      simp only [Value.slice.injEq] at e
      obtain ⟨rfl, _, rfl⟩ := e
      exact ⟨by omega, _, _, rfl, by omega, fun i hi => h5 i (by omega)⟩)
    have HI0 := hid (HI.out 60)
    have l60 : (60 : Int) < (N0 : Int) := by omega
    have l61 : (60 : Int) ≤ (sc : Int) := by omega
    have l62 : 60 ≤ sc := by omega
    go_upto_region 6 with fail
    clear HI HO0 l60 l61 l62 hN6 hsc hbN
    go_wp2
    go_loopw [34] (fun i wr => ∃ k : Nat, k ≤ 60 ∧ i = .int .i64 (k : Nat) ∧ Two f 60 b1 b1 b2 w k wr) (fun i _ => 60 - (intOf i).toNat)
    case atStart => exact ⟨0, Nat.zero_le _, rfl, HI0.out⟩
    case round =>
      obtain ⟨k, hk, rfl, v1, L1, v2, L2, ⟨t1, g1, n1, h1⟩, ⟨t2, g2, n2, h2⟩, hdj, hu⟩ := hrel
      have HT1 := hid t1
      have HG1 := hid g1
      have HH1 := hid h1
      have HT2 := hid t2
      have HG2 := hid g2
      have HH2 := hid h2
      have HD := hid hdj
      have HU := hid hu
      have HN1 := hid n1
      have HN2 := hid n2
      clear t1 g1 h1 t2 g2 h2 hdj hu HI0 n1 n2
      by_cases hlt : k < 60
      · obtain ⟨_, a', c', e', _, hc⟩ := HO.out.old HU.out
        obtain ⟨b', off, hsa, hW1, hW2, o0, o1, o2, o3, o4, o5⟩ := hc k hlt
        simp only [Value.slice.injEq] at e'
        obtain ⟨rfl, _, rfl⟩ := e'
        subst hsa
        have l1 : (0 : Int) ≤ (k : Int) := by omega
        have l2 : (k : Int) < (60 : Int) := by omega
        clear hc
        have hW := And.intro hW1 hW2
        have HW := hid hW
        have HPS := hid (put_step f k hW (fun i => i < k ∧ okO (f i)) (fun i => i < k + 1 ∧ okO (f i)) (fun i => by
          constructor
          · rintro ⟨a, b⟩
            by_cases e : i = k
            · subst e; exact .inr ⟨rfl, b⟩
            · exact .inl ⟨by omega, b⟩
          · rintro (⟨a, b⟩ | ⟨rfl, b⟩)
            · exact ⟨by omega, b⟩
            · exact ⟨by omega, b⟩) L1 HG1.out (by have := HN1.out; omega) HH1.out)
        generalize hfk : f k = z at *
        go_upto_region 9 with fail
        have B4 := hid (op_new wr z _ rfl)
        have U4 := hid ((Old.refl wr).alloc (.cells #[.int .i64 z.kd, .float .f64 z.a, .float .f64 z.b, .bool z.p, .bool z.q, .int .i64 z.n] 30))
        have T4 := hid (HT1.out.old U4.out)
        have HZ := hid (show ∀ g, g ∈ blks b1 v1 → g < wr.heap.size from fun g hg => (HT1.out.blk g hg).2)
        have hobk := hid (show wr.heap.size ∉ blks b1 v1 from fun e => by have := HZ.out _ e; omega)
        clear o0 o1 o2 o3 o4 o5 HZ
        generalize wr.alloc (.cells #[.int .i64 z.kd, .float .f64 z.a, .float .f64 z.b, .bool z.p, .bool z.q, .int .i64 z.n] 30) = w4 at *
        generalize hob : wr.heap.size = ob at *
        have hl1 : L1.length ≤ 1000000 := by have := HN1.out; omega
        have HA1 := hid (at_any b1 b1 64 v1 L1 key hkey w4 T4.out HG1.out hl1)
        have HAC := hid (HPS.out.2.2.2.1 key)
        have HOK := hid (fun e => HPS.out.2.2.2.2 e key)
        generalize hA : overT key L1 L1.length = A at *
        go_upto_region 10 with (go_at_call 14; refine HA1.out.mono ?_; rintro e w5 ⟨rfl, u5⟩; have U9 := hid u5; clear u5)
        have T5 := hid (T4.out.old U9.out)
        have B5 := hid (B4.out.old U9.out)
        obtain ⟨hb0, hb5, hb6, hb7, hb8, hb9⟩ := B5.out
        have U5 := hid ((HU.out.trans U4.out).trans U9.out)
        have HT25 := hid (HT2.out.old (U4.out.trans U9.out))
        clear HA1 T4 B4
        have HP := hid (put_any b1 b1 64 z.n v1 L1 z.a z.b z.p z.q HW.out.1 HW.out.2 w5 T5.out HG1.out hl1)
        generalize hec : (putR z.a z.b z.p z.q z.n 64 L1).1 = ec at *
        generalize hL1' : (putR z.a z.b z.p z.q z.n 64 L1).2 = L1' at *
        go_upto_region 11 with (go_at_call 9; refine HP.out.mono ?_; rintro e w6 ⟨v1', rfl, t6, c6, n6⟩; have T6 := hid t6; have C6 := hid c6; have N6 := hid n6; clear t6 c6 n6)
        have U6 := hid (U5.out.below (Below.mono (T5.out.below C6.out) (Nat.le_of_eq hwb)))
        have S6 := hid (show OpB ob z w6 from ⟨C6.out.cell hb5 hobk.out, C6.out.cell hb6 hobk.out, C6.out.cell hb7 hobk.out, C6.out.cell hb8 hobk.out, C6.out.cell hb9 hobk.out⟩)
        have HT26 := hid (HT25.out.chg C6.out (fun e => HD.out _ e (mem_blks.2 (.inl rfl))) (fun g hg e => HD.out _ e (mem_blks.2 (.inr hg))))
        have HD6 := hid (show ∀ g, g ∈ blks b1 v1' → g ∉ blks b2 v2 from fun g hg hg2 => by
          have q2 := (HT25.out.blk g hg2).2
          rcases mem_blks.1 hg with e | e
          · exact HD.out g (mem_blks.2 (.inl e)) hg2
          · rcases N6.out g e with r | r
            · exact HD.out g (mem_blks.2 (.inr r)) hg2
            · omega)
        have hl1' : L1'.length ≤ 1000000 := by have := HPS.out.2.1; have := HN1.out; omega
        have HA2 := hid (fun (W : World) (u : Old w6 W) => at_any b1 b1 64 v1' L1' key hkey W (T6.out.old u) HPS.out.1 hl1')
        generalize hA2 : overT key L1' L1'.length = A2 at *
        have hlA : ¬ A2 < A := by have := HAC.out; omega
        have HH3 := hid (fun (W : World) (u : Old w6 W) => has_old z.a z.b key HW.out.1 HW.out.2 hkey z.p z.q W)
        clear HD HT25 T5 C6 N6 B5 hb0 hb5 hb6 hb7 hb8 hb9 HP HT1 hobk U5 HAC
        by_cases hez : ec = 0
        · have HC3 := hid (HOK.out hez)
          clear HOK
          subst hez
          cases hh : hasB z.a z.b z.p z.q key
          · rw [hh] at HH3
            clear HC3 hh
            refine wp_region_noPanic ?_
            refine wp_region_held_drew (S := OpB ob z) (by kernel_rfl) ?_ (fun hHeld => ?_)
            · exact OpB.old ((Old.refl _).drew) S6.out
            (try simp only [Act.put]); (try simp only [List.setIfInBounds_toArray]); (try simp only [List.set_cons_succ]); (try simp only [List.set_cons_zero])
            clear hHeld
            refine wpAnyH_take (i := 0) (oi := { dst := some 48, op := Op.move (Operand.tmp 5), type := 24, pos := "law.go:83", after := #[], guard := none }) (v := ?vk77) rfl (by kernel_rfl) (by kernel_rfl) (by kernel_rfl) (fun _ _ _ h => h) (Or.inl ⟨by rfl, ?hk77⟩) (OpB.old ((Old.refl w6).drew) S6.out) ?rk77
            case hk77 => (intro wz hSw; (try dsimp only at hSw); go_simp; try with_reducible rfl)
            (try simp only [Act.put]); (try simp only [List.setIfInBounds_toArray]); (try simp only [List.set_cons_succ]); (try simp only [List.set_cons_zero])
            refine wpAnyH_take (i := 1) (oi := { dst := some 49, op := Op.move (Operand.tmp 1), type := 23, pos := "law.go:83", after := #[], guard := none }) (v := ?vk78) rfl (by kernel_rfl) (by kernel_rfl) (by kernel_rfl) (fun _ _ _ h => h) (Or.inl ⟨by rfl, ?hk78⟩) (OpB.old ((Old.refl w6).drew) S6.out) ?rk78
            case hk78 => (intro wz hSw; (try dsimp only at hSw); go_simp; try with_reducible rfl)
            (try simp only [Act.put]); (try simp only [List.setIfInBounds_toArray]); (try simp only [List.set_cons_succ]); (try simp only [List.set_cons_zero])
            refine wpAnyH_take (i := 3) (oi := { dst := some 51, op := Op.move (Operand.tmp 9), type := 2, pos := "law.go:83", after := #[], guard := none }) (v := ?vk79) rfl (by kernel_rfl) (by kernel_rfl) (by kernel_rfl) (fun _ _ _ h => h) (Or.inl ⟨by rfl, ?hk79⟩) (OpB.old ((Old.refl w6).drew) S6.out) ?rk79
            case hk79 => (intro wz hSw; (try dsimp only at hSw); go_simp; try with_reducible rfl)
            (try simp only [Act.put]); (try simp only [List.setIfInBounds_toArray]); (try simp only [List.set_cons_succ]); (try simp only [List.set_cons_zero])
            refine wpAnyH_ready (rs := [2]) (by kernel_rfl) (by simp) ?_
            refine AllReadyH.cons (o := { dst := some 50, op := Op.call { callee := Callee.value (Operand.func 14), args := #[Operand.tmp 48, Operand.tmp 49], argTypes := #[24, 23] }, type := 2, pos := "law.go:83", after := #[{ on := 0, ground := Ground.data }, { on := 1, ground := Ground.data }], guard := none }) rfl (fun K hK => ?_) AllReadyH.nil
            refine wantCall2 ?_ 14 (.tmp 48) (.tmp 49) #[24, 23] ?_ (.pointer (some ⟨b1, 0, none⟩)) (.float .f64 key) ?_ ?_ ?_ (ent_at _ _) ?_
            · rfl
            · rfl
            · rfl
            · rfl
            · rfl
            refine (HA2.out _ ((Old.refl w6).drew)).mono ?_
            rintro o x80 ⟨rfl, b80⟩
            refine ⟨_, rfl, ?_⟩
            have U80 := ((Old.refl w6).drew).trans b80
            refine hK.out _ _ (OpB.old U80 S6.out) (fun _ => ?_)
            clear hK K
            (try simp only [Act.put]); (try simp only [List.setIfInBounds_toArray]); (try simp only [List.set_cons_succ]); (try simp only [List.set_cons_zero])
            refine wpAnyH_take (i := 4) (oi := { dst := some 52, op := Op.binOp BinOp.lss 2 (Operand.tmp 50) (Operand.tmp 51) 2, type := 4, pos := "law.go:83", after := #[{ on := 2, ground := Ground.data }, { on := 3, ground := Ground.data }], guard := none }) (v := ?vk81) rfl (by kernel_rfl) (by kernel_rfl) (by kernel_rfl) (fun _ _ _ h => h) (Or.inl ⟨by rfl, ?hk81⟩) (OpB.old U80 S6.out) ?rk81
            case hk81 => (intro wz hSw; (try dsimp only at hSw); go_simp; try with_reducible rfl)
            (try simp only [Act.put]); (try simp only [List.setIfInBounds_toArray]); (try simp only [List.set_cons_succ]); (try simp only [List.set_cons_zero])
            refine wpAnyH_take (i := 5) (oi := { dst := some 53, op := Op.move (Operand.tmp 52), type := 4, pos := "law.go:83", after := #[{ on := 4, ground := Ground.data }, { on := 2, ground := Ground.chain }], guard := none }) (v := ?vk82) rfl (by kernel_rfl) (by kernel_rfl) (by kernel_rfl) (fun _ _ _ h => h) (Or.inl ⟨by rfl, ?hk82⟩) (OpB.old U80 S6.out) ?rk82
            case hk82 => (intro wz hSw; (try dsimp only at hSw); go_simp; try with_reducible rfl)
            (try simp only [Act.put]); (try simp only [List.setIfInBounds_toArray]); (try simp only [List.set_cons_succ]); (try simp only [List.set_cons_zero])
            refine wpAnyH_take (i := 6) (oi := { dst := some 54, op := Op.move (Operand.tmp 10), type := 31, pos := "law.go:83", after := #[{ on := 5, ground := Ground.guard }], guard := some (5, false) }) (v := ?vk83) rfl (by kernel_rfl) (by kernel_rfl) (by kernel_rfl) (fun _ _ _ h => h) (Or.inl ⟨by rfl, ?hk83⟩) (OpB.old U80 S6.out) ?rk83
            case hk83 => (intro wz hSw; (try dsimp only at hSw); go_simp; try with_reducible rfl)
            (try simp only [Act.put]); (try simp only [List.setIfInBounds_toArray]); (try simp only [List.set_cons_succ]); (try simp only [List.set_cons_zero])
            refine wpAnyH_take (i := 7) (oi := { dst := some 55, op := Op.binOp BinOp.eql 31 (Operand.tmp 54) (Operand.const (Value.int IntKind.i64 0)) 31, type := 4, pos := "law.go:83", after := #[{ on := 6, ground := Ground.data }, { on := 5, ground := Ground.guard }], guard := some (5, false) }) (v := ?vk84) rfl (by kernel_rfl) (by kernel_rfl) (by kernel_rfl) (fun _ _ _ h => h) (Or.inl ⟨by rfl, ?hk84⟩) (OpB.old U80 S6.out) ?rk84
            case hk84 => (intro wz hSw; (try dsimp only at hSw); go_simp; try with_reducible rfl)
            (try simp only [Act.put]); (try simp only [List.setIfInBounds_toArray]); (try simp only [List.set_cons_succ]); (try simp only [List.set_cons_zero])
            refine wpAnyH_take (i := 8) (oi := { dst := some 56, op := Op.move (Operand.tmp 55), type := 4, pos := "law.go:83", after := #[{ on := 7, ground := Ground.data }, { on := 5, ground := Ground.chain }, { on := 5, ground := Ground.guard }], guard := some (5, false) }) (v := ?vk85) rfl (by kernel_rfl) (by kernel_rfl) (by kernel_rfl) (fun _ _ _ h => h) (Or.inl ⟨by rfl, ?hk85⟩) (OpB.old U80 S6.out) ?rk85
            case hk85 => (intro wz hSw; (try dsimp only at hSw); go_simp; try with_reducible rfl)
            (try simp only [Act.put]); (try simp only [List.setIfInBounds_toArray]); (try simp only [List.set_cons_succ]); (try simp only [List.set_cons_zero])
            refine wpAnyH_take (i := 9) (oi := { dst := some 57, op := Op.fieldAddr 30 (Operand.tmp 8) 1, type := 0, pos := "law.go:83", after := #[{ on := 8, ground := Ground.guard }], guard := some (8, true) }) (v := ?vk86) rfl (by kernel_rfl) (by kernel_rfl) (by kernel_rfl) (fun _ _ _ h => h) (Or.inl ⟨by rfl, ?hk86⟩) (OpB.old U80 S6.out) ?rk86
            case hk86 => (intro wz hSw; (try dsimp only at hSw); go_simp; try with_reducible rfl)
            (try simp only [Act.put]); (try simp only [List.setIfInBounds_toArray]); (try simp only [List.set_cons_succ]); (try simp only [List.set_cons_zero])
            refine wpAnyH_take (i := 10) (oi := { dst := some 58, op := Op.load 28 (Operand.tmp 57), type := 28, pos := "law.go:83", after := #[{ on := 9, ground := Ground.data }, { on := 8, ground := Ground.guard }], guard := some (8, true) }) (v := ?vk87) rfl (by kernel_rfl) (by kernel_rfl) (by kernel_rfl) (fun _ _ _ h => h) (Or.inl ⟨by rfl, ?hk87⟩) (OpB.old U80 S6.out) ?rk87
            case hk87 => (intro wz hSw; (try dsimp only at hSw); go_simp; try with_reducible rfl)
            (try simp only [Act.put]); (try simp only [List.setIfInBounds_toArray]); (try simp only [List.set_cons_succ]); (try simp only [List.set_cons_zero])
            refine wpAnyH_take (i := 11) (oi := { dst := some 59, op := Op.move (Operand.tmp 1), type := 23, pos := "law.go:83", after := #[{ on := 8, ground := Ground.guard }], guard := some (8, true) }) (v := ?vk88) rfl (by kernel_rfl) (by kernel_rfl) (by kernel_rfl) (fun _ _ _ h => h) (Or.inl ⟨by rfl, ?hk88⟩) (OpB.old U80 S6.out) ?rk88
            case hk88 => (intro wz hSw; (try dsimp only at hSw); go_simp; try with_reducible rfl)
            (try simp only [Act.put]); (try simp only [List.setIfInBounds_toArray]); (try simp only [List.set_cons_succ]); (try simp only [List.set_cons_zero])
            refine wpAnyH_ready (rs := [12]) (by kernel_rfl) (by simp) ?_
            refine AllReadyH.cons (o := { dst := some 60, op := Op.call { callee := Callee.value (Operand.func 12), args := #[Operand.tmp 58, Operand.tmp 59], argTypes := #[28, 23] }, type := 4, pos := "law.go:83", after := #[{ on := 10, ground := Ground.data }, { on := 11, ground := Ground.data }, { on := 8, ground := Ground.chain }, { on := 8, ground := Ground.guard }], guard := some (8, true) }) rfl (fun K hK => ?_) AllReadyH.nil
            refine wantCall2 ?_ 12 (.tmp 58) (.tmp 59) #[28, 23] ?_ (.agg #[.float .f64 z.a, .float .f64 z.b, .bool z.p, .bool z.q]) (.float .f64 key) ?_ ?_ ?_ (ent_has _ _) ?_
            · rfl
            · rfl
            · rfl
            · rfl
            · rfl
            refine (HH3.out _ U80).mono ?_
            rintro o x89 ⟨rfl, b89⟩
            refine ⟨_, rfl, ?_⟩
            have U89 := U80.trans b89
            refine hK.out _ _ (OpB.old U89 S6.out) (fun _ => ?_)
            clear hK K
            (try simp only [Act.put]); (try simp only [List.setIfInBounds_toArray]); (try simp only [List.set_cons_succ]); (try simp only [List.set_cons_zero])
            refine wpAnyH_take (i := 13) (oi := { dst := some 61, op := Op.pick (Operand.tmp 56) (Operand.tmp 60) (Operand.const (Value.bool false)), type := 4, pos := "law.go:83", after := #[{ on := 8, ground := Ground.data }, { on := 12, ground := Ground.data }, { on := 5, ground := Ground.guard }], guard := some (5, false) }) (v := ?vk90) rfl (by kernel_rfl) (by kernel_rfl) (by kernel_rfl) (fun _ _ _ h => h) (Or.inl ⟨by rfl, ?hk90⟩) (OpB.old U89 S6.out) ?rk90
            case hk90 => (intro wz hSw; (try dsimp only at hSw); go_simp; try with_reducible rfl)
            (try simp only [Act.put]); (try simp only [List.setIfInBounds_toArray]); (try simp only [List.set_cons_succ]); (try simp only [List.set_cons_zero])
            refine wpAnyH_take (i := 14) (oi := { dst := some 62, op := Op.move (Operand.tmp 61), type := 4, pos := "law.go:83", after := #[{ on := 13, ground := Ground.data }, { on := 12, ground := Ground.chain }, { on := 5, ground := Ground.guard }], guard := some (5, false) }) (v := ?vk91) rfl (by kernel_rfl) (by kernel_rfl) (by kernel_rfl) (fun _ _ _ h => h) (Or.inl ⟨by rfl, ?hk91⟩) (OpB.old U89 S6.out) ?rk91
            case hk91 => (intro wz hSw; (try dsimp only at hSw); go_simp; try with_reducible rfl)
            (try simp only [Act.put]); (try simp only [List.setIfInBounds_toArray]); (try simp only [List.set_cons_succ]); (try simp only [List.set_cons_zero])
            refine wpAnyH_take (i := 15) (oi := { dst := some 63, op := Op.move (Operand.tmp 5), type := 24, pos := "law.go:83", after := #[{ on := 14, ground := Ground.guard }], guard := some (14, true) }) (v := undef) rfl (by kernel_rfl) (by kernel_rfl) (by kernel_rfl) (fun _ _ _ h => h) (Or.inr ⟨by rfl, rfl⟩) (OpB.old U89 S6.out) ?_
            (try simp only [Act.put]); (try simp only [List.setIfInBounds_toArray]); (try simp only [List.set_cons_succ]); (try simp only [List.set_cons_zero])
            refine wpAnyH_take (i := 16) (oi := { dst := some 64, op := Op.move (Operand.tmp 1), type := 23, pos := "law.go:83", after := #[{ on := 14, ground := Ground.guard }], guard := some (14, true) }) (v := undef) rfl (by kernel_rfl) (by kernel_rfl) (by kernel_rfl) (fun _ _ _ h => h) (Or.inr ⟨by rfl, rfl⟩) (OpB.old U89 S6.out) ?_
            (try simp only [Act.put]); (try simp only [List.setIfInBounds_toArray]); (try simp only [List.set_cons_succ]); (try simp only [List.set_cons_zero])
            refine wpAnyH_take (i := 17) (oi := { dst := some 65, op := Op.call { callee := Callee.value (Operand.func 14), args := #[Operand.tmp 63, Operand.tmp 64], argTypes := #[24, 23] }, type := 2, pos := "law.go:83", after := #[{ on := 15, ground := Ground.data }, { on := 16, ground := Ground.data }, { on := 14, ground := Ground.chain }, { on := 14, ground := Ground.guard }], guard := some (14, true) }) (v := undef) rfl (by kernel_rfl) (by kernel_rfl) (by kernel_rfl) (fun _ _ _ h => h) (Or.inr ⟨by rfl, rfl⟩) (OpB.old U89 S6.out) ?_
            (try simp only [Act.put]); (try simp only [List.setIfInBounds_toArray]); (try simp only [List.set_cons_succ]); (try simp only [List.set_cons_zero])
            refine wpAnyH_take (i := 18) (oi := { dst := some 66, op := Op.fieldAddr 30 (Operand.tmp 8) 2, type := 0, pos := "law.go:83", after := #[{ on := 14, ground := Ground.guard }], guard := some (14, true) }) (v := undef) rfl (by kernel_rfl) (by kernel_rfl) (by kernel_rfl) (fun _ _ _ h => h) (Or.inr ⟨by rfl, rfl⟩) (OpB.old U89 S6.out) ?_
            (try simp only [Act.put]); (try simp only [List.setIfInBounds_toArray]); (try simp only [List.set_cons_succ]); (try simp only [List.set_cons_zero])
            refine wpAnyH_take (i := 19) (oi := { dst := some 67, op := Op.load 2 (Operand.tmp 66), type := 2, pos := "law.go:83", after := #[{ on := 18, ground := Ground.data }, { on := 14, ground := Ground.guard }], guard := some (14, true) }) (v := undef) rfl (by kernel_rfl) (by kernel_rfl) (by kernel_rfl) (fun _ _ _ h => h) (Or.inr ⟨by rfl, rfl⟩) (OpB.old U89 S6.out) ?_
            (try simp only [Act.put]); (try simp only [List.setIfInBounds_toArray]); (try simp only [List.set_cons_succ]); (try simp only [List.set_cons_zero])
            refine wpAnyH_take (i := 20) (oi := { dst := some 68, op := Op.binOp BinOp.lss 2 (Operand.tmp 65) (Operand.tmp 67) 2, type := 4, pos := "law.go:83", after := #[{ on := 17, ground := Ground.data }, { on := 19, ground := Ground.data }, { on := 14, ground := Ground.guard }], guard := some (14, true) }) (v := undef) rfl (by kernel_rfl) (by kernel_rfl) (by kernel_rfl) (fun _ _ _ h => h) (Or.inr ⟨by rfl, rfl⟩) (OpB.old U89 S6.out) ?_
            (try simp only [Act.put]); (try simp only [List.setIfInBounds_toArray]); (try simp only [List.set_cons_succ]); (try simp only [List.set_cons_zero])
            refine wpAnyH_take (i := 21) (oi := { dst := some 69, op := Op.pick (Operand.tmp 62) (Operand.tmp 68) (Operand.const (Value.bool false)), type := 4, pos := "law.go:83", after := #[{ on := 14, ground := Ground.data }, { on := 20, ground := Ground.data }, { on := 5, ground := Ground.guard }], guard := some (5, false) }) (v := ?vk92) rfl (by kernel_rfl) (by kernel_rfl) (by kernel_rfl) (fun _ _ _ h => h) (Or.inl ⟨by rfl, ?hk92⟩) (OpB.old U89 S6.out) ?rk92
            case hk92 => (intro wz hSw; (try dsimp only at hSw); go_simp; try with_reducible rfl)
            (try simp only [Act.put]); (try simp only [List.setIfInBounds_toArray]); (try simp only [List.set_cons_succ]); (try simp only [List.set_cons_zero])
            refine wpAnyH_take (i := 22) (oi := { dst := some 70, op := Op.pick (Operand.tmp 53) (Operand.const (Value.bool true)) (Operand.tmp 69), type := 4, pos := "law.go:83", after := #[{ on := 5, ground := Ground.data }, { on := 21, ground := Ground.data }], guard := none }) (v := ?vk93) rfl (by kernel_rfl) (by kernel_rfl) (by kernel_rfl) (fun _ _ _ h => h) (Or.inl ⟨by rfl, ?hk93⟩) (OpB.old U89 S6.out) ?rk93
            case hk93 => (intro wz hSw; (try dsimp only at hSw); go_simp; try with_reducible rfl)
            (try simp only [Act.put]); (try simp only [List.setIfInBounds_toArray]); (try simp only [List.set_cons_succ]); (try simp only [List.set_cons_zero])
            refine wpAnyH_done (by kernel_rfl) ?_ _
            refine NoPanic.normal ?_
            have U9 := hid U89
            have T7 := hid (T6.out.old U9.out)
            have HT27 := hid (HT26.out.old U9.out)
            have U7 := hid (U6.out.trans U9.out)
            clear HA2 S6 T6 HT26
            generalize x89 = w7 at *
            obtain ⟨d, hd⟩ : ∃ d : Nat, d + k + 1 = 60 := ⟨60 - 1 - k, by omega⟩
            have hdI : (60 : Int) - 1 - (k : Int) = (d : Int) := by omega
            have HDK := hid hd
            have hd3 : (59 : Int) - (k : Int) = (d : Int) := by omega
            obtain ⟨_, a9, c9, e9, _, hc9⟩ := HO.out.old U7.out
            obtain ⟨b9, off9, hsa9, hW91, hW92, p0, p1, p2, p3, p4, p5⟩ := hc9 d (by omega)
            have hW9 := And.intro hW91 hW92
            simp only [Value.slice.injEq] at e9
            obtain ⟨e91, _, rfl⟩ := e9
            rw [← e91] at hsa9
            simp only [Option.some.injEq, Addr.mk.injEq] at hsa9
            obtain ⟨rfl, rfl, _⟩ := hsa9
            have l3 : (0 : Int) ≤ (d : Int) := by omega
            have l4 : (d : Int) < (60 : Int) := by omega
            have l5 : d < 60 := by omega
            clear hc9 hd e91
            have HPB := hid (put_step f d hW9 (fun i => (i < 60 ∧ 60 < i + k + 1) ∧ okO (f i)) (fun i => (i < 60 ∧ 60 < i + (k + 1) + 1) ∧ okO (f i)) (fun i => by
              have hd := HDK.out
              constructor
              · rintro ⟨⟨a, b⟩, c⟩
                by_cases e : i = d
                · subst e; exact .inr ⟨rfl, c⟩
                · exact .inl ⟨⟨a, by omega⟩, c⟩
              · rintro (⟨⟨a, b⟩, c⟩ | ⟨rfl, c⟩)
                · exact ⟨⟨a, by omega⟩, c⟩
                · exact ⟨⟨by omega, by omega⟩, c⟩) L2 HG2.out (by have := HN2.out; omega) HH2.out)
            have HW9 := hid hW9
            clear hW9 hW91 hW92
            generalize hfd : f d = y9 at *
            go_upto_region 14 with fail
            have B8 := hid (op_new w7 y9 _ rfl)
            have U8 := hid ((Old.refl w7).alloc (.cells #[.int .i64 y9.kd, .float .f64 y9.a, .float .f64 y9.b, .bool y9.p, .bool y9.q, .int .i64 y9.n] 30))
            have T8 := hid (T7.out.old U8.out)
            have T28 := hid (HT27.out.old U8.out)
            clear p0 p1 p2 p3 p4 p5
            generalize w7.alloc (.cells #[.int .i64 y9.kd, .float .f64 y9.a, .float .f64 y9.b, .bool y9.p, .bool y9.q, .int .i64 y9.n] 30) = w8 at *
            obtain ⟨p0, p1, p2, p3, p4, p5⟩ := B8.out
            have HP2 := hid (put_any b1 b2 64 y9.n v2 L2 y9.a y9.b y9.p y9.q HW9.out.1 HW9.out.2 w8 T28.out HG2.out (by have := HN2.out; omega))
            go_wp2_with (go_at_call 9; refine HP2.out.mono ?_; rintro e w9 ⟨v2', rfl, t9, c9, n9⟩; have T9 := hid t9; have C9 := hid c9; have N9 := hid n9; clear t9 c9 n9)
            go_roundw
            case rel =>
              refine ⟨k + 1, hlt, by go_num, v1', L1', v2', _, ⟨T8.out.chg C9.out (fun e => HD6.out _ (mem_blks.2 (.inl rfl)) e) (fun g hg e => HD6.out _ (mem_blks.2 (.inr hg)) e), HPS.out.1, by have := HPS.out.2.1; have := HN1.out; omega, HPS.out.2.2.1⟩, ⟨T9.out, HPB.out.1, by have := HPB.out.2.1; have := HN2.out; omega, HPB.out.2.2.1⟩, fun g hg hg2 => ?_, (U7.out.trans U8.out).below (Below.mono (T28.out.below C9.out) (Nat.le_of_eq hwb))⟩
              have q1 := (T8.out.blk g hg).2
              rcases mem_blks.1 hg2 with e | e
              · exact HD6.out g hg (mem_blks.2 (.inl e))
              · rcases N9.out g e with r | r
                · exact HD6.out g hg (mem_blks.2 (.inr r))
                · omega
            case measure => simp [intOf]; omega
          · rw [hh] at HH3
            have hlC : ¬ A2 < z.n := by have := HC3.out hh; omega
            clear HC3 hh
            refine wp_region_noPanic ?_
            refine wp_region_held_drew (S := OpB ob z) (by kernel_rfl) ?_ (fun hHeld => ?_)
            · exact OpB.old ((Old.refl _).drew) S6.out
            (try simp only [Act.put]); (try simp only [List.setIfInBounds_toArray]); (try simp only [List.set_cons_succ]); (try simp only [List.set_cons_zero])
            clear hHeld
            refine wpAnyH_take (i := 0) (oi := { dst := some 48, op := Op.move (Operand.tmp 5), type := 24, pos := "law.go:83", after := #[], guard := none }) (v := ?vk54) rfl (by kernel_rfl) (by kernel_rfl) (by kernel_rfl) (fun _ _ _ h => h) (Or.inl ⟨by rfl, ?hk54⟩) (OpB.old ((Old.refl w6).drew) S6.out) ?rk54
            case hk54 => (intro wz hSw; (try dsimp only at hSw); go_simp; try with_reducible rfl)
            (try simp only [Act.put]); (try simp only [List.setIfInBounds_toArray]); (try simp only [List.set_cons_succ]); (try simp only [List.set_cons_zero])
            refine wpAnyH_take (i := 1) (oi := { dst := some 49, op := Op.move (Operand.tmp 1), type := 23, pos := "law.go:83", after := #[], guard := none }) (v := ?vk55) rfl (by kernel_rfl) (by kernel_rfl) (by kernel_rfl) (fun _ _ _ h => h) (Or.inl ⟨by rfl, ?hk55⟩) (OpB.old ((Old.refl w6).drew) S6.out) ?rk55
            case hk55 => (intro wz hSw; (try dsimp only at hSw); go_simp; try with_reducible rfl)
            (try simp only [Act.put]); (try simp only [List.setIfInBounds_toArray]); (try simp only [List.set_cons_succ]); (try simp only [List.set_cons_zero])
            refine wpAnyH_take (i := 3) (oi := { dst := some 51, op := Op.move (Operand.tmp 9), type := 2, pos := "law.go:83", after := #[], guard := none }) (v := ?vk56) rfl (by kernel_rfl) (by kernel_rfl) (by kernel_rfl) (fun _ _ _ h => h) (Or.inl ⟨by rfl, ?hk56⟩) (OpB.old ((Old.refl w6).drew) S6.out) ?rk56
            case hk56 => (intro wz hSw; (try dsimp only at hSw); go_simp; try with_reducible rfl)
            (try simp only [Act.put]); (try simp only [List.setIfInBounds_toArray]); (try simp only [List.set_cons_succ]); (try simp only [List.set_cons_zero])
            refine wpAnyH_ready (rs := [2]) (by kernel_rfl) (by simp) ?_
            refine AllReadyH.cons (o := { dst := some 50, op := Op.call { callee := Callee.value (Operand.func 14), args := #[Operand.tmp 48, Operand.tmp 49], argTypes := #[24, 23] }, type := 2, pos := "law.go:83", after := #[{ on := 0, ground := Ground.data }, { on := 1, ground := Ground.data }], guard := none }) rfl (fun K hK => ?_) AllReadyH.nil
            refine wantCall2 ?_ 14 (.tmp 48) (.tmp 49) #[24, 23] ?_ (.pointer (some ⟨b1, 0, none⟩)) (.float .f64 key) ?_ ?_ ?_ (ent_at _ _) ?_
            · rfl
            · rfl
            · rfl
            · rfl
            · rfl
            refine (HA2.out _ ((Old.refl w6).drew)).mono ?_
            rintro o x57 ⟨rfl, b57⟩
            refine ⟨_, rfl, ?_⟩
            have U57 := ((Old.refl w6).drew).trans b57
            refine hK.out _ _ (OpB.old U57 S6.out) (fun _ => ?_)
            clear hK K
            (try simp only [Act.put]); (try simp only [List.setIfInBounds_toArray]); (try simp only [List.set_cons_succ]); (try simp only [List.set_cons_zero])
            refine wpAnyH_take (i := 4) (oi := { dst := some 52, op := Op.binOp BinOp.lss 2 (Operand.tmp 50) (Operand.tmp 51) 2, type := 4, pos := "law.go:83", after := #[{ on := 2, ground := Ground.data }, { on := 3, ground := Ground.data }], guard := none }) (v := ?vk58) rfl (by kernel_rfl) (by kernel_rfl) (by kernel_rfl) (fun _ _ _ h => h) (Or.inl ⟨by rfl, ?hk58⟩) (OpB.old U57 S6.out) ?rk58
            case hk58 => (intro wz hSw; (try dsimp only at hSw); go_simp; try with_reducible rfl)
            (try simp only [Act.put]); (try simp only [List.setIfInBounds_toArray]); (try simp only [List.set_cons_succ]); (try simp only [List.set_cons_zero])
            refine wpAnyH_take (i := 5) (oi := { dst := some 53, op := Op.move (Operand.tmp 52), type := 4, pos := "law.go:83", after := #[{ on := 4, ground := Ground.data }, { on := 2, ground := Ground.chain }], guard := none }) (v := ?vk59) rfl (by kernel_rfl) (by kernel_rfl) (by kernel_rfl) (fun _ _ _ h => h) (Or.inl ⟨by rfl, ?hk59⟩) (OpB.old U57 S6.out) ?rk59
            case hk59 => (intro wz hSw; (try dsimp only at hSw); go_simp; try with_reducible rfl)
            (try simp only [Act.put]); (try simp only [List.setIfInBounds_toArray]); (try simp only [List.set_cons_succ]); (try simp only [List.set_cons_zero])
            refine wpAnyH_take (i := 6) (oi := { dst := some 54, op := Op.move (Operand.tmp 10), type := 31, pos := "law.go:83", after := #[{ on := 5, ground := Ground.guard }], guard := some (5, false) }) (v := ?vk60) rfl (by kernel_rfl) (by kernel_rfl) (by kernel_rfl) (fun _ _ _ h => h) (Or.inl ⟨by rfl, ?hk60⟩) (OpB.old U57 S6.out) ?rk60
            case hk60 => (intro wz hSw; (try dsimp only at hSw); go_simp; try with_reducible rfl)
            (try simp only [Act.put]); (try simp only [List.setIfInBounds_toArray]); (try simp only [List.set_cons_succ]); (try simp only [List.set_cons_zero])
            refine wpAnyH_take (i := 7) (oi := { dst := some 55, op := Op.binOp BinOp.eql 31 (Operand.tmp 54) (Operand.const (Value.int IntKind.i64 0)) 31, type := 4, pos := "law.go:83", after := #[{ on := 6, ground := Ground.data }, { on := 5, ground := Ground.guard }], guard := some (5, false) }) (v := ?vk61) rfl (by kernel_rfl) (by kernel_rfl) (by kernel_rfl) (fun _ _ _ h => h) (Or.inl ⟨by rfl, ?hk61⟩) (OpB.old U57 S6.out) ?rk61
            case hk61 => (intro wz hSw; (try dsimp only at hSw); go_simp; try with_reducible rfl)
            (try simp only [Act.put]); (try simp only [List.setIfInBounds_toArray]); (try simp only [List.set_cons_succ]); (try simp only [List.set_cons_zero])
            refine wpAnyH_take (i := 8) (oi := { dst := some 56, op := Op.move (Operand.tmp 55), type := 4, pos := "law.go:83", after := #[{ on := 7, ground := Ground.data }, { on := 5, ground := Ground.chain }, { on := 5, ground := Ground.guard }], guard := some (5, false) }) (v := ?vk62) rfl (by kernel_rfl) (by kernel_rfl) (by kernel_rfl) (fun _ _ _ h => h) (Or.inl ⟨by rfl, ?hk62⟩) (OpB.old U57 S6.out) ?rk62
            case hk62 => (intro wz hSw; (try dsimp only at hSw); go_simp; try with_reducible rfl)
            (try simp only [Act.put]); (try simp only [List.setIfInBounds_toArray]); (try simp only [List.set_cons_succ]); (try simp only [List.set_cons_zero])
            refine wpAnyH_take (i := 9) (oi := { dst := some 57, op := Op.fieldAddr 30 (Operand.tmp 8) 1, type := 0, pos := "law.go:83", after := #[{ on := 8, ground := Ground.guard }], guard := some (8, true) }) (v := ?vk63) rfl (by kernel_rfl) (by kernel_rfl) (by kernel_rfl) (fun _ _ _ h => h) (Or.inl ⟨by rfl, ?hk63⟩) (OpB.old U57 S6.out) ?rk63
            case hk63 => (intro wz hSw; (try dsimp only at hSw); go_simp; try with_reducible rfl)
            (try simp only [Act.put]); (try simp only [List.setIfInBounds_toArray]); (try simp only [List.set_cons_succ]); (try simp only [List.set_cons_zero])
            refine wpAnyH_take (i := 10) (oi := { dst := some 58, op := Op.load 28 (Operand.tmp 57), type := 28, pos := "law.go:83", after := #[{ on := 9, ground := Ground.data }, { on := 8, ground := Ground.guard }], guard := some (8, true) }) (v := ?vk64) rfl (by kernel_rfl) (by kernel_rfl) (by kernel_rfl) (fun _ _ _ h => h) (Or.inl ⟨by rfl, ?hk64⟩) (OpB.old U57 S6.out) ?rk64
            case hk64 => (intro wz hSw; (try dsimp only at hSw); go_simp; try with_reducible rfl)
            (try simp only [Act.put]); (try simp only [List.setIfInBounds_toArray]); (try simp only [List.set_cons_succ]); (try simp only [List.set_cons_zero])
            refine wpAnyH_take (i := 11) (oi := { dst := some 59, op := Op.move (Operand.tmp 1), type := 23, pos := "law.go:83", after := #[{ on := 8, ground := Ground.guard }], guard := some (8, true) }) (v := ?vk65) rfl (by kernel_rfl) (by kernel_rfl) (by kernel_rfl) (fun _ _ _ h => h) (Or.inl ⟨by rfl, ?hk65⟩) (OpB.old U57 S6.out) ?rk65
            case hk65 => (intro wz hSw; (try dsimp only at hSw); go_simp; try with_reducible rfl)
            (try simp only [Act.put]); (try simp only [List.setIfInBounds_toArray]); (try simp only [List.set_cons_succ]); (try simp only [List.set_cons_zero])
            refine wpAnyH_ready (rs := [12]) (by kernel_rfl) (by simp) ?_
            refine AllReadyH.cons (o := { dst := some 60, op := Op.call { callee := Callee.value (Operand.func 12), args := #[Operand.tmp 58, Operand.tmp 59], argTypes := #[28, 23] }, type := 4, pos := "law.go:83", after := #[{ on := 10, ground := Ground.data }, { on := 11, ground := Ground.data }, { on := 8, ground := Ground.chain }, { on := 8, ground := Ground.guard }], guard := some (8, true) }) rfl (fun K hK => ?_) AllReadyH.nil
            refine wantCall2 ?_ 12 (.tmp 58) (.tmp 59) #[28, 23] ?_ (.agg #[.float .f64 z.a, .float .f64 z.b, .bool z.p, .bool z.q]) (.float .f64 key) ?_ ?_ ?_ (ent_has _ _) ?_
            · rfl
            · rfl
            · rfl
            · rfl
            · rfl
            refine (HH3.out _ U57).mono ?_
            rintro o x66 ⟨rfl, b66⟩
            refine ⟨_, rfl, ?_⟩
            have U66 := U57.trans b66
            refine hK.out _ _ (OpB.old U66 S6.out) (fun _ => ?_)
            clear hK K
            (try simp only [Act.put]); (try simp only [List.setIfInBounds_toArray]); (try simp only [List.set_cons_succ]); (try simp only [List.set_cons_zero])
            refine wpAnyH_take (i := 13) (oi := { dst := some 61, op := Op.pick (Operand.tmp 56) (Operand.tmp 60) (Operand.const (Value.bool false)), type := 4, pos := "law.go:83", after := #[{ on := 8, ground := Ground.data }, { on := 12, ground := Ground.data }, { on := 5, ground := Ground.guard }], guard := some (5, false) }) (v := ?vk67) rfl (by kernel_rfl) (by kernel_rfl) (by kernel_rfl) (fun _ _ _ h => h) (Or.inl ⟨by rfl, ?hk67⟩) (OpB.old U66 S6.out) ?rk67
            case hk67 => (intro wz hSw; (try dsimp only at hSw); go_simp; try with_reducible rfl)
            (try simp only [Act.put]); (try simp only [List.setIfInBounds_toArray]); (try simp only [List.set_cons_succ]); (try simp only [List.set_cons_zero])
            refine wpAnyH_take (i := 14) (oi := { dst := some 62, op := Op.move (Operand.tmp 61), type := 4, pos := "law.go:83", after := #[{ on := 13, ground := Ground.data }, { on := 12, ground := Ground.chain }, { on := 5, ground := Ground.guard }], guard := some (5, false) }) (v := ?vk68) rfl (by kernel_rfl) (by kernel_rfl) (by kernel_rfl) (fun _ _ _ h => h) (Or.inl ⟨by rfl, ?hk68⟩) (OpB.old U66 S6.out) ?rk68
            case hk68 => (intro wz hSw; (try dsimp only at hSw); go_simp; try with_reducible rfl)
            (try simp only [Act.put]); (try simp only [List.setIfInBounds_toArray]); (try simp only [List.set_cons_succ]); (try simp only [List.set_cons_zero])
            refine wpAnyH_take (i := 15) (oi := { dst := some 63, op := Op.move (Operand.tmp 5), type := 24, pos := "law.go:83", after := #[{ on := 14, ground := Ground.guard }], guard := some (14, true) }) (v := ?vk69) rfl (by kernel_rfl) (by kernel_rfl) (by kernel_rfl) (fun _ _ _ h => h) (Or.inl ⟨by rfl, ?hk69⟩) (OpB.old U66 S6.out) ?rk69
            case hk69 => (intro wz hSw; (try dsimp only at hSw); go_simp; try with_reducible rfl)
            (try simp only [Act.put]); (try simp only [List.setIfInBounds_toArray]); (try simp only [List.set_cons_succ]); (try simp only [List.set_cons_zero])
            refine wpAnyH_take (i := 16) (oi := { dst := some 64, op := Op.move (Operand.tmp 1), type := 23, pos := "law.go:83", after := #[{ on := 14, ground := Ground.guard }], guard := some (14, true) }) (v := ?vk70) rfl (by kernel_rfl) (by kernel_rfl) (by kernel_rfl) (fun _ _ _ h => h) (Or.inl ⟨by rfl, ?hk70⟩) (OpB.old U66 S6.out) ?rk70
            case hk70 => (intro wz hSw; (try dsimp only at hSw); go_simp; try with_reducible rfl)
            (try simp only [Act.put]); (try simp only [List.setIfInBounds_toArray]); (try simp only [List.set_cons_succ]); (try simp only [List.set_cons_zero])
            refine wpAnyH_take (i := 18) (oi := { dst := some 66, op := Op.fieldAddr 30 (Operand.tmp 8) 2, type := 0, pos := "law.go:83", after := #[{ on := 14, ground := Ground.guard }], guard := some (14, true) }) (v := ?vk71) rfl (by kernel_rfl) (by kernel_rfl) (by kernel_rfl) (fun _ _ _ h => h) (Or.inl ⟨by rfl, ?hk71⟩) (OpB.old U66 S6.out) ?rk71
            case hk71 => (intro wz hSw; (try dsimp only at hSw); go_simp; try with_reducible rfl)
            (try simp only [Act.put]); (try simp only [List.setIfInBounds_toArray]); (try simp only [List.set_cons_succ]); (try simp only [List.set_cons_zero])
            refine wpAnyH_take (i := 19) (oi := { dst := some 67, op := Op.load 2 (Operand.tmp 66), type := 2, pos := "law.go:83", after := #[{ on := 18, ground := Ground.data }, { on := 14, ground := Ground.guard }], guard := some (14, true) }) (v := ?vk72) rfl (by kernel_rfl) (by kernel_rfl) (by kernel_rfl) (fun _ _ _ h => h) (Or.inl ⟨by rfl, ?hk72⟩) (OpB.old U66 S6.out) ?rk72
            case hk72 => (intro wz hSw; (try dsimp only at hSw); go_simp; try with_reducible rfl)
            (try simp only [Act.put]); (try simp only [List.setIfInBounds_toArray]); (try simp only [List.set_cons_succ]); (try simp only [List.set_cons_zero])
            refine wpAnyH_ready (rs := [17]) (by kernel_rfl) (by simp) ?_
            refine AllReadyH.cons (o := { dst := some 65, op := Op.call { callee := Callee.value (Operand.func 14), args := #[Operand.tmp 63, Operand.tmp 64], argTypes := #[24, 23] }, type := 2, pos := "law.go:83", after := #[{ on := 15, ground := Ground.data }, { on := 16, ground := Ground.data }, { on := 14, ground := Ground.chain }, { on := 14, ground := Ground.guard }], guard := some (14, true) }) rfl (fun K hK => ?_) AllReadyH.nil
            refine wantCall2 ?_ 14 (.tmp 63) (.tmp 64) #[24, 23] ?_ (.pointer (some ⟨b1, 0, none⟩)) (.float .f64 key) ?_ ?_ ?_ (ent_at _ _) ?_
            · rfl
            · rfl
            · rfl
            · rfl
            · rfl
            refine (HA2.out _ U66).mono ?_
            rintro o x73 ⟨rfl, b73⟩
            refine ⟨_, rfl, ?_⟩
            have U73 := U66.trans b73
            refine hK.out _ _ (OpB.old U73 S6.out) (fun _ => ?_)
            clear hK K
            (try simp only [Act.put]); (try simp only [List.setIfInBounds_toArray]); (try simp only [List.set_cons_succ]); (try simp only [List.set_cons_zero])
            refine wpAnyH_take (i := 20) (oi := { dst := some 68, op := Op.binOp BinOp.lss 2 (Operand.tmp 65) (Operand.tmp 67) 2, type := 4, pos := "law.go:83", after := #[{ on := 17, ground := Ground.data }, { on := 19, ground := Ground.data }, { on := 14, ground := Ground.guard }], guard := some (14, true) }) (v := ?vk74) rfl (by kernel_rfl) (by kernel_rfl) (by kernel_rfl) (fun _ _ _ h => h) (Or.inl ⟨by rfl, ?hk74⟩) (OpB.old U73 S6.out) ?rk74
            case hk74 => (intro wz hSw; (try dsimp only at hSw); go_simp; try with_reducible rfl)
            (try simp only [Act.put]); (try simp only [List.setIfInBounds_toArray]); (try simp only [List.set_cons_succ]); (try simp only [List.set_cons_zero])
            refine wpAnyH_take (i := 21) (oi := { dst := some 69, op := Op.pick (Operand.tmp 62) (Operand.tmp 68) (Operand.const (Value.bool false)), type := 4, pos := "law.go:83", after := #[{ on := 14, ground := Ground.data }, { on := 20, ground := Ground.data }, { on := 5, ground := Ground.guard }], guard := some (5, false) }) (v := ?vk75) rfl (by kernel_rfl) (by kernel_rfl) (by kernel_rfl) (fun _ _ _ h => h) (Or.inl ⟨by rfl, ?hk75⟩) (OpB.old U73 S6.out) ?rk75
            case hk75 => (intro wz hSw; (try dsimp only at hSw); go_simp; try with_reducible rfl)
            (try simp only [Act.put]); (try simp only [List.setIfInBounds_toArray]); (try simp only [List.set_cons_succ]); (try simp only [List.set_cons_zero])
            refine wpAnyH_take (i := 22) (oi := { dst := some 70, op := Op.pick (Operand.tmp 53) (Operand.const (Value.bool true)) (Operand.tmp 69), type := 4, pos := "law.go:83", after := #[{ on := 5, ground := Ground.data }, { on := 21, ground := Ground.data }], guard := none }) (v := ?vk76) rfl (by kernel_rfl) (by kernel_rfl) (by kernel_rfl) (fun _ _ _ h => h) (Or.inl ⟨by rfl, ?hk76⟩) (OpB.old U73 S6.out) ?rk76
            case hk76 => (intro wz hSw; (try dsimp only at hSw); go_simp; try with_reducible rfl)
            (try simp only [Act.put]); (try simp only [List.setIfInBounds_toArray]); (try simp only [List.set_cons_succ]); (try simp only [List.set_cons_zero])
            refine wpAnyH_done (by kernel_rfl) ?_ _
            refine NoPanic.normal ?_
            have U9 := hid U73
            have T7 := hid (T6.out.old U9.out)
            have HT27 := hid (HT26.out.old U9.out)
            have U7 := hid (U6.out.trans U9.out)
            clear HA2 S6 T6 HT26
            generalize x73 = w7 at *
            obtain ⟨d, hd⟩ : ∃ d : Nat, d + k + 1 = 60 := ⟨60 - 1 - k, by omega⟩
            have hdI : (60 : Int) - 1 - (k : Int) = (d : Int) := by omega
            have HDK := hid hd
            have hd3 : (59 : Int) - (k : Int) = (d : Int) := by omega
            obtain ⟨_, a9, c9, e9, _, hc9⟩ := HO.out.old U7.out
            obtain ⟨b9, off9, hsa9, hW91, hW92, p0, p1, p2, p3, p4, p5⟩ := hc9 d (by omega)
            have hW9 := And.intro hW91 hW92
            simp only [Value.slice.injEq] at e9
            obtain ⟨e91, _, rfl⟩ := e9
            rw [← e91] at hsa9
            simp only [Option.some.injEq, Addr.mk.injEq] at hsa9
            obtain ⟨rfl, rfl, _⟩ := hsa9
            have l3 : (0 : Int) ≤ (d : Int) := by omega
            have l4 : (d : Int) < (60 : Int) := by omega
            have l5 : d < 60 := by omega
            clear hc9 hd e91
            have HPB := hid (put_step f d hW9 (fun i => (i < 60 ∧ 60 < i + k + 1) ∧ okO (f i)) (fun i => (i < 60 ∧ 60 < i + (k + 1) + 1) ∧ okO (f i)) (fun i => by
              have hd := HDK.out
              constructor
              · rintro ⟨⟨a, b⟩, c⟩
                by_cases e : i = d
                · subst e; exact .inr ⟨rfl, c⟩
                · exact .inl ⟨⟨a, by omega⟩, c⟩
              · rintro (⟨⟨a, b⟩, c⟩ | ⟨rfl, c⟩)
                · exact ⟨⟨a, by omega⟩, c⟩
                · exact ⟨⟨by omega, by omega⟩, c⟩) L2 HG2.out (by have := HN2.out; omega) HH2.out)
            have HW9 := hid hW9
            clear hW9 hW91 hW92
            generalize hfd : f d = y9 at *
            go_upto_region 14 with fail
            have B8 := hid (op_new w7 y9 _ rfl)
            have U8 := hid ((Old.refl w7).alloc (.cells #[.int .i64 y9.kd, .float .f64 y9.a, .float .f64 y9.b, .bool y9.p, .bool y9.q, .int .i64 y9.n] 30))
            have T8 := hid (T7.out.old U8.out)
            have T28 := hid (HT27.out.old U8.out)
            clear p0 p1 p2 p3 p4 p5
            generalize w7.alloc (.cells #[.int .i64 y9.kd, .float .f64 y9.a, .float .f64 y9.b, .bool y9.p, .bool y9.q, .int .i64 y9.n] 30) = w8 at *
            obtain ⟨p0, p1, p2, p3, p4, p5⟩ := B8.out
            have HP2 := hid (put_any b1 b2 64 y9.n v2 L2 y9.a y9.b y9.p y9.q HW9.out.1 HW9.out.2 w8 T28.out HG2.out (by have := HN2.out; omega))
            go_wp2_with (go_at_call 9; refine HP2.out.mono ?_; rintro e w9 ⟨v2', rfl, t9, c9, n9⟩; have T9 := hid t9; have C9 := hid c9; have N9 := hid n9; clear t9 c9 n9)
            go_roundw
            case rel =>
              refine ⟨k + 1, hlt, by go_num, v1', L1', v2', _, ⟨T8.out.chg C9.out (fun e => HD6.out _ (mem_blks.2 (.inl rfl)) e) (fun g hg e => HD6.out _ (mem_blks.2 (.inr hg)) e), HPS.out.1, by have := HPS.out.2.1; have := HN1.out; omega, HPS.out.2.2.1⟩, ⟨T9.out, HPB.out.1, by have := HPB.out.2.1; have := HN2.out; omega, HPB.out.2.2.1⟩, fun g hg hg2 => ?_, (U7.out.trans U8.out).below (Below.mono (T28.out.below C9.out) (Nat.le_of_eq hwb))⟩
              have q1 := (T8.out.blk g hg).2
              rcases mem_blks.1 hg2 with e | e
              · exact HD6.out g hg (mem_blks.2 (.inl e))
              · rcases N9.out g e with r | r
                · exact HD6.out g hg (mem_blks.2 (.inr r))
                · omega
            case measure => simp [intOf]; omega
        · have hez2 : (ec == 0) = false := by rw [beq_eq_false_iff_ne]; exact hez
          clear HOK HH3
          refine wp_region_noPanic ?_
          refine wp_region_held_drew (S := OpB ob z) (by kernel_rfl) ?_ (fun hHeld => ?_)
          · exact OpB.old ((Old.refl _).drew) S6.out
          (try simp only [Act.put]); (try simp only [List.setIfInBounds_toArray]); (try simp only [List.set_cons_succ]); (try simp only [List.set_cons_zero])
          clear hHeld
          refine wpAnyH_take (i := 0) (oi := { dst := some 48, op := Op.move (Operand.tmp 5), type := 24, pos := "law.go:83", after := #[], guard := none }) (v := ?vk94) rfl (by kernel_rfl) (by kernel_rfl) (by kernel_rfl) (fun _ _ _ h => h) (Or.inl ⟨by rfl, ?hk94⟩) (OpB.old ((Old.refl w6).drew) S6.out) ?rk94
          case hk94 => (intro wz hSw; (try dsimp only at hSw); go_simp; try with_reducible rfl)
          (try simp only [Act.put]); (try simp only [List.setIfInBounds_toArray]); (try simp only [List.set_cons_succ]); (try simp only [List.set_cons_zero])
          refine wpAnyH_take (i := 1) (oi := { dst := some 49, op := Op.move (Operand.tmp 1), type := 23, pos := "law.go:83", after := #[], guard := none }) (v := ?vk95) rfl (by kernel_rfl) (by kernel_rfl) (by kernel_rfl) (fun _ _ _ h => h) (Or.inl ⟨by rfl, ?hk95⟩) (OpB.old ((Old.refl w6).drew) S6.out) ?rk95
          case hk95 => (intro wz hSw; (try dsimp only at hSw); go_simp; try with_reducible rfl)
          (try simp only [Act.put]); (try simp only [List.setIfInBounds_toArray]); (try simp only [List.set_cons_succ]); (try simp only [List.set_cons_zero])
          refine wpAnyH_take (i := 3) (oi := { dst := some 51, op := Op.move (Operand.tmp 9), type := 2, pos := "law.go:83", after := #[], guard := none }) (v := ?vk96) rfl (by kernel_rfl) (by kernel_rfl) (by kernel_rfl) (fun _ _ _ h => h) (Or.inl ⟨by rfl, ?hk96⟩) (OpB.old ((Old.refl w6).drew) S6.out) ?rk96
          case hk96 => (intro wz hSw; (try dsimp only at hSw); go_simp; try with_reducible rfl)
          (try simp only [Act.put]); (try simp only [List.setIfInBounds_toArray]); (try simp only [List.set_cons_succ]); (try simp only [List.set_cons_zero])
          refine wpAnyH_ready (rs := [2]) (by kernel_rfl) (by simp) ?_
          refine AllReadyH.cons (o := { dst := some 50, op := Op.call { callee := Callee.value (Operand.func 14), args := #[Operand.tmp 48, Operand.tmp 49], argTypes := #[24, 23] }, type := 2, pos := "law.go:83", after := #[{ on := 0, ground := Ground.data }, { on := 1, ground := Ground.data }], guard := none }) rfl (fun K hK => ?_) AllReadyH.nil
          refine wantCall2 ?_ 14 (.tmp 48) (.tmp 49) #[24, 23] ?_ (.pointer (some ⟨b1, 0, none⟩)) (.float .f64 key) ?_ ?_ ?_ (ent_at _ _) ?_
          · rfl
          · rfl
          · rfl
          · rfl
          · rfl
          refine (HA2.out _ ((Old.refl w6).drew)).mono ?_
          rintro o x97 ⟨rfl, b97⟩
          refine ⟨_, rfl, ?_⟩
          have U97 := ((Old.refl w6).drew).trans b97
          refine hK.out _ _ (OpB.old U97 S6.out) (fun _ => ?_)
          clear hK K
          (try simp only [Act.put]); (try simp only [List.setIfInBounds_toArray]); (try simp only [List.set_cons_succ]); (try simp only [List.set_cons_zero])
          refine wpAnyH_take (i := 4) (oi := { dst := some 52, op := Op.binOp BinOp.lss 2 (Operand.tmp 50) (Operand.tmp 51) 2, type := 4, pos := "law.go:83", after := #[{ on := 2, ground := Ground.data }, { on := 3, ground := Ground.data }], guard := none }) (v := ?vk98) rfl (by kernel_rfl) (by kernel_rfl) (by kernel_rfl) (fun _ _ _ h => h) (Or.inl ⟨by rfl, ?hk98⟩) (OpB.old U97 S6.out) ?rk98
          case hk98 => (intro wz hSw; (try dsimp only at hSw); go_simp; try with_reducible rfl)
          (try simp only [Act.put]); (try simp only [List.setIfInBounds_toArray]); (try simp only [List.set_cons_succ]); (try simp only [List.set_cons_zero])
          refine wpAnyH_take (i := 5) (oi := { dst := some 53, op := Op.move (Operand.tmp 52), type := 4, pos := "law.go:83", after := #[{ on := 4, ground := Ground.data }, { on := 2, ground := Ground.chain }], guard := none }) (v := ?vk99) rfl (by kernel_rfl) (by kernel_rfl) (by kernel_rfl) (fun _ _ _ h => h) (Or.inl ⟨by rfl, ?hk99⟩) (OpB.old U97 S6.out) ?rk99
          case hk99 => (intro wz hSw; (try dsimp only at hSw); go_simp; try with_reducible rfl)
          (try simp only [Act.put]); (try simp only [List.setIfInBounds_toArray]); (try simp only [List.set_cons_succ]); (try simp only [List.set_cons_zero])
          refine wpAnyH_take (i := 6) (oi := { dst := some 54, op := Op.move (Operand.tmp 10), type := 31, pos := "law.go:83", after := #[{ on := 5, ground := Ground.guard }], guard := some (5, false) }) (v := ?vk100) rfl (by kernel_rfl) (by kernel_rfl) (by kernel_rfl) (fun _ _ _ h => h) (Or.inl ⟨by rfl, ?hk100⟩) (OpB.old U97 S6.out) ?rk100
          case hk100 => (intro wz hSw; (try dsimp only at hSw); go_simp; try with_reducible rfl)
          (try simp only [Act.put]); (try simp only [List.setIfInBounds_toArray]); (try simp only [List.set_cons_succ]); (try simp only [List.set_cons_zero])
          refine wpAnyH_take (i := 7) (oi := { dst := some 55, op := Op.binOp BinOp.eql 31 (Operand.tmp 54) (Operand.const (Value.int IntKind.i64 0)) 31, type := 4, pos := "law.go:83", after := #[{ on := 6, ground := Ground.data }, { on := 5, ground := Ground.guard }], guard := some (5, false) }) (v := ?vk101) rfl (by kernel_rfl) (by kernel_rfl) (by kernel_rfl) (fun _ _ _ h => h) (Or.inl ⟨by rfl, ?hk101⟩) (OpB.old U97 S6.out) ?rk101
          case hk101 => (intro wz hSw; (try dsimp only at hSw); go_simp; try with_reducible rfl)
          (try simp only [Act.put]); (try simp only [List.setIfInBounds_toArray]); (try simp only [List.set_cons_succ]); (try simp only [List.set_cons_zero])
          refine wpAnyH_take (i := 8) (oi := { dst := some 56, op := Op.move (Operand.tmp 55), type := 4, pos := "law.go:83", after := #[{ on := 7, ground := Ground.data }, { on := 5, ground := Ground.chain }, { on := 5, ground := Ground.guard }], guard := some (5, false) }) (v := ?vk102) rfl (by kernel_rfl) (by kernel_rfl) (by kernel_rfl) (fun _ _ _ h => h) (Or.inl ⟨by rfl, ?hk102⟩) (OpB.old U97 S6.out) ?rk102
          case hk102 => (intro wz hSw; (try dsimp only at hSw); go_simp; try with_reducible rfl)
          (try simp only [Act.put]); (try simp only [List.setIfInBounds_toArray]); (try simp only [List.set_cons_succ]); (try simp only [List.set_cons_zero])
          refine wpAnyH_take (i := 9) (oi := { dst := some 57, op := Op.fieldAddr 30 (Operand.tmp 8) 1, type := 0, pos := "law.go:83", after := #[{ on := 8, ground := Ground.guard }], guard := some (8, true) }) (v := undef) rfl (by kernel_rfl) (by kernel_rfl) (by kernel_rfl) (fun _ _ _ h => h) (Or.inr ⟨by rfl, rfl⟩) (OpB.old U97 S6.out) ?_
          (try simp only [Act.put]); (try simp only [List.setIfInBounds_toArray]); (try simp only [List.set_cons_succ]); (try simp only [List.set_cons_zero])
          refine wpAnyH_take (i := 10) (oi := { dst := some 58, op := Op.load 28 (Operand.tmp 57), type := 28, pos := "law.go:83", after := #[{ on := 9, ground := Ground.data }, { on := 8, ground := Ground.guard }], guard := some (8, true) }) (v := undef) rfl (by kernel_rfl) (by kernel_rfl) (by kernel_rfl) (fun _ _ _ h => h) (Or.inr ⟨by rfl, rfl⟩) (OpB.old U97 S6.out) ?_
          (try simp only [Act.put]); (try simp only [List.setIfInBounds_toArray]); (try simp only [List.set_cons_succ]); (try simp only [List.set_cons_zero])
          refine wpAnyH_take (i := 11) (oi := { dst := some 59, op := Op.move (Operand.tmp 1), type := 23, pos := "law.go:83", after := #[{ on := 8, ground := Ground.guard }], guard := some (8, true) }) (v := undef) rfl (by kernel_rfl) (by kernel_rfl) (by kernel_rfl) (fun _ _ _ h => h) (Or.inr ⟨by rfl, rfl⟩) (OpB.old U97 S6.out) ?_
          (try simp only [Act.put]); (try simp only [List.setIfInBounds_toArray]); (try simp only [List.set_cons_succ]); (try simp only [List.set_cons_zero])
          refine wpAnyH_take (i := 12) (oi := { dst := some 60, op := Op.call { callee := Callee.value (Operand.func 12), args := #[Operand.tmp 58, Operand.tmp 59], argTypes := #[28, 23] }, type := 4, pos := "law.go:83", after := #[{ on := 10, ground := Ground.data }, { on := 11, ground := Ground.data }, { on := 8, ground := Ground.chain }, { on := 8, ground := Ground.guard }], guard := some (8, true) }) (v := undef) rfl (by kernel_rfl) (by kernel_rfl) (by kernel_rfl) (fun _ _ _ h => h) (Or.inr ⟨by rfl, rfl⟩) (OpB.old U97 S6.out) ?_
          (try simp only [Act.put]); (try simp only [List.setIfInBounds_toArray]); (try simp only [List.set_cons_succ]); (try simp only [List.set_cons_zero])
          refine wpAnyH_take (i := 13) (oi := { dst := some 61, op := Op.pick (Operand.tmp 56) (Operand.tmp 60) (Operand.const (Value.bool false)), type := 4, pos := "law.go:83", after := #[{ on := 8, ground := Ground.data }, { on := 12, ground := Ground.data }, { on := 5, ground := Ground.guard }], guard := some (5, false) }) (v := ?vk103) rfl (by kernel_rfl) (by kernel_rfl) (by kernel_rfl) (fun _ _ _ h => h) (Or.inl ⟨by rfl, ?hk103⟩) (OpB.old U97 S6.out) ?rk103
          case hk103 => (intro wz hSw; (try dsimp only at hSw); go_simp; try with_reducible rfl)
          (try simp only [Act.put]); (try simp only [List.setIfInBounds_toArray]); (try simp only [List.set_cons_succ]); (try simp only [List.set_cons_zero])
          refine wpAnyH_take (i := 14) (oi := { dst := some 62, op := Op.move (Operand.tmp 61), type := 4, pos := "law.go:83", after := #[{ on := 13, ground := Ground.data }, { on := 12, ground := Ground.chain }, { on := 5, ground := Ground.guard }], guard := some (5, false) }) (v := ?vk104) rfl (by kernel_rfl) (by kernel_rfl) (by kernel_rfl) (fun _ _ _ h => h) (Or.inl ⟨by rfl, ?hk104⟩) (OpB.old U97 S6.out) ?rk104
          case hk104 => (intro wz hSw; (try dsimp only at hSw); go_simp; try with_reducible rfl)
          (try simp only [Act.put]); (try simp only [List.setIfInBounds_toArray]); (try simp only [List.set_cons_succ]); (try simp only [List.set_cons_zero])
          refine wpAnyH_take (i := 15) (oi := { dst := some 63, op := Op.move (Operand.tmp 5), type := 24, pos := "law.go:83", after := #[{ on := 14, ground := Ground.guard }], guard := some (14, true) }) (v := undef) rfl (by kernel_rfl) (by kernel_rfl) (by kernel_rfl) (fun _ _ _ h => h) (Or.inr ⟨by rfl, rfl⟩) (OpB.old U97 S6.out) ?_
          (try simp only [Act.put]); (try simp only [List.setIfInBounds_toArray]); (try simp only [List.set_cons_succ]); (try simp only [List.set_cons_zero])
          refine wpAnyH_take (i := 16) (oi := { dst := some 64, op := Op.move (Operand.tmp 1), type := 23, pos := "law.go:83", after := #[{ on := 14, ground := Ground.guard }], guard := some (14, true) }) (v := undef) rfl (by kernel_rfl) (by kernel_rfl) (by kernel_rfl) (fun _ _ _ h => h) (Or.inr ⟨by rfl, rfl⟩) (OpB.old U97 S6.out) ?_
          (try simp only [Act.put]); (try simp only [List.setIfInBounds_toArray]); (try simp only [List.set_cons_succ]); (try simp only [List.set_cons_zero])
          refine wpAnyH_take (i := 17) (oi := { dst := some 65, op := Op.call { callee := Callee.value (Operand.func 14), args := #[Operand.tmp 63, Operand.tmp 64], argTypes := #[24, 23] }, type := 2, pos := "law.go:83", after := #[{ on := 15, ground := Ground.data }, { on := 16, ground := Ground.data }, { on := 14, ground := Ground.chain }, { on := 14, ground := Ground.guard }], guard := some (14, true) }) (v := undef) rfl (by kernel_rfl) (by kernel_rfl) (by kernel_rfl) (fun _ _ _ h => h) (Or.inr ⟨by rfl, rfl⟩) (OpB.old U97 S6.out) ?_
          (try simp only [Act.put]); (try simp only [List.setIfInBounds_toArray]); (try simp only [List.set_cons_succ]); (try simp only [List.set_cons_zero])
          refine wpAnyH_take (i := 18) (oi := { dst := some 66, op := Op.fieldAddr 30 (Operand.tmp 8) 2, type := 0, pos := "law.go:83", after := #[{ on := 14, ground := Ground.guard }], guard := some (14, true) }) (v := undef) rfl (by kernel_rfl) (by kernel_rfl) (by kernel_rfl) (fun _ _ _ h => h) (Or.inr ⟨by rfl, rfl⟩) (OpB.old U97 S6.out) ?_
          (try simp only [Act.put]); (try simp only [List.setIfInBounds_toArray]); (try simp only [List.set_cons_succ]); (try simp only [List.set_cons_zero])
          refine wpAnyH_take (i := 19) (oi := { dst := some 67, op := Op.load 2 (Operand.tmp 66), type := 2, pos := "law.go:83", after := #[{ on := 18, ground := Ground.data }, { on := 14, ground := Ground.guard }], guard := some (14, true) }) (v := undef) rfl (by kernel_rfl) (by kernel_rfl) (by kernel_rfl) (fun _ _ _ h => h) (Or.inr ⟨by rfl, rfl⟩) (OpB.old U97 S6.out) ?_
          (try simp only [Act.put]); (try simp only [List.setIfInBounds_toArray]); (try simp only [List.set_cons_succ]); (try simp only [List.set_cons_zero])
          refine wpAnyH_take (i := 20) (oi := { dst := some 68, op := Op.binOp BinOp.lss 2 (Operand.tmp 65) (Operand.tmp 67) 2, type := 4, pos := "law.go:83", after := #[{ on := 17, ground := Ground.data }, { on := 19, ground := Ground.data }, { on := 14, ground := Ground.guard }], guard := some (14, true) }) (v := undef) rfl (by kernel_rfl) (by kernel_rfl) (by kernel_rfl) (fun _ _ _ h => h) (Or.inr ⟨by rfl, rfl⟩) (OpB.old U97 S6.out) ?_
          (try simp only [Act.put]); (try simp only [List.setIfInBounds_toArray]); (try simp only [List.set_cons_succ]); (try simp only [List.set_cons_zero])
          refine wpAnyH_take (i := 21) (oi := { dst := some 69, op := Op.pick (Operand.tmp 62) (Operand.tmp 68) (Operand.const (Value.bool false)), type := 4, pos := "law.go:83", after := #[{ on := 14, ground := Ground.data }, { on := 20, ground := Ground.data }, { on := 5, ground := Ground.guard }], guard := some (5, false) }) (v := ?vk105) rfl (by kernel_rfl) (by kernel_rfl) (by kernel_rfl) (fun _ _ _ h => h) (Or.inl ⟨by rfl, ?hk105⟩) (OpB.old U97 S6.out) ?rk105
          case hk105 => (intro wz hSw; (try dsimp only at hSw); go_simp; try with_reducible rfl)
          (try simp only [Act.put]); (try simp only [List.setIfInBounds_toArray]); (try simp only [List.set_cons_succ]); (try simp only [List.set_cons_zero])
          refine wpAnyH_take (i := 22) (oi := { dst := some 70, op := Op.pick (Operand.tmp 53) (Operand.const (Value.bool true)) (Operand.tmp 69), type := 4, pos := "law.go:83", after := #[{ on := 5, ground := Ground.data }, { on := 21, ground := Ground.data }], guard := none }) (v := ?vk106) rfl (by kernel_rfl) (by kernel_rfl) (by kernel_rfl) (fun _ _ _ h => h) (Or.inl ⟨by rfl, ?hk106⟩) (OpB.old U97 S6.out) ?rk106
          case hk106 => (intro wz hSw; (try dsimp only at hSw); go_simp; try with_reducible rfl)
          (try simp only [Act.put]); (try simp only [List.setIfInBounds_toArray]); (try simp only [List.set_cons_succ]); (try simp only [List.set_cons_zero])
          refine wpAnyH_done (by kernel_rfl) ?_ _
          refine NoPanic.normal ?_
          have U9 := hid U97
          have T7 := hid (T6.out.old U9.out)
          have HT27 := hid (HT26.out.old U9.out)
          have U7 := hid (U6.out.trans U9.out)
          clear HA2 S6 T6 HT26
          generalize x97 = w7 at *
          obtain ⟨d, hd⟩ : ∃ d : Nat, d + k + 1 = 60 := ⟨60 - 1 - k, by omega⟩
          have hdI : (60 : Int) - 1 - (k : Int) = (d : Int) := by omega
          have HDK := hid hd
          have hd3 : (59 : Int) - (k : Int) = (d : Int) := by omega
          obtain ⟨_, a9, c9, e9, _, hc9⟩ := HO.out.old U7.out
          obtain ⟨b9, off9, hsa9, hW91, hW92, p0, p1, p2, p3, p4, p5⟩ := hc9 d (by omega)
          have hW9 := And.intro hW91 hW92
          simp only [Value.slice.injEq] at e9
          obtain ⟨e91, _, rfl⟩ := e9
          rw [← e91] at hsa9
          simp only [Option.some.injEq, Addr.mk.injEq] at hsa9
          obtain ⟨rfl, rfl, _⟩ := hsa9
          have l3 : (0 : Int) ≤ (d : Int) := by omega
          have l4 : (d : Int) < (60 : Int) := by omega
          have l5 : d < 60 := by omega
          clear hc9 hd e91
          have HPB := hid (put_step f d hW9 (fun i => (i < 60 ∧ 60 < i + k + 1) ∧ okO (f i)) (fun i => (i < 60 ∧ 60 < i + (k + 1) + 1) ∧ okO (f i)) (fun i => by
            have hd := HDK.out
            constructor
            · rintro ⟨⟨a, b⟩, c⟩
              by_cases e : i = d
              · subst e; exact .inr ⟨rfl, c⟩
              · exact .inl ⟨⟨a, by omega⟩, c⟩
            · rintro (⟨⟨a, b⟩, c⟩ | ⟨rfl, c⟩)
              · exact ⟨⟨a, by omega⟩, c⟩
              · exact ⟨⟨by omega, by omega⟩, c⟩) L2 HG2.out (by have := HN2.out; omega) HH2.out)
          have HW9 := hid hW9
          clear hW9 hW91 hW92
          generalize hfd : f d = y9 at *
          go_upto_region 14 with fail
          have B8 := hid (op_new w7 y9 _ rfl)
          have U8 := hid ((Old.refl w7).alloc (.cells #[.int .i64 y9.kd, .float .f64 y9.a, .float .f64 y9.b, .bool y9.p, .bool y9.q, .int .i64 y9.n] 30))
          have T8 := hid (T7.out.old U8.out)
          have T28 := hid (HT27.out.old U8.out)
          clear p0 p1 p2 p3 p4 p5
          generalize w7.alloc (.cells #[.int .i64 y9.kd, .float .f64 y9.a, .float .f64 y9.b, .bool y9.p, .bool y9.q, .int .i64 y9.n] 30) = w8 at *
          obtain ⟨p0, p1, p2, p3, p4, p5⟩ := B8.out
          have HP2 := hid (put_any b1 b2 64 y9.n v2 L2 y9.a y9.b y9.p y9.q HW9.out.1 HW9.out.2 w8 T28.out HG2.out (by have := HN2.out; omega))
          go_wp2_with (go_at_call 9; refine HP2.out.mono ?_; rintro e w9 ⟨v2', rfl, t9, c9, n9⟩; have T9 := hid t9; have C9 := hid c9; have N9 := hid n9; clear t9 c9 n9)
          go_roundw
          case rel =>
            refine ⟨k + 1, hlt, by go_num, v1', L1', v2', _, ⟨T8.out.chg C9.out (fun e => HD6.out _ (mem_blks.2 (.inl rfl)) e) (fun g hg e => HD6.out _ (mem_blks.2 (.inr hg)) e), HPS.out.1, by have := HPS.out.2.1; have := HN1.out; omega, HPS.out.2.2.1⟩, ⟨T9.out, HPB.out.1, by have := HPB.out.2.1; have := HN2.out; omega, HPB.out.2.2.1⟩, fun g hg hg2 => ?_, (U7.out.trans U8.out).below (Below.mono (T28.out.below C9.out) (Nat.le_of_eq hwb))⟩
            have q1 := (T8.out.blk g hg).2
            rcases mem_blks.1 hg2 with e | e
            · exact HD6.out g hg (mem_blks.2 (.inl e))
            · rcases N9.out g e with r | r
              · exact HD6.out g hg (mem_blks.2 (.inr r))
              · omega
          case measure => simp [intOf]; omega
      · obtain rfl : k = 60 := by omega
        have hLL : L1 = L2 := Two.same (fun i hi => by obtain ⟨_, _, _, _, _, hc⟩ := HO.out; obtain ⟨_, _, _, q1, q2, _⟩ := hc i hi; exact ⟨q1, q2⟩) HG1.out HG2.out HH1.out HH2.out
        subst hLL
        have hl1 : L1.length ≤ 1000000 := by have := HN1.out; omega
        go_upto_region 17 with fail
        have HAll := hid (all_any b1 b1 64 v1 L1 wr hl1 HT1.out)
        go_upto_region 18 with (go_at_call 10; refine HAll.out.mono ?_; rintro e w7 ⟨v6, rfl, o6, u6⟩; obtain ⟨a6, c6, hv6⟩ := o6.len; subst hv6; have O6 := hid o6; have U7 := hid u6; clear o6 u6)
        have HSh := hid (fun (e : 0 < L1.length) => O6.out.shape e)
        have HMem := hid (fun j (hj : j < L1.length) => HG1.out.at j hj)
        have HA1 := hid (fun (W : World) (u : Old wr W) => at_any b1 b1 64 v1 L1 key hkey W (HT1.out.old u) HG1.out hl1)
        have HA2 := hid (fun (W : World) (u : Old wr W) => at_any b1 b2 64 v2 L1 key hkey W (HT2.out.old u) HG1.out hl1)
        have HL1 := hid (fun (W : World) (u : Old wr W) => len_any b1 b1 64 v1 L1 W (HT1.out.old u))
        have HL2 := hid (fun (W : World) (u : Old wr W) => len_any b1 b2 64 v2 L1 W (HT2.out.old u))
        clear O6 HAll
        generalize hM : L1.length = M at *
        have HN1' := hid HN1.out
        go_wp2
        go_loopw [12, 89] (fun r i wq => ∃ j : Nat, j ≤ M ∧ i = .int .i64 (j : Nat) ∧ r = .int .i64 (overT key L1 j) ∧ Old w7 wq) (fun r i _ => M - (intOf i).toNat)
        case atStart => exact ⟨0, Nat.zero_le _, rfl, rfl, Old.refl _⟩
        case round =>
          obtain ⟨j, hj, rfl, rfl, hu⟩ := hrel
          have HV := hid hu
          clear hu
          by_cases hjt : j < M
          · obtain ⟨g, cap, he, hgb, hgl, hi, hfz⟩ := HSh.out (by omega)
            simp only [Value.slice.injEq] at he
            obtain ⟨rfl, _, rfl⟩ := he
            obtain ⟨c0, c1, c2, c3, c4⟩ := (hi j hjt).old HV.out
            have l1 : (0 : Int) ≤ (j : Int) := by omega
            have l2 : (j : Int) < (M : Int) := by omega
            clear hi hfz
            have HMj := hid (HMem.out j hjt)
            go_upto_region 20 with fail
            have B4 := hid (item_new wr (atI L1 j) _ rfl)
            have U4 := hid ((Old.refl wr).alloc (.cells (itc (atI L1 j)).toArray 37))
            have hwe : wr.alloc (.cells #[.float .f64 (atI L1 j).a, .float .f64 (atI L1 j).b, .bool (atI L1 j).p, .bool (atI L1 j).q, .int .i64 (atI L1 j).n] 37) = wr.alloc (.cells (itc (atI L1 j)).toArray 37) := rfl
            rw [hwe]
            clear hwe c0 c1 c2 c3 c4
            generalize wr.alloc (.cells (itc (atI L1 j)).toArray 37) = w8 at *
            obtain ⟨d0, d1, d2, d3, d4⟩ := B4.out
            have HU8 := hid (HV.out.trans U4.out)
            have HC := hid (fun W => has_old (atI L1 j).a (atI L1 j).b key HMj.out.1.1 HMj.out.1.2.1 hkey (atI L1 j).p (atI L1 j).q W)
            have HST := hid (show overT key L1 (j + 1) = if hasB (atI L1 j).a (atI L1 j).b (atI L1 j).p (atI L1 j).q key = true then max (overT key L1 j) (atI L1 j).n else overT key L1 j from rfl)
            generalize overT key L1 j = r at *
            cases hh : hasB (atI L1 j).a (atI L1 j).b (atI L1 j).p (atI L1 j).q key
            · rw [hh] at HC HST
              have HST2 := hid (HST.out.trans (if_neg (by simp)))
              clear HST hh
              go_wp2_with (go_at_call 12; refine (HC.out _).mono ?_; rintro e w9 ⟨rfl, u9⟩; have U9 := hid u9; clear u9)
              go_roundw
              case rel => exact ⟨j + 1, hjt, by go_num, by rw [HST2.out], HU8.out.trans U9.out⟩
              case measure => simp [intOf]; omega
            · rw [hh] at HC HST
              have HST2 := hid (HST.out.trans (if_pos rfl))
              clear HST hh
              go_upto_region 21 with (go_at_call 12; refine (HC.out _).mono ?_; rintro e w9 ⟨rfl, u9⟩; have U9 := hid u9; clear u9)
              have d4' := U9.out.keep d4
              go_wp2
              go_roundw
              case rel => exact ⟨j + 1, hjt, by go_num, by rw [HST2.out]; congr 1; omega, HU8.out.trans U9.out⟩
              case measure => simp [intOf]; omega
          · obtain rfl : j = M := by omega
            have UQ := hid (U7.out.trans HV.out)
            clear HSh HMem
            generalize overT key L1 j = R at *
            go_wp2_with (first | (go_at_call_has 14 (Value.pointer (some ⟨b1, 0, none⟩)); refine (HA1.out _ UQ.out).mono ?_; rintro e y1 ⟨rfl, u1⟩; have Y1 := hid (UQ.out.trans u1); clear u1) | (go_at_call_has 14 (Value.pointer (some ⟨b2, 0, none⟩)); refine (HA2.out _ Y1.out).mono ?_; rintro e y2 ⟨rfl, u2⟩; have Y2 := hid (Y1.out.trans u2); clear u2) | (go_at_call_has 13 (Value.pointer (some ⟨b2, 0, none⟩)); refine (HL2.out _ Y2.out).mono ?_; rintro e y3 ⟨rfl, hy3⟩; have hy4 := hy3.symm; subst hy4) | (go_at_call_has 13 (Value.pointer (some ⟨b1, 0, none⟩)); refine (HL1.out _ Y2.out).mono ?_; rintro e y5 ⟨rfl, hy5⟩; have hy6 := hy5.symm; subst hy6))
            go_ret
            exact ⟨rfl, HU.out.trans Y2.out⟩

  · have HO := hid HO0.out
    have HI0 := hid (HI.out N0)
    have hN60 : N0 ≤ 60 := by omega
    have l60 : ¬ (60 : Int) < (N0 : Int) := by omega
    go_upto_region 6 with fail
    clear HI HO0 l60 hN6 hsc hbN
    generalize N0 = N at *
    go_wp2
    go_loopw [34] (fun i wr => ∃ k : Nat, k ≤ N ∧ i = .int .i64 (k : Nat) ∧ Two f N b1 b1 b2 w k wr) (fun i _ => N - (intOf i).toNat)
    case atStart => exact ⟨0, Nat.zero_le _, rfl, HI0.out⟩
    case round =>
      obtain ⟨k, hk, rfl, v1, L1, v2, L2, ⟨t1, g1, n1, h1⟩, ⟨t2, g2, n2, h2⟩, hdj, hu⟩ := hrel
      have HT1 := hid t1
      have HG1 := hid g1
      have HH1 := hid h1
      have HT2 := hid t2
      have HG2 := hid g2
      have HH2 := hid h2
      have HD := hid hdj
      have HU := hid hu
      have HN1 := hid n1
      have HN2 := hid n2
      clear t1 g1 h1 t2 g2 h2 hdj hu HI0 n1 n2
      by_cases hlt : k < N
      · obtain ⟨_, a', c', e', _, hc⟩ := HO.out.old HU.out
        obtain ⟨b', off, hsa, hW1, hW2, o0, o1, o2, o3, o4, o5⟩ := hc k hlt
        simp only [Value.slice.injEq] at e'
        obtain ⟨rfl, _, rfl⟩ := e'
        subst hsa
        have l1 : (0 : Int) ≤ (k : Int) := by omega
        have l2 : (k : Int) < (N : Int) := by omega
        clear hc
        have hW := And.intro hW1 hW2
        have HW := hid hW
        have HPS := hid (put_step f k hW (fun i => i < k ∧ okO (f i)) (fun i => i < k + 1 ∧ okO (f i)) (fun i => by
          constructor
          · rintro ⟨a, b⟩
            by_cases e : i = k
            · subst e; exact .inr ⟨rfl, b⟩
            · exact .inl ⟨by omega, b⟩
          · rintro (⟨a, b⟩ | ⟨rfl, b⟩)
            · exact ⟨by omega, b⟩
            · exact ⟨by omega, b⟩) L1 HG1.out (by have := HN1.out; omega) HH1.out)
        generalize hfk : f k = z at *
        go_upto_region 9 with fail
        have B4 := hid (op_new wr z _ rfl)
        have U4 := hid ((Old.refl wr).alloc (.cells #[.int .i64 z.kd, .float .f64 z.a, .float .f64 z.b, .bool z.p, .bool z.q, .int .i64 z.n] 30))
        have T4 := hid (HT1.out.old U4.out)
        have HZ := hid (show ∀ g, g ∈ blks b1 v1 → g < wr.heap.size from fun g hg => (HT1.out.blk g hg).2)
        have hobk := hid (show wr.heap.size ∉ blks b1 v1 from fun e => by have := HZ.out _ e; omega)
        clear o0 o1 o2 o3 o4 o5 HZ
        generalize wr.alloc (.cells #[.int .i64 z.kd, .float .f64 z.a, .float .f64 z.b, .bool z.p, .bool z.q, .int .i64 z.n] 30) = w4 at *
        generalize hob : wr.heap.size = ob at *
        have hl1 : L1.length ≤ 1000000 := by have := HN1.out; omega
        have HA1 := hid (at_any b1 b1 64 v1 L1 key hkey w4 T4.out HG1.out hl1)
        have HAC := hid (HPS.out.2.2.2.1 key)
        have HOK := hid (fun e => HPS.out.2.2.2.2 e key)
        generalize hA : overT key L1 L1.length = A at *
        go_upto_region 10 with (go_at_call 14; refine HA1.out.mono ?_; rintro e w5 ⟨rfl, u5⟩; have U9 := hid u5; clear u5)
        have T5 := hid (T4.out.old U9.out)
        have B5 := hid (B4.out.old U9.out)
        obtain ⟨hb0, hb5, hb6, hb7, hb8, hb9⟩ := B5.out
        have U5 := hid ((HU.out.trans U4.out).trans U9.out)
        have HT25 := hid (HT2.out.old (U4.out.trans U9.out))
        clear HA1 T4 B4
        have HP := hid (put_any b1 b1 64 z.n v1 L1 z.a z.b z.p z.q HW.out.1 HW.out.2 w5 T5.out HG1.out hl1)
        generalize hec : (putR z.a z.b z.p z.q z.n 64 L1).1 = ec at *
        generalize hL1' : (putR z.a z.b z.p z.q z.n 64 L1).2 = L1' at *
        go_upto_region 11 with (go_at_call 9; refine HP.out.mono ?_; rintro e w6 ⟨v1', rfl, t6, c6, n6⟩; have T6 := hid t6; have C6 := hid c6; have N6 := hid n6; clear t6 c6 n6)
        have U6 := hid (U5.out.below (Below.mono (T5.out.below C6.out) (Nat.le_of_eq hwb)))
        have S6 := hid (show OpB ob z w6 from ⟨C6.out.cell hb5 hobk.out, C6.out.cell hb6 hobk.out, C6.out.cell hb7 hobk.out, C6.out.cell hb8 hobk.out, C6.out.cell hb9 hobk.out⟩)
        have HT26 := hid (HT25.out.chg C6.out (fun e => HD.out _ e (mem_blks.2 (.inl rfl))) (fun g hg e => HD.out _ e (mem_blks.2 (.inr hg))))
        have HD6 := hid (show ∀ g, g ∈ blks b1 v1' → g ∉ blks b2 v2 from fun g hg hg2 => by
          have q2 := (HT25.out.blk g hg2).2
          rcases mem_blks.1 hg with e | e
          · exact HD.out g (mem_blks.2 (.inl e)) hg2
          · rcases N6.out g e with r | r
            · exact HD.out g (mem_blks.2 (.inr r)) hg2
            · omega)
        have hl1' : L1'.length ≤ 1000000 := by have := HPS.out.2.1; have := HN1.out; omega
        have HA2 := hid (fun (W : World) (u : Old w6 W) => at_any b1 b1 64 v1' L1' key hkey W (T6.out.old u) HPS.out.1 hl1')
        generalize hA2 : overT key L1' L1'.length = A2 at *
        have hlA : ¬ A2 < A := by have := HAC.out; omega
        have HH3 := hid (fun (W : World) (u : Old w6 W) => has_old z.a z.b key HW.out.1 HW.out.2 hkey z.p z.q W)
        clear HD HT25 T5 C6 N6 B5 hb0 hb5 hb6 hb7 hb8 hb9 HP HT1 hobk U5 HAC
        by_cases hez : ec = 0
        · have HC3 := hid (HOK.out hez)
          clear HOK
          subst hez
          cases hh : hasB z.a z.b z.p z.q key
          · rw [hh] at HH3
            clear HC3 hh
            refine wp_region_noPanic ?_
            refine wp_region_held_drew (S := OpB ob z) (by kernel_rfl) ?_ (fun hHeld => ?_)
            · exact OpB.old ((Old.refl _).drew) S6.out
            (try simp only [Act.put]); (try simp only [List.setIfInBounds_toArray]); (try simp only [List.set_cons_succ]); (try simp only [List.set_cons_zero])
            clear hHeld
            refine wpAnyH_take (i := 0) (oi := { dst := some 48, op := Op.move (Operand.tmp 5), type := 24, pos := "law.go:83", after := #[], guard := none }) (v := ?vk24) rfl (by kernel_rfl) (by kernel_rfl) (by kernel_rfl) (fun _ _ _ h => h) (Or.inl ⟨by rfl, ?hk24⟩) (OpB.old ((Old.refl w6).drew) S6.out) ?rk24
            case hk24 => (intro wz hSw; (try dsimp only at hSw); go_simp; try with_reducible rfl)
            (try simp only [Act.put]); (try simp only [List.setIfInBounds_toArray]); (try simp only [List.set_cons_succ]); (try simp only [List.set_cons_zero])
            refine wpAnyH_take (i := 1) (oi := { dst := some 49, op := Op.move (Operand.tmp 1), type := 23, pos := "law.go:83", after := #[], guard := none }) (v := ?vk25) rfl (by kernel_rfl) (by kernel_rfl) (by kernel_rfl) (fun _ _ _ h => h) (Or.inl ⟨by rfl, ?hk25⟩) (OpB.old ((Old.refl w6).drew) S6.out) ?rk25
            case hk25 => (intro wz hSw; (try dsimp only at hSw); go_simp; try with_reducible rfl)
            (try simp only [Act.put]); (try simp only [List.setIfInBounds_toArray]); (try simp only [List.set_cons_succ]); (try simp only [List.set_cons_zero])
            refine wpAnyH_take (i := 3) (oi := { dst := some 51, op := Op.move (Operand.tmp 9), type := 2, pos := "law.go:83", after := #[], guard := none }) (v := ?vk26) rfl (by kernel_rfl) (by kernel_rfl) (by kernel_rfl) (fun _ _ _ h => h) (Or.inl ⟨by rfl, ?hk26⟩) (OpB.old ((Old.refl w6).drew) S6.out) ?rk26
            case hk26 => (intro wz hSw; (try dsimp only at hSw); go_simp; try with_reducible rfl)
            (try simp only [Act.put]); (try simp only [List.setIfInBounds_toArray]); (try simp only [List.set_cons_succ]); (try simp only [List.set_cons_zero])
            refine wpAnyH_ready (rs := [2]) (by kernel_rfl) (by simp) ?_
            refine AllReadyH.cons (o := { dst := some 50, op := Op.call { callee := Callee.value (Operand.func 14), args := #[Operand.tmp 48, Operand.tmp 49], argTypes := #[24, 23] }, type := 2, pos := "law.go:83", after := #[{ on := 0, ground := Ground.data }, { on := 1, ground := Ground.data }], guard := none }) rfl (fun K hK => ?_) AllReadyH.nil
            refine wantCall2 ?_ 14 (.tmp 48) (.tmp 49) #[24, 23] ?_ (.pointer (some ⟨b1, 0, none⟩)) (.float .f64 key) ?_ ?_ ?_ (ent_at _ _) ?_
            · rfl
            · rfl
            · rfl
            · rfl
            · rfl
            refine (HA2.out _ ((Old.refl w6).drew)).mono ?_
            rintro o x27 ⟨rfl, b27⟩
            refine ⟨_, rfl, ?_⟩
            have U27 := ((Old.refl w6).drew).trans b27
            refine hK.out _ _ (OpB.old U27 S6.out) (fun _ => ?_)
            clear hK K
            (try simp only [Act.put]); (try simp only [List.setIfInBounds_toArray]); (try simp only [List.set_cons_succ]); (try simp only [List.set_cons_zero])
            refine wpAnyH_take (i := 4) (oi := { dst := some 52, op := Op.binOp BinOp.lss 2 (Operand.tmp 50) (Operand.tmp 51) 2, type := 4, pos := "law.go:83", after := #[{ on := 2, ground := Ground.data }, { on := 3, ground := Ground.data }], guard := none }) (v := ?vk28) rfl (by kernel_rfl) (by kernel_rfl) (by kernel_rfl) (fun _ _ _ h => h) (Or.inl ⟨by rfl, ?hk28⟩) (OpB.old U27 S6.out) ?rk28
            case hk28 => (intro wz hSw; (try dsimp only at hSw); go_simp; try with_reducible rfl)
            (try simp only [Act.put]); (try simp only [List.setIfInBounds_toArray]); (try simp only [List.set_cons_succ]); (try simp only [List.set_cons_zero])
            refine wpAnyH_take (i := 5) (oi := { dst := some 53, op := Op.move (Operand.tmp 52), type := 4, pos := "law.go:83", after := #[{ on := 4, ground := Ground.data }, { on := 2, ground := Ground.chain }], guard := none }) (v := ?vk29) rfl (by kernel_rfl) (by kernel_rfl) (by kernel_rfl) (fun _ _ _ h => h) (Or.inl ⟨by rfl, ?hk29⟩) (OpB.old U27 S6.out) ?rk29
            case hk29 => (intro wz hSw; (try dsimp only at hSw); go_simp; try with_reducible rfl)
            (try simp only [Act.put]); (try simp only [List.setIfInBounds_toArray]); (try simp only [List.set_cons_succ]); (try simp only [List.set_cons_zero])
            refine wpAnyH_take (i := 6) (oi := { dst := some 54, op := Op.move (Operand.tmp 10), type := 31, pos := "law.go:83", after := #[{ on := 5, ground := Ground.guard }], guard := some (5, false) }) (v := ?vk30) rfl (by kernel_rfl) (by kernel_rfl) (by kernel_rfl) (fun _ _ _ h => h) (Or.inl ⟨by rfl, ?hk30⟩) (OpB.old U27 S6.out) ?rk30
            case hk30 => (intro wz hSw; (try dsimp only at hSw); go_simp; try with_reducible rfl)
            (try simp only [Act.put]); (try simp only [List.setIfInBounds_toArray]); (try simp only [List.set_cons_succ]); (try simp only [List.set_cons_zero])
            refine wpAnyH_take (i := 7) (oi := { dst := some 55, op := Op.binOp BinOp.eql 31 (Operand.tmp 54) (Operand.const (Value.int IntKind.i64 0)) 31, type := 4, pos := "law.go:83", after := #[{ on := 6, ground := Ground.data }, { on := 5, ground := Ground.guard }], guard := some (5, false) }) (v := ?vk31) rfl (by kernel_rfl) (by kernel_rfl) (by kernel_rfl) (fun _ _ _ h => h) (Or.inl ⟨by rfl, ?hk31⟩) (OpB.old U27 S6.out) ?rk31
            case hk31 => (intro wz hSw; (try dsimp only at hSw); go_simp; try with_reducible rfl)
            (try simp only [Act.put]); (try simp only [List.setIfInBounds_toArray]); (try simp only [List.set_cons_succ]); (try simp only [List.set_cons_zero])
            refine wpAnyH_take (i := 8) (oi := { dst := some 56, op := Op.move (Operand.tmp 55), type := 4, pos := "law.go:83", after := #[{ on := 7, ground := Ground.data }, { on := 5, ground := Ground.chain }, { on := 5, ground := Ground.guard }], guard := some (5, false) }) (v := ?vk32) rfl (by kernel_rfl) (by kernel_rfl) (by kernel_rfl) (fun _ _ _ h => h) (Or.inl ⟨by rfl, ?hk32⟩) (OpB.old U27 S6.out) ?rk32
            case hk32 => (intro wz hSw; (try dsimp only at hSw); go_simp; try with_reducible rfl)
            (try simp only [Act.put]); (try simp only [List.setIfInBounds_toArray]); (try simp only [List.set_cons_succ]); (try simp only [List.set_cons_zero])
            refine wpAnyH_take (i := 9) (oi := { dst := some 57, op := Op.fieldAddr 30 (Operand.tmp 8) 1, type := 0, pos := "law.go:83", after := #[{ on := 8, ground := Ground.guard }], guard := some (8, true) }) (v := ?vk33) rfl (by kernel_rfl) (by kernel_rfl) (by kernel_rfl) (fun _ _ _ h => h) (Or.inl ⟨by rfl, ?hk33⟩) (OpB.old U27 S6.out) ?rk33
            case hk33 => (intro wz hSw; (try dsimp only at hSw); go_simp; try with_reducible rfl)
            (try simp only [Act.put]); (try simp only [List.setIfInBounds_toArray]); (try simp only [List.set_cons_succ]); (try simp only [List.set_cons_zero])
            refine wpAnyH_take (i := 10) (oi := { dst := some 58, op := Op.load 28 (Operand.tmp 57), type := 28, pos := "law.go:83", after := #[{ on := 9, ground := Ground.data }, { on := 8, ground := Ground.guard }], guard := some (8, true) }) (v := ?vk34) rfl (by kernel_rfl) (by kernel_rfl) (by kernel_rfl) (fun _ _ _ h => h) (Or.inl ⟨by rfl, ?hk34⟩) (OpB.old U27 S6.out) ?rk34
            case hk34 => (intro wz hSw; (try dsimp only at hSw); go_simp; try with_reducible rfl)
            (try simp only [Act.put]); (try simp only [List.setIfInBounds_toArray]); (try simp only [List.set_cons_succ]); (try simp only [List.set_cons_zero])
            refine wpAnyH_take (i := 11) (oi := { dst := some 59, op := Op.move (Operand.tmp 1), type := 23, pos := "law.go:83", after := #[{ on := 8, ground := Ground.guard }], guard := some (8, true) }) (v := ?vk35) rfl (by kernel_rfl) (by kernel_rfl) (by kernel_rfl) (fun _ _ _ h => h) (Or.inl ⟨by rfl, ?hk35⟩) (OpB.old U27 S6.out) ?rk35
            case hk35 => (intro wz hSw; (try dsimp only at hSw); go_simp; try with_reducible rfl)
            (try simp only [Act.put]); (try simp only [List.setIfInBounds_toArray]); (try simp only [List.set_cons_succ]); (try simp only [List.set_cons_zero])
            refine wpAnyH_ready (rs := [12]) (by kernel_rfl) (by simp) ?_
            refine AllReadyH.cons (o := { dst := some 60, op := Op.call { callee := Callee.value (Operand.func 12), args := #[Operand.tmp 58, Operand.tmp 59], argTypes := #[28, 23] }, type := 4, pos := "law.go:83", after := #[{ on := 10, ground := Ground.data }, { on := 11, ground := Ground.data }, { on := 8, ground := Ground.chain }, { on := 8, ground := Ground.guard }], guard := some (8, true) }) rfl (fun K hK => ?_) AllReadyH.nil
            refine wantCall2 ?_ 12 (.tmp 58) (.tmp 59) #[28, 23] ?_ (.agg #[.float .f64 z.a, .float .f64 z.b, .bool z.p, .bool z.q]) (.float .f64 key) ?_ ?_ ?_ (ent_has _ _) ?_
            · rfl
            · rfl
            · rfl
            · rfl
            · rfl
            refine (HH3.out _ U27).mono ?_
            rintro o x36 ⟨rfl, b36⟩
            refine ⟨_, rfl, ?_⟩
            have U36 := U27.trans b36
            refine hK.out _ _ (OpB.old U36 S6.out) (fun _ => ?_)
            clear hK K
            (try simp only [Act.put]); (try simp only [List.setIfInBounds_toArray]); (try simp only [List.set_cons_succ]); (try simp only [List.set_cons_zero])
            refine wpAnyH_take (i := 13) (oi := { dst := some 61, op := Op.pick (Operand.tmp 56) (Operand.tmp 60) (Operand.const (Value.bool false)), type := 4, pos := "law.go:83", after := #[{ on := 8, ground := Ground.data }, { on := 12, ground := Ground.data }, { on := 5, ground := Ground.guard }], guard := some (5, false) }) (v := ?vk37) rfl (by kernel_rfl) (by kernel_rfl) (by kernel_rfl) (fun _ _ _ h => h) (Or.inl ⟨by rfl, ?hk37⟩) (OpB.old U36 S6.out) ?rk37
            case hk37 => (intro wz hSw; (try dsimp only at hSw); go_simp; try with_reducible rfl)
            (try simp only [Act.put]); (try simp only [List.setIfInBounds_toArray]); (try simp only [List.set_cons_succ]); (try simp only [List.set_cons_zero])
            refine wpAnyH_take (i := 14) (oi := { dst := some 62, op := Op.move (Operand.tmp 61), type := 4, pos := "law.go:83", after := #[{ on := 13, ground := Ground.data }, { on := 12, ground := Ground.chain }, { on := 5, ground := Ground.guard }], guard := some (5, false) }) (v := ?vk38) rfl (by kernel_rfl) (by kernel_rfl) (by kernel_rfl) (fun _ _ _ h => h) (Or.inl ⟨by rfl, ?hk38⟩) (OpB.old U36 S6.out) ?rk38
            case hk38 => (intro wz hSw; (try dsimp only at hSw); go_simp; try with_reducible rfl)
            (try simp only [Act.put]); (try simp only [List.setIfInBounds_toArray]); (try simp only [List.set_cons_succ]); (try simp only [List.set_cons_zero])
            refine wpAnyH_take (i := 15) (oi := { dst := some 63, op := Op.move (Operand.tmp 5), type := 24, pos := "law.go:83", after := #[{ on := 14, ground := Ground.guard }], guard := some (14, true) }) (v := undef) rfl (by kernel_rfl) (by kernel_rfl) (by kernel_rfl) (fun _ _ _ h => h) (Or.inr ⟨by rfl, rfl⟩) (OpB.old U36 S6.out) ?_
            (try simp only [Act.put]); (try simp only [List.setIfInBounds_toArray]); (try simp only [List.set_cons_succ]); (try simp only [List.set_cons_zero])
            refine wpAnyH_take (i := 16) (oi := { dst := some 64, op := Op.move (Operand.tmp 1), type := 23, pos := "law.go:83", after := #[{ on := 14, ground := Ground.guard }], guard := some (14, true) }) (v := undef) rfl (by kernel_rfl) (by kernel_rfl) (by kernel_rfl) (fun _ _ _ h => h) (Or.inr ⟨by rfl, rfl⟩) (OpB.old U36 S6.out) ?_
            (try simp only [Act.put]); (try simp only [List.setIfInBounds_toArray]); (try simp only [List.set_cons_succ]); (try simp only [List.set_cons_zero])
            refine wpAnyH_take (i := 17) (oi := { dst := some 65, op := Op.call { callee := Callee.value (Operand.func 14), args := #[Operand.tmp 63, Operand.tmp 64], argTypes := #[24, 23] }, type := 2, pos := "law.go:83", after := #[{ on := 15, ground := Ground.data }, { on := 16, ground := Ground.data }, { on := 14, ground := Ground.chain }, { on := 14, ground := Ground.guard }], guard := some (14, true) }) (v := undef) rfl (by kernel_rfl) (by kernel_rfl) (by kernel_rfl) (fun _ _ _ h => h) (Or.inr ⟨by rfl, rfl⟩) (OpB.old U36 S6.out) ?_
            (try simp only [Act.put]); (try simp only [List.setIfInBounds_toArray]); (try simp only [List.set_cons_succ]); (try simp only [List.set_cons_zero])
            refine wpAnyH_take (i := 18) (oi := { dst := some 66, op := Op.fieldAddr 30 (Operand.tmp 8) 2, type := 0, pos := "law.go:83", after := #[{ on := 14, ground := Ground.guard }], guard := some (14, true) }) (v := undef) rfl (by kernel_rfl) (by kernel_rfl) (by kernel_rfl) (fun _ _ _ h => h) (Or.inr ⟨by rfl, rfl⟩) (OpB.old U36 S6.out) ?_
            (try simp only [Act.put]); (try simp only [List.setIfInBounds_toArray]); (try simp only [List.set_cons_succ]); (try simp only [List.set_cons_zero])
            refine wpAnyH_take (i := 19) (oi := { dst := some 67, op := Op.load 2 (Operand.tmp 66), type := 2, pos := "law.go:83", after := #[{ on := 18, ground := Ground.data }, { on := 14, ground := Ground.guard }], guard := some (14, true) }) (v := undef) rfl (by kernel_rfl) (by kernel_rfl) (by kernel_rfl) (fun _ _ _ h => h) (Or.inr ⟨by rfl, rfl⟩) (OpB.old U36 S6.out) ?_
            (try simp only [Act.put]); (try simp only [List.setIfInBounds_toArray]); (try simp only [List.set_cons_succ]); (try simp only [List.set_cons_zero])
            refine wpAnyH_take (i := 20) (oi := { dst := some 68, op := Op.binOp BinOp.lss 2 (Operand.tmp 65) (Operand.tmp 67) 2, type := 4, pos := "law.go:83", after := #[{ on := 17, ground := Ground.data }, { on := 19, ground := Ground.data }, { on := 14, ground := Ground.guard }], guard := some (14, true) }) (v := undef) rfl (by kernel_rfl) (by kernel_rfl) (by kernel_rfl) (fun _ _ _ h => h) (Or.inr ⟨by rfl, rfl⟩) (OpB.old U36 S6.out) ?_
            (try simp only [Act.put]); (try simp only [List.setIfInBounds_toArray]); (try simp only [List.set_cons_succ]); (try simp only [List.set_cons_zero])
            refine wpAnyH_take (i := 21) (oi := { dst := some 69, op := Op.pick (Operand.tmp 62) (Operand.tmp 68) (Operand.const (Value.bool false)), type := 4, pos := "law.go:83", after := #[{ on := 14, ground := Ground.data }, { on := 20, ground := Ground.data }, { on := 5, ground := Ground.guard }], guard := some (5, false) }) (v := ?vk39) rfl (by kernel_rfl) (by kernel_rfl) (by kernel_rfl) (fun _ _ _ h => h) (Or.inl ⟨by rfl, ?hk39⟩) (OpB.old U36 S6.out) ?rk39
            case hk39 => (intro wz hSw; (try dsimp only at hSw); go_simp; try with_reducible rfl)
            (try simp only [Act.put]); (try simp only [List.setIfInBounds_toArray]); (try simp only [List.set_cons_succ]); (try simp only [List.set_cons_zero])
            refine wpAnyH_take (i := 22) (oi := { dst := some 70, op := Op.pick (Operand.tmp 53) (Operand.const (Value.bool true)) (Operand.tmp 69), type := 4, pos := "law.go:83", after := #[{ on := 5, ground := Ground.data }, { on := 21, ground := Ground.data }], guard := none }) (v := ?vk40) rfl (by kernel_rfl) (by kernel_rfl) (by kernel_rfl) (fun _ _ _ h => h) (Or.inl ⟨by rfl, ?hk40⟩) (OpB.old U36 S6.out) ?rk40
            case hk40 => (intro wz hSw; (try dsimp only at hSw); go_simp; try with_reducible rfl)
            (try simp only [Act.put]); (try simp only [List.setIfInBounds_toArray]); (try simp only [List.set_cons_succ]); (try simp only [List.set_cons_zero])
            refine wpAnyH_done (by kernel_rfl) ?_ _
            refine NoPanic.normal ?_
            have U9 := hid U36
            have T7 := hid (T6.out.old U9.out)
            have HT27 := hid (HT26.out.old U9.out)
            have U7 := hid (U6.out.trans U9.out)
            clear HA2 S6 T6 HT26
            generalize x36 = w7 at *
            obtain ⟨d, hd⟩ : ∃ d : Nat, d + k + 1 = N := ⟨N - 1 - k, by omega⟩
            have hdI : (N : Int) - 1 - (k : Int) = (d : Int) := by omega
            have HDK := hid hd
            skip
            obtain ⟨_, a9, c9, e9, _, hc9⟩ := HO.out.old U7.out
            obtain ⟨b9, off9, hsa9, hW91, hW92, p0, p1, p2, p3, p4, p5⟩ := hc9 d (by omega)
            have hW9 := And.intro hW91 hW92
            simp only [Value.slice.injEq] at e9
            obtain ⟨e91, _, rfl⟩ := e9
            rw [← e91] at hsa9
            simp only [Option.some.injEq, Addr.mk.injEq] at hsa9
            obtain ⟨rfl, rfl, _⟩ := hsa9
            have l3 : (0 : Int) ≤ (d : Int) := by omega
            have l4 : (d : Int) < (N : Int) := by omega
            have l5 : d < N := by omega
            clear hc9 hd e91
            have HPB := hid (put_step f d hW9 (fun i => (i < N ∧ N < i + k + 1) ∧ okO (f i)) (fun i => (i < N ∧ N < i + (k + 1) + 1) ∧ okO (f i)) (fun i => by
              have hd := HDK.out
              constructor
              · rintro ⟨⟨a, b⟩, c⟩
                by_cases e : i = d
                · subst e; exact .inr ⟨rfl, c⟩
                · exact .inl ⟨⟨a, by omega⟩, c⟩
              · rintro (⟨⟨a, b⟩, c⟩ | ⟨rfl, c⟩)
                · exact ⟨⟨a, by omega⟩, c⟩
                · exact ⟨⟨by omega, by omega⟩, c⟩) L2 HG2.out (by have := HN2.out; omega) HH2.out)
            have HW9 := hid hW9
            clear hW9 hW91 hW92
            generalize hfd : f d = y9 at *
            go_upto_region 14 with fail
            have B8 := hid (op_new w7 y9 _ rfl)
            have U8 := hid ((Old.refl w7).alloc (.cells #[.int .i64 y9.kd, .float .f64 y9.a, .float .f64 y9.b, .bool y9.p, .bool y9.q, .int .i64 y9.n] 30))
            have T8 := hid (T7.out.old U8.out)
            have T28 := hid (HT27.out.old U8.out)
            clear p0 p1 p2 p3 p4 p5
            generalize w7.alloc (.cells #[.int .i64 y9.kd, .float .f64 y9.a, .float .f64 y9.b, .bool y9.p, .bool y9.q, .int .i64 y9.n] 30) = w8 at *
            obtain ⟨p0, p1, p2, p3, p4, p5⟩ := B8.out
            have HP2 := hid (put_any b1 b2 64 y9.n v2 L2 y9.a y9.b y9.p y9.q HW9.out.1 HW9.out.2 w8 T28.out HG2.out (by have := HN2.out; omega))
            go_wp2_with (go_at_call 9; refine HP2.out.mono ?_; rintro e w9 ⟨v2', rfl, t9, c9, n9⟩; have T9 := hid t9; have C9 := hid c9; have N9 := hid n9; clear t9 c9 n9)
            go_roundw
            case rel =>
              refine ⟨k + 1, hlt, by go_num, v1', L1', v2', _, ⟨T8.out.chg C9.out (fun e => HD6.out _ (mem_blks.2 (.inl rfl)) e) (fun g hg e => HD6.out _ (mem_blks.2 (.inr hg)) e), HPS.out.1, by have := HPS.out.2.1; have := HN1.out; omega, HPS.out.2.2.1⟩, ⟨T9.out, HPB.out.1, by have := HPB.out.2.1; have := HN2.out; omega, HPB.out.2.2.1⟩, fun g hg hg2 => ?_, (U7.out.trans U8.out).below (Below.mono (T28.out.below C9.out) (Nat.le_of_eq hwb))⟩
              have q1 := (T8.out.blk g hg).2
              rcases mem_blks.1 hg2 with e | e
              · exact HD6.out g hg (mem_blks.2 (.inl e))
              · rcases N9.out g e with r | r
                · exact HD6.out g hg (mem_blks.2 (.inr r))
                · omega
            case measure => simp [intOf]; omega
          · rw [hh] at HH3
            have hlC : ¬ A2 < z.n := by have := HC3.out hh; omega
            clear HC3 hh
            refine wp_region_noPanic ?_
            refine wp_region_held_drew (S := OpB ob z) (by kernel_rfl) ?_ (fun hHeld => ?_)
            · exact OpB.old ((Old.refl _).drew) S6.out
            (try simp only [Act.put]); (try simp only [List.setIfInBounds_toArray]); (try simp only [List.set_cons_succ]); (try simp only [List.set_cons_zero])
            clear hHeld
            refine wpAnyH_take (i := 0) (oi := { dst := some 48, op := Op.move (Operand.tmp 5), type := 24, pos := "law.go:83", after := #[], guard := none }) (v := ?vk1) rfl (by kernel_rfl) (by kernel_rfl) (by kernel_rfl) (fun _ _ _ h => h) (Or.inl ⟨by rfl, ?hk1⟩) (OpB.old ((Old.refl w6).drew) S6.out) ?rk1
            case hk1 => (intro wz hSw; (try dsimp only at hSw); go_simp; try with_reducible rfl)
            (try simp only [Act.put]); (try simp only [List.setIfInBounds_toArray]); (try simp only [List.set_cons_succ]); (try simp only [List.set_cons_zero])
            refine wpAnyH_take (i := 1) (oi := { dst := some 49, op := Op.move (Operand.tmp 1), type := 23, pos := "law.go:83", after := #[], guard := none }) (v := ?vk2) rfl (by kernel_rfl) (by kernel_rfl) (by kernel_rfl) (fun _ _ _ h => h) (Or.inl ⟨by rfl, ?hk2⟩) (OpB.old ((Old.refl w6).drew) S6.out) ?rk2
            case hk2 => (intro wz hSw; (try dsimp only at hSw); go_simp; try with_reducible rfl)
            (try simp only [Act.put]); (try simp only [List.setIfInBounds_toArray]); (try simp only [List.set_cons_succ]); (try simp only [List.set_cons_zero])
            refine wpAnyH_take (i := 3) (oi := { dst := some 51, op := Op.move (Operand.tmp 9), type := 2, pos := "law.go:83", after := #[], guard := none }) (v := ?vk3) rfl (by kernel_rfl) (by kernel_rfl) (by kernel_rfl) (fun _ _ _ h => h) (Or.inl ⟨by rfl, ?hk3⟩) (OpB.old ((Old.refl w6).drew) S6.out) ?rk3
            case hk3 => (intro wz hSw; (try dsimp only at hSw); go_simp; try with_reducible rfl)
            (try simp only [Act.put]); (try simp only [List.setIfInBounds_toArray]); (try simp only [List.set_cons_succ]); (try simp only [List.set_cons_zero])
            refine wpAnyH_ready (rs := [2]) (by kernel_rfl) (by simp) ?_
            refine AllReadyH.cons (o := { dst := some 50, op := Op.call { callee := Callee.value (Operand.func 14), args := #[Operand.tmp 48, Operand.tmp 49], argTypes := #[24, 23] }, type := 2, pos := "law.go:83", after := #[{ on := 0, ground := Ground.data }, { on := 1, ground := Ground.data }], guard := none }) rfl (fun K hK => ?_) AllReadyH.nil
            refine wantCall2 ?_ 14 (.tmp 48) (.tmp 49) #[24, 23] ?_ (.pointer (some ⟨b1, 0, none⟩)) (.float .f64 key) ?_ ?_ ?_ (ent_at _ _) ?_
            · rfl
            · rfl
            · rfl
            · rfl
            · rfl
            refine (HA2.out _ ((Old.refl w6).drew)).mono ?_
            rintro o x4 ⟨rfl, b4⟩
            refine ⟨_, rfl, ?_⟩
            have U4 := ((Old.refl w6).drew).trans b4
            refine hK.out _ _ (OpB.old U4 S6.out) (fun _ => ?_)
            clear hK K
            (try simp only [Act.put]); (try simp only [List.setIfInBounds_toArray]); (try simp only [List.set_cons_succ]); (try simp only [List.set_cons_zero])
            refine wpAnyH_take (i := 4) (oi := { dst := some 52, op := Op.binOp BinOp.lss 2 (Operand.tmp 50) (Operand.tmp 51) 2, type := 4, pos := "law.go:83", after := #[{ on := 2, ground := Ground.data }, { on := 3, ground := Ground.data }], guard := none }) (v := ?vk5) rfl (by kernel_rfl) (by kernel_rfl) (by kernel_rfl) (fun _ _ _ h => h) (Or.inl ⟨by rfl, ?hk5⟩) (OpB.old U4 S6.out) ?rk5
            case hk5 => (intro wz hSw; (try dsimp only at hSw); go_simp; try with_reducible rfl)
            (try simp only [Act.put]); (try simp only [List.setIfInBounds_toArray]); (try simp only [List.set_cons_succ]); (try simp only [List.set_cons_zero])
            refine wpAnyH_take (i := 5) (oi := { dst := some 53, op := Op.move (Operand.tmp 52), type := 4, pos := "law.go:83", after := #[{ on := 4, ground := Ground.data }, { on := 2, ground := Ground.chain }], guard := none }) (v := ?vk6) rfl (by kernel_rfl) (by kernel_rfl) (by kernel_rfl) (fun _ _ _ h => h) (Or.inl ⟨by rfl, ?hk6⟩) (OpB.old U4 S6.out) ?rk6
            case hk6 => (intro wz hSw; (try dsimp only at hSw); go_simp; try with_reducible rfl)
            (try simp only [Act.put]); (try simp only [List.setIfInBounds_toArray]); (try simp only [List.set_cons_succ]); (try simp only [List.set_cons_zero])
            refine wpAnyH_take (i := 6) (oi := { dst := some 54, op := Op.move (Operand.tmp 10), type := 31, pos := "law.go:83", after := #[{ on := 5, ground := Ground.guard }], guard := some (5, false) }) (v := ?vk7) rfl (by kernel_rfl) (by kernel_rfl) (by kernel_rfl) (fun _ _ _ h => h) (Or.inl ⟨by rfl, ?hk7⟩) (OpB.old U4 S6.out) ?rk7
            case hk7 => (intro wz hSw; (try dsimp only at hSw); go_simp; try with_reducible rfl)
            (try simp only [Act.put]); (try simp only [List.setIfInBounds_toArray]); (try simp only [List.set_cons_succ]); (try simp only [List.set_cons_zero])
            refine wpAnyH_take (i := 7) (oi := { dst := some 55, op := Op.binOp BinOp.eql 31 (Operand.tmp 54) (Operand.const (Value.int IntKind.i64 0)) 31, type := 4, pos := "law.go:83", after := #[{ on := 6, ground := Ground.data }, { on := 5, ground := Ground.guard }], guard := some (5, false) }) (v := ?vk8) rfl (by kernel_rfl) (by kernel_rfl) (by kernel_rfl) (fun _ _ _ h => h) (Or.inl ⟨by rfl, ?hk8⟩) (OpB.old U4 S6.out) ?rk8
            case hk8 => (intro wz hSw; (try dsimp only at hSw); go_simp; try with_reducible rfl)
            (try simp only [Act.put]); (try simp only [List.setIfInBounds_toArray]); (try simp only [List.set_cons_succ]); (try simp only [List.set_cons_zero])
            refine wpAnyH_take (i := 8) (oi := { dst := some 56, op := Op.move (Operand.tmp 55), type := 4, pos := "law.go:83", after := #[{ on := 7, ground := Ground.data }, { on := 5, ground := Ground.chain }, { on := 5, ground := Ground.guard }], guard := some (5, false) }) (v := ?vk9) rfl (by kernel_rfl) (by kernel_rfl) (by kernel_rfl) (fun _ _ _ h => h) (Or.inl ⟨by rfl, ?hk9⟩) (OpB.old U4 S6.out) ?rk9
            case hk9 => (intro wz hSw; (try dsimp only at hSw); go_simp; try with_reducible rfl)
            (try simp only [Act.put]); (try simp only [List.setIfInBounds_toArray]); (try simp only [List.set_cons_succ]); (try simp only [List.set_cons_zero])
            refine wpAnyH_take (i := 9) (oi := { dst := some 57, op := Op.fieldAddr 30 (Operand.tmp 8) 1, type := 0, pos := "law.go:83", after := #[{ on := 8, ground := Ground.guard }], guard := some (8, true) }) (v := ?vk10) rfl (by kernel_rfl) (by kernel_rfl) (by kernel_rfl) (fun _ _ _ h => h) (Or.inl ⟨by rfl, ?hk10⟩) (OpB.old U4 S6.out) ?rk10
            case hk10 => (intro wz hSw; (try dsimp only at hSw); go_simp; try with_reducible rfl)
            (try simp only [Act.put]); (try simp only [List.setIfInBounds_toArray]); (try simp only [List.set_cons_succ]); (try simp only [List.set_cons_zero])
            refine wpAnyH_take (i := 10) (oi := { dst := some 58, op := Op.load 28 (Operand.tmp 57), type := 28, pos := "law.go:83", after := #[{ on := 9, ground := Ground.data }, { on := 8, ground := Ground.guard }], guard := some (8, true) }) (v := ?vk11) rfl (by kernel_rfl) (by kernel_rfl) (by kernel_rfl) (fun _ _ _ h => h) (Or.inl ⟨by rfl, ?hk11⟩) (OpB.old U4 S6.out) ?rk11
            case hk11 => (intro wz hSw; (try dsimp only at hSw); go_simp; try with_reducible rfl)
            (try simp only [Act.put]); (try simp only [List.setIfInBounds_toArray]); (try simp only [List.set_cons_succ]); (try simp only [List.set_cons_zero])
            refine wpAnyH_take (i := 11) (oi := { dst := some 59, op := Op.move (Operand.tmp 1), type := 23, pos := "law.go:83", after := #[{ on := 8, ground := Ground.guard }], guard := some (8, true) }) (v := ?vk12) rfl (by kernel_rfl) (by kernel_rfl) (by kernel_rfl) (fun _ _ _ h => h) (Or.inl ⟨by rfl, ?hk12⟩) (OpB.old U4 S6.out) ?rk12
            case hk12 => (intro wz hSw; (try dsimp only at hSw); go_simp; try with_reducible rfl)
            (try simp only [Act.put]); (try simp only [List.setIfInBounds_toArray]); (try simp only [List.set_cons_succ]); (try simp only [List.set_cons_zero])
            refine wpAnyH_ready (rs := [12]) (by kernel_rfl) (by simp) ?_
            refine AllReadyH.cons (o := { dst := some 60, op := Op.call { callee := Callee.value (Operand.func 12), args := #[Operand.tmp 58, Operand.tmp 59], argTypes := #[28, 23] }, type := 4, pos := "law.go:83", after := #[{ on := 10, ground := Ground.data }, { on := 11, ground := Ground.data }, { on := 8, ground := Ground.chain }, { on := 8, ground := Ground.guard }], guard := some (8, true) }) rfl (fun K hK => ?_) AllReadyH.nil
            refine wantCall2 ?_ 12 (.tmp 58) (.tmp 59) #[28, 23] ?_ (.agg #[.float .f64 z.a, .float .f64 z.b, .bool z.p, .bool z.q]) (.float .f64 key) ?_ ?_ ?_ (ent_has _ _) ?_
            · rfl
            · rfl
            · rfl
            · rfl
            · rfl
            refine (HH3.out _ U4).mono ?_
            rintro o x13 ⟨rfl, b13⟩
            refine ⟨_, rfl, ?_⟩
            have U13 := U4.trans b13
            refine hK.out _ _ (OpB.old U13 S6.out) (fun _ => ?_)
            clear hK K
            (try simp only [Act.put]); (try simp only [List.setIfInBounds_toArray]); (try simp only [List.set_cons_succ]); (try simp only [List.set_cons_zero])
            refine wpAnyH_take (i := 13) (oi := { dst := some 61, op := Op.pick (Operand.tmp 56) (Operand.tmp 60) (Operand.const (Value.bool false)), type := 4, pos := "law.go:83", after := #[{ on := 8, ground := Ground.data }, { on := 12, ground := Ground.data }, { on := 5, ground := Ground.guard }], guard := some (5, false) }) (v := ?vk14) rfl (by kernel_rfl) (by kernel_rfl) (by kernel_rfl) (fun _ _ _ h => h) (Or.inl ⟨by rfl, ?hk14⟩) (OpB.old U13 S6.out) ?rk14
            case hk14 => (intro wz hSw; (try dsimp only at hSw); go_simp; try with_reducible rfl)
            (try simp only [Act.put]); (try simp only [List.setIfInBounds_toArray]); (try simp only [List.set_cons_succ]); (try simp only [List.set_cons_zero])
            refine wpAnyH_take (i := 14) (oi := { dst := some 62, op := Op.move (Operand.tmp 61), type := 4, pos := "law.go:83", after := #[{ on := 13, ground := Ground.data }, { on := 12, ground := Ground.chain }, { on := 5, ground := Ground.guard }], guard := some (5, false) }) (v := ?vk15) rfl (by kernel_rfl) (by kernel_rfl) (by kernel_rfl) (fun _ _ _ h => h) (Or.inl ⟨by rfl, ?hk15⟩) (OpB.old U13 S6.out) ?rk15
            case hk15 => (intro wz hSw; (try dsimp only at hSw); go_simp; try with_reducible rfl)
            (try simp only [Act.put]); (try simp only [List.setIfInBounds_toArray]); (try simp only [List.set_cons_succ]); (try simp only [List.set_cons_zero])
            refine wpAnyH_take (i := 15) (oi := { dst := some 63, op := Op.move (Operand.tmp 5), type := 24, pos := "law.go:83", after := #[{ on := 14, ground := Ground.guard }], guard := some (14, true) }) (v := ?vk16) rfl (by kernel_rfl) (by kernel_rfl) (by kernel_rfl) (fun _ _ _ h => h) (Or.inl ⟨by rfl, ?hk16⟩) (OpB.old U13 S6.out) ?rk16
            case hk16 => (intro wz hSw; (try dsimp only at hSw); go_simp; try with_reducible rfl)
            (try simp only [Act.put]); (try simp only [List.setIfInBounds_toArray]); (try simp only [List.set_cons_succ]); (try simp only [List.set_cons_zero])
            refine wpAnyH_take (i := 16) (oi := { dst := some 64, op := Op.move (Operand.tmp 1), type := 23, pos := "law.go:83", after := #[{ on := 14, ground := Ground.guard }], guard := some (14, true) }) (v := ?vk17) rfl (by kernel_rfl) (by kernel_rfl) (by kernel_rfl) (fun _ _ _ h => h) (Or.inl ⟨by rfl, ?hk17⟩) (OpB.old U13 S6.out) ?rk17
            case hk17 => (intro wz hSw; (try dsimp only at hSw); go_simp; try with_reducible rfl)
            (try simp only [Act.put]); (try simp only [List.setIfInBounds_toArray]); (try simp only [List.set_cons_succ]); (try simp only [List.set_cons_zero])
            refine wpAnyH_take (i := 18) (oi := { dst := some 66, op := Op.fieldAddr 30 (Operand.tmp 8) 2, type := 0, pos := "law.go:83", after := #[{ on := 14, ground := Ground.guard }], guard := some (14, true) }) (v := ?vk18) rfl (by kernel_rfl) (by kernel_rfl) (by kernel_rfl) (fun _ _ _ h => h) (Or.inl ⟨by rfl, ?hk18⟩) (OpB.old U13 S6.out) ?rk18
            case hk18 => (intro wz hSw; (try dsimp only at hSw); go_simp; try with_reducible rfl)
            (try simp only [Act.put]); (try simp only [List.setIfInBounds_toArray]); (try simp only [List.set_cons_succ]); (try simp only [List.set_cons_zero])
            refine wpAnyH_take (i := 19) (oi := { dst := some 67, op := Op.load 2 (Operand.tmp 66), type := 2, pos := "law.go:83", after := #[{ on := 18, ground := Ground.data }, { on := 14, ground := Ground.guard }], guard := some (14, true) }) (v := ?vk19) rfl (by kernel_rfl) (by kernel_rfl) (by kernel_rfl) (fun _ _ _ h => h) (Or.inl ⟨by rfl, ?hk19⟩) (OpB.old U13 S6.out) ?rk19
            case hk19 => (intro wz hSw; (try dsimp only at hSw); go_simp; try with_reducible rfl)
            (try simp only [Act.put]); (try simp only [List.setIfInBounds_toArray]); (try simp only [List.set_cons_succ]); (try simp only [List.set_cons_zero])
            refine wpAnyH_ready (rs := [17]) (by kernel_rfl) (by simp) ?_
            refine AllReadyH.cons (o := { dst := some 65, op := Op.call { callee := Callee.value (Operand.func 14), args := #[Operand.tmp 63, Operand.tmp 64], argTypes := #[24, 23] }, type := 2, pos := "law.go:83", after := #[{ on := 15, ground := Ground.data }, { on := 16, ground := Ground.data }, { on := 14, ground := Ground.chain }, { on := 14, ground := Ground.guard }], guard := some (14, true) }) rfl (fun K hK => ?_) AllReadyH.nil
            refine wantCall2 ?_ 14 (.tmp 63) (.tmp 64) #[24, 23] ?_ (.pointer (some ⟨b1, 0, none⟩)) (.float .f64 key) ?_ ?_ ?_ (ent_at _ _) ?_
            · rfl
            · rfl
            · rfl
            · rfl
            · rfl
            refine (HA2.out _ U13).mono ?_
            rintro o x20 ⟨rfl, b20⟩
            refine ⟨_, rfl, ?_⟩
            have U20 := U13.trans b20
            refine hK.out _ _ (OpB.old U20 S6.out) (fun _ => ?_)
            clear hK K
            (try simp only [Act.put]); (try simp only [List.setIfInBounds_toArray]); (try simp only [List.set_cons_succ]); (try simp only [List.set_cons_zero])
            refine wpAnyH_take (i := 20) (oi := { dst := some 68, op := Op.binOp BinOp.lss 2 (Operand.tmp 65) (Operand.tmp 67) 2, type := 4, pos := "law.go:83", after := #[{ on := 17, ground := Ground.data }, { on := 19, ground := Ground.data }, { on := 14, ground := Ground.guard }], guard := some (14, true) }) (v := ?vk21) rfl (by kernel_rfl) (by kernel_rfl) (by kernel_rfl) (fun _ _ _ h => h) (Or.inl ⟨by rfl, ?hk21⟩) (OpB.old U20 S6.out) ?rk21
            case hk21 => (intro wz hSw; (try dsimp only at hSw); go_simp; try with_reducible rfl)
            (try simp only [Act.put]); (try simp only [List.setIfInBounds_toArray]); (try simp only [List.set_cons_succ]); (try simp only [List.set_cons_zero])
            refine wpAnyH_take (i := 21) (oi := { dst := some 69, op := Op.pick (Operand.tmp 62) (Operand.tmp 68) (Operand.const (Value.bool false)), type := 4, pos := "law.go:83", after := #[{ on := 14, ground := Ground.data }, { on := 20, ground := Ground.data }, { on := 5, ground := Ground.guard }], guard := some (5, false) }) (v := ?vk22) rfl (by kernel_rfl) (by kernel_rfl) (by kernel_rfl) (fun _ _ _ h => h) (Or.inl ⟨by rfl, ?hk22⟩) (OpB.old U20 S6.out) ?rk22
            case hk22 => (intro wz hSw; (try dsimp only at hSw); go_simp; try with_reducible rfl)
            (try simp only [Act.put]); (try simp only [List.setIfInBounds_toArray]); (try simp only [List.set_cons_succ]); (try simp only [List.set_cons_zero])
            refine wpAnyH_take (i := 22) (oi := { dst := some 70, op := Op.pick (Operand.tmp 53) (Operand.const (Value.bool true)) (Operand.tmp 69), type := 4, pos := "law.go:83", after := #[{ on := 5, ground := Ground.data }, { on := 21, ground := Ground.data }], guard := none }) (v := ?vk23) rfl (by kernel_rfl) (by kernel_rfl) (by kernel_rfl) (fun _ _ _ h => h) (Or.inl ⟨by rfl, ?hk23⟩) (OpB.old U20 S6.out) ?rk23
            case hk23 => (intro wz hSw; (try dsimp only at hSw); go_simp; try with_reducible rfl)
            (try simp only [Act.put]); (try simp only [List.setIfInBounds_toArray]); (try simp only [List.set_cons_succ]); (try simp only [List.set_cons_zero])
            refine wpAnyH_done (by kernel_rfl) ?_ _
            refine NoPanic.normal ?_
            have U9 := hid U20
            have T7 := hid (T6.out.old U9.out)
            have HT27 := hid (HT26.out.old U9.out)
            have U7 := hid (U6.out.trans U9.out)
            clear HA2 S6 T6 HT26
            generalize x20 = w7 at *
            obtain ⟨d, hd⟩ : ∃ d : Nat, d + k + 1 = N := ⟨N - 1 - k, by omega⟩
            have hdI : (N : Int) - 1 - (k : Int) = (d : Int) := by omega
            have HDK := hid hd
            skip
            obtain ⟨_, a9, c9, e9, _, hc9⟩ := HO.out.old U7.out
            obtain ⟨b9, off9, hsa9, hW91, hW92, p0, p1, p2, p3, p4, p5⟩ := hc9 d (by omega)
            have hW9 := And.intro hW91 hW92
            simp only [Value.slice.injEq] at e9
            obtain ⟨e91, _, rfl⟩ := e9
            rw [← e91] at hsa9
            simp only [Option.some.injEq, Addr.mk.injEq] at hsa9
            obtain ⟨rfl, rfl, _⟩ := hsa9
            have l3 : (0 : Int) ≤ (d : Int) := by omega
            have l4 : (d : Int) < (N : Int) := by omega
            have l5 : d < N := by omega
            clear hc9 hd e91
            have HPB := hid (put_step f d hW9 (fun i => (i < N ∧ N < i + k + 1) ∧ okO (f i)) (fun i => (i < N ∧ N < i + (k + 1) + 1) ∧ okO (f i)) (fun i => by
              have hd := HDK.out
              constructor
              · rintro ⟨⟨a, b⟩, c⟩
                by_cases e : i = d
                · subst e; exact .inr ⟨rfl, c⟩
                · exact .inl ⟨⟨a, by omega⟩, c⟩
              · rintro (⟨⟨a, b⟩, c⟩ | ⟨rfl, c⟩)
                · exact ⟨⟨a, by omega⟩, c⟩
                · exact ⟨⟨by omega, by omega⟩, c⟩) L2 HG2.out (by have := HN2.out; omega) HH2.out)
            have HW9 := hid hW9
            clear hW9 hW91 hW92
            generalize hfd : f d = y9 at *
            go_upto_region 14 with fail
            have B8 := hid (op_new w7 y9 _ rfl)
            have U8 := hid ((Old.refl w7).alloc (.cells #[.int .i64 y9.kd, .float .f64 y9.a, .float .f64 y9.b, .bool y9.p, .bool y9.q, .int .i64 y9.n] 30))
            have T8 := hid (T7.out.old U8.out)
            have T28 := hid (HT27.out.old U8.out)
            clear p0 p1 p2 p3 p4 p5
            generalize w7.alloc (.cells #[.int .i64 y9.kd, .float .f64 y9.a, .float .f64 y9.b, .bool y9.p, .bool y9.q, .int .i64 y9.n] 30) = w8 at *
            obtain ⟨p0, p1, p2, p3, p4, p5⟩ := B8.out
            have HP2 := hid (put_any b1 b2 64 y9.n v2 L2 y9.a y9.b y9.p y9.q HW9.out.1 HW9.out.2 w8 T28.out HG2.out (by have := HN2.out; omega))
            go_wp2_with (go_at_call 9; refine HP2.out.mono ?_; rintro e w9 ⟨v2', rfl, t9, c9, n9⟩; have T9 := hid t9; have C9 := hid c9; have N9 := hid n9; clear t9 c9 n9)
            go_roundw
            case rel =>
              refine ⟨k + 1, hlt, by go_num, v1', L1', v2', _, ⟨T8.out.chg C9.out (fun e => HD6.out _ (mem_blks.2 (.inl rfl)) e) (fun g hg e => HD6.out _ (mem_blks.2 (.inr hg)) e), HPS.out.1, by have := HPS.out.2.1; have := HN1.out; omega, HPS.out.2.2.1⟩, ⟨T9.out, HPB.out.1, by have := HPB.out.2.1; have := HN2.out; omega, HPB.out.2.2.1⟩, fun g hg hg2 => ?_, (U7.out.trans U8.out).below (Below.mono (T28.out.below C9.out) (Nat.le_of_eq hwb))⟩
              have q1 := (T8.out.blk g hg).2
              rcases mem_blks.1 hg2 with e | e
              · exact HD6.out g hg (mem_blks.2 (.inl e))
              · rcases N9.out g e with r | r
                · exact HD6.out g hg (mem_blks.2 (.inr r))
                · omega
            case measure => simp [intOf]; omega
        · have hez2 : (ec == 0) = false := by rw [beq_eq_false_iff_ne]; exact hez
          clear HOK HH3
          refine wp_region_noPanic ?_
          refine wp_region_held_drew (S := OpB ob z) (by kernel_rfl) ?_ (fun hHeld => ?_)
          · exact OpB.old ((Old.refl _).drew) S6.out
          (try simp only [Act.put]); (try simp only [List.setIfInBounds_toArray]); (try simp only [List.set_cons_succ]); (try simp only [List.set_cons_zero])
          clear hHeld
          refine wpAnyH_take (i := 0) (oi := { dst := some 48, op := Op.move (Operand.tmp 5), type := 24, pos := "law.go:83", after := #[], guard := none }) (v := ?vk41) rfl (by kernel_rfl) (by kernel_rfl) (by kernel_rfl) (fun _ _ _ h => h) (Or.inl ⟨by rfl, ?hk41⟩) (OpB.old ((Old.refl w6).drew) S6.out) ?rk41
          case hk41 => (intro wz hSw; (try dsimp only at hSw); go_simp; try with_reducible rfl)
          (try simp only [Act.put]); (try simp only [List.setIfInBounds_toArray]); (try simp only [List.set_cons_succ]); (try simp only [List.set_cons_zero])
          refine wpAnyH_take (i := 1) (oi := { dst := some 49, op := Op.move (Operand.tmp 1), type := 23, pos := "law.go:83", after := #[], guard := none }) (v := ?vk42) rfl (by kernel_rfl) (by kernel_rfl) (by kernel_rfl) (fun _ _ _ h => h) (Or.inl ⟨by rfl, ?hk42⟩) (OpB.old ((Old.refl w6).drew) S6.out) ?rk42
          case hk42 => (intro wz hSw; (try dsimp only at hSw); go_simp; try with_reducible rfl)
          (try simp only [Act.put]); (try simp only [List.setIfInBounds_toArray]); (try simp only [List.set_cons_succ]); (try simp only [List.set_cons_zero])
          refine wpAnyH_take (i := 3) (oi := { dst := some 51, op := Op.move (Operand.tmp 9), type := 2, pos := "law.go:83", after := #[], guard := none }) (v := ?vk43) rfl (by kernel_rfl) (by kernel_rfl) (by kernel_rfl) (fun _ _ _ h => h) (Or.inl ⟨by rfl, ?hk43⟩) (OpB.old ((Old.refl w6).drew) S6.out) ?rk43
          case hk43 => (intro wz hSw; (try dsimp only at hSw); go_simp; try with_reducible rfl)
          (try simp only [Act.put]); (try simp only [List.setIfInBounds_toArray]); (try simp only [List.set_cons_succ]); (try simp only [List.set_cons_zero])
          refine wpAnyH_ready (rs := [2]) (by kernel_rfl) (by simp) ?_
          refine AllReadyH.cons (o := { dst := some 50, op := Op.call { callee := Callee.value (Operand.func 14), args := #[Operand.tmp 48, Operand.tmp 49], argTypes := #[24, 23] }, type := 2, pos := "law.go:83", after := #[{ on := 0, ground := Ground.data }, { on := 1, ground := Ground.data }], guard := none }) rfl (fun K hK => ?_) AllReadyH.nil
          refine wantCall2 ?_ 14 (.tmp 48) (.tmp 49) #[24, 23] ?_ (.pointer (some ⟨b1, 0, none⟩)) (.float .f64 key) ?_ ?_ ?_ (ent_at _ _) ?_
          · rfl
          · rfl
          · rfl
          · rfl
          · rfl
          refine (HA2.out _ ((Old.refl w6).drew)).mono ?_
          rintro o x44 ⟨rfl, b44⟩
          refine ⟨_, rfl, ?_⟩
          have U44 := ((Old.refl w6).drew).trans b44
          refine hK.out _ _ (OpB.old U44 S6.out) (fun _ => ?_)
          clear hK K
          (try simp only [Act.put]); (try simp only [List.setIfInBounds_toArray]); (try simp only [List.set_cons_succ]); (try simp only [List.set_cons_zero])
          refine wpAnyH_take (i := 4) (oi := { dst := some 52, op := Op.binOp BinOp.lss 2 (Operand.tmp 50) (Operand.tmp 51) 2, type := 4, pos := "law.go:83", after := #[{ on := 2, ground := Ground.data }, { on := 3, ground := Ground.data }], guard := none }) (v := ?vk45) rfl (by kernel_rfl) (by kernel_rfl) (by kernel_rfl) (fun _ _ _ h => h) (Or.inl ⟨by rfl, ?hk45⟩) (OpB.old U44 S6.out) ?rk45
          case hk45 => (intro wz hSw; (try dsimp only at hSw); go_simp; try with_reducible rfl)
          (try simp only [Act.put]); (try simp only [List.setIfInBounds_toArray]); (try simp only [List.set_cons_succ]); (try simp only [List.set_cons_zero])
          refine wpAnyH_take (i := 5) (oi := { dst := some 53, op := Op.move (Operand.tmp 52), type := 4, pos := "law.go:83", after := #[{ on := 4, ground := Ground.data }, { on := 2, ground := Ground.chain }], guard := none }) (v := ?vk46) rfl (by kernel_rfl) (by kernel_rfl) (by kernel_rfl) (fun _ _ _ h => h) (Or.inl ⟨by rfl, ?hk46⟩) (OpB.old U44 S6.out) ?rk46
          case hk46 => (intro wz hSw; (try dsimp only at hSw); go_simp; try with_reducible rfl)
          (try simp only [Act.put]); (try simp only [List.setIfInBounds_toArray]); (try simp only [List.set_cons_succ]); (try simp only [List.set_cons_zero])
          refine wpAnyH_take (i := 6) (oi := { dst := some 54, op := Op.move (Operand.tmp 10), type := 31, pos := "law.go:83", after := #[{ on := 5, ground := Ground.guard }], guard := some (5, false) }) (v := ?vk47) rfl (by kernel_rfl) (by kernel_rfl) (by kernel_rfl) (fun _ _ _ h => h) (Or.inl ⟨by rfl, ?hk47⟩) (OpB.old U44 S6.out) ?rk47
          case hk47 => (intro wz hSw; (try dsimp only at hSw); go_simp; try with_reducible rfl)
          (try simp only [Act.put]); (try simp only [List.setIfInBounds_toArray]); (try simp only [List.set_cons_succ]); (try simp only [List.set_cons_zero])
          refine wpAnyH_take (i := 7) (oi := { dst := some 55, op := Op.binOp BinOp.eql 31 (Operand.tmp 54) (Operand.const (Value.int IntKind.i64 0)) 31, type := 4, pos := "law.go:83", after := #[{ on := 6, ground := Ground.data }, { on := 5, ground := Ground.guard }], guard := some (5, false) }) (v := ?vk48) rfl (by kernel_rfl) (by kernel_rfl) (by kernel_rfl) (fun _ _ _ h => h) (Or.inl ⟨by rfl, ?hk48⟩) (OpB.old U44 S6.out) ?rk48
          case hk48 => (intro wz hSw; (try dsimp only at hSw); go_simp; try with_reducible rfl)
          (try simp only [Act.put]); (try simp only [List.setIfInBounds_toArray]); (try simp only [List.set_cons_succ]); (try simp only [List.set_cons_zero])
          refine wpAnyH_take (i := 8) (oi := { dst := some 56, op := Op.move (Operand.tmp 55), type := 4, pos := "law.go:83", after := #[{ on := 7, ground := Ground.data }, { on := 5, ground := Ground.chain }, { on := 5, ground := Ground.guard }], guard := some (5, false) }) (v := ?vk49) rfl (by kernel_rfl) (by kernel_rfl) (by kernel_rfl) (fun _ _ _ h => h) (Or.inl ⟨by rfl, ?hk49⟩) (OpB.old U44 S6.out) ?rk49
          case hk49 => (intro wz hSw; (try dsimp only at hSw); go_simp; try with_reducible rfl)
          (try simp only [Act.put]); (try simp only [List.setIfInBounds_toArray]); (try simp only [List.set_cons_succ]); (try simp only [List.set_cons_zero])
          refine wpAnyH_take (i := 9) (oi := { dst := some 57, op := Op.fieldAddr 30 (Operand.tmp 8) 1, type := 0, pos := "law.go:83", after := #[{ on := 8, ground := Ground.guard }], guard := some (8, true) }) (v := undef) rfl (by kernel_rfl) (by kernel_rfl) (by kernel_rfl) (fun _ _ _ h => h) (Or.inr ⟨by rfl, rfl⟩) (OpB.old U44 S6.out) ?_
          (try simp only [Act.put]); (try simp only [List.setIfInBounds_toArray]); (try simp only [List.set_cons_succ]); (try simp only [List.set_cons_zero])
          refine wpAnyH_take (i := 10) (oi := { dst := some 58, op := Op.load 28 (Operand.tmp 57), type := 28, pos := "law.go:83", after := #[{ on := 9, ground := Ground.data }, { on := 8, ground := Ground.guard }], guard := some (8, true) }) (v := undef) rfl (by kernel_rfl) (by kernel_rfl) (by kernel_rfl) (fun _ _ _ h => h) (Or.inr ⟨by rfl, rfl⟩) (OpB.old U44 S6.out) ?_
          (try simp only [Act.put]); (try simp only [List.setIfInBounds_toArray]); (try simp only [List.set_cons_succ]); (try simp only [List.set_cons_zero])
          refine wpAnyH_take (i := 11) (oi := { dst := some 59, op := Op.move (Operand.tmp 1), type := 23, pos := "law.go:83", after := #[{ on := 8, ground := Ground.guard }], guard := some (8, true) }) (v := undef) rfl (by kernel_rfl) (by kernel_rfl) (by kernel_rfl) (fun _ _ _ h => h) (Or.inr ⟨by rfl, rfl⟩) (OpB.old U44 S6.out) ?_
          (try simp only [Act.put]); (try simp only [List.setIfInBounds_toArray]); (try simp only [List.set_cons_succ]); (try simp only [List.set_cons_zero])
          refine wpAnyH_take (i := 12) (oi := { dst := some 60, op := Op.call { callee := Callee.value (Operand.func 12), args := #[Operand.tmp 58, Operand.tmp 59], argTypes := #[28, 23] }, type := 4, pos := "law.go:83", after := #[{ on := 10, ground := Ground.data }, { on := 11, ground := Ground.data }, { on := 8, ground := Ground.chain }, { on := 8, ground := Ground.guard }], guard := some (8, true) }) (v := undef) rfl (by kernel_rfl) (by kernel_rfl) (by kernel_rfl) (fun _ _ _ h => h) (Or.inr ⟨by rfl, rfl⟩) (OpB.old U44 S6.out) ?_
          (try simp only [Act.put]); (try simp only [List.setIfInBounds_toArray]); (try simp only [List.set_cons_succ]); (try simp only [List.set_cons_zero])
          refine wpAnyH_take (i := 13) (oi := { dst := some 61, op := Op.pick (Operand.tmp 56) (Operand.tmp 60) (Operand.const (Value.bool false)), type := 4, pos := "law.go:83", after := #[{ on := 8, ground := Ground.data }, { on := 12, ground := Ground.data }, { on := 5, ground := Ground.guard }], guard := some (5, false) }) (v := ?vk50) rfl (by kernel_rfl) (by kernel_rfl) (by kernel_rfl) (fun _ _ _ h => h) (Or.inl ⟨by rfl, ?hk50⟩) (OpB.old U44 S6.out) ?rk50
          case hk50 => (intro wz hSw; (try dsimp only at hSw); go_simp; try with_reducible rfl)
          (try simp only [Act.put]); (try simp only [List.setIfInBounds_toArray]); (try simp only [List.set_cons_succ]); (try simp only [List.set_cons_zero])
          refine wpAnyH_take (i := 14) (oi := { dst := some 62, op := Op.move (Operand.tmp 61), type := 4, pos := "law.go:83", after := #[{ on := 13, ground := Ground.data }, { on := 12, ground := Ground.chain }, { on := 5, ground := Ground.guard }], guard := some (5, false) }) (v := ?vk51) rfl (by kernel_rfl) (by kernel_rfl) (by kernel_rfl) (fun _ _ _ h => h) (Or.inl ⟨by rfl, ?hk51⟩) (OpB.old U44 S6.out) ?rk51
          case hk51 => (intro wz hSw; (try dsimp only at hSw); go_simp; try with_reducible rfl)
          (try simp only [Act.put]); (try simp only [List.setIfInBounds_toArray]); (try simp only [List.set_cons_succ]); (try simp only [List.set_cons_zero])
          refine wpAnyH_take (i := 15) (oi := { dst := some 63, op := Op.move (Operand.tmp 5), type := 24, pos := "law.go:83", after := #[{ on := 14, ground := Ground.guard }], guard := some (14, true) }) (v := undef) rfl (by kernel_rfl) (by kernel_rfl) (by kernel_rfl) (fun _ _ _ h => h) (Or.inr ⟨by rfl, rfl⟩) (OpB.old U44 S6.out) ?_
          (try simp only [Act.put]); (try simp only [List.setIfInBounds_toArray]); (try simp only [List.set_cons_succ]); (try simp only [List.set_cons_zero])
          refine wpAnyH_take (i := 16) (oi := { dst := some 64, op := Op.move (Operand.tmp 1), type := 23, pos := "law.go:83", after := #[{ on := 14, ground := Ground.guard }], guard := some (14, true) }) (v := undef) rfl (by kernel_rfl) (by kernel_rfl) (by kernel_rfl) (fun _ _ _ h => h) (Or.inr ⟨by rfl, rfl⟩) (OpB.old U44 S6.out) ?_
          (try simp only [Act.put]); (try simp only [List.setIfInBounds_toArray]); (try simp only [List.set_cons_succ]); (try simp only [List.set_cons_zero])
          refine wpAnyH_take (i := 17) (oi := { dst := some 65, op := Op.call { callee := Callee.value (Operand.func 14), args := #[Operand.tmp 63, Operand.tmp 64], argTypes := #[24, 23] }, type := 2, pos := "law.go:83", after := #[{ on := 15, ground := Ground.data }, { on := 16, ground := Ground.data }, { on := 14, ground := Ground.chain }, { on := 14, ground := Ground.guard }], guard := some (14, true) }) (v := undef) rfl (by kernel_rfl) (by kernel_rfl) (by kernel_rfl) (fun _ _ _ h => h) (Or.inr ⟨by rfl, rfl⟩) (OpB.old U44 S6.out) ?_
          (try simp only [Act.put]); (try simp only [List.setIfInBounds_toArray]); (try simp only [List.set_cons_succ]); (try simp only [List.set_cons_zero])
          refine wpAnyH_take (i := 18) (oi := { dst := some 66, op := Op.fieldAddr 30 (Operand.tmp 8) 2, type := 0, pos := "law.go:83", after := #[{ on := 14, ground := Ground.guard }], guard := some (14, true) }) (v := undef) rfl (by kernel_rfl) (by kernel_rfl) (by kernel_rfl) (fun _ _ _ h => h) (Or.inr ⟨by rfl, rfl⟩) (OpB.old U44 S6.out) ?_
          (try simp only [Act.put]); (try simp only [List.setIfInBounds_toArray]); (try simp only [List.set_cons_succ]); (try simp only [List.set_cons_zero])
          refine wpAnyH_take (i := 19) (oi := { dst := some 67, op := Op.load 2 (Operand.tmp 66), type := 2, pos := "law.go:83", after := #[{ on := 18, ground := Ground.data }, { on := 14, ground := Ground.guard }], guard := some (14, true) }) (v := undef) rfl (by kernel_rfl) (by kernel_rfl) (by kernel_rfl) (fun _ _ _ h => h) (Or.inr ⟨by rfl, rfl⟩) (OpB.old U44 S6.out) ?_
          (try simp only [Act.put]); (try simp only [List.setIfInBounds_toArray]); (try simp only [List.set_cons_succ]); (try simp only [List.set_cons_zero])
          refine wpAnyH_take (i := 20) (oi := { dst := some 68, op := Op.binOp BinOp.lss 2 (Operand.tmp 65) (Operand.tmp 67) 2, type := 4, pos := "law.go:83", after := #[{ on := 17, ground := Ground.data }, { on := 19, ground := Ground.data }, { on := 14, ground := Ground.guard }], guard := some (14, true) }) (v := undef) rfl (by kernel_rfl) (by kernel_rfl) (by kernel_rfl) (fun _ _ _ h => h) (Or.inr ⟨by rfl, rfl⟩) (OpB.old U44 S6.out) ?_
          (try simp only [Act.put]); (try simp only [List.setIfInBounds_toArray]); (try simp only [List.set_cons_succ]); (try simp only [List.set_cons_zero])
          refine wpAnyH_take (i := 21) (oi := { dst := some 69, op := Op.pick (Operand.tmp 62) (Operand.tmp 68) (Operand.const (Value.bool false)), type := 4, pos := "law.go:83", after := #[{ on := 14, ground := Ground.data }, { on := 20, ground := Ground.data }, { on := 5, ground := Ground.guard }], guard := some (5, false) }) (v := ?vk52) rfl (by kernel_rfl) (by kernel_rfl) (by kernel_rfl) (fun _ _ _ h => h) (Or.inl ⟨by rfl, ?hk52⟩) (OpB.old U44 S6.out) ?rk52
          case hk52 => (intro wz hSw; (try dsimp only at hSw); go_simp; try with_reducible rfl)
          (try simp only [Act.put]); (try simp only [List.setIfInBounds_toArray]); (try simp only [List.set_cons_succ]); (try simp only [List.set_cons_zero])
          refine wpAnyH_take (i := 22) (oi := { dst := some 70, op := Op.pick (Operand.tmp 53) (Operand.const (Value.bool true)) (Operand.tmp 69), type := 4, pos := "law.go:83", after := #[{ on := 5, ground := Ground.data }, { on := 21, ground := Ground.data }], guard := none }) (v := ?vk53) rfl (by kernel_rfl) (by kernel_rfl) (by kernel_rfl) (fun _ _ _ h => h) (Or.inl ⟨by rfl, ?hk53⟩) (OpB.old U44 S6.out) ?rk53
          case hk53 => (intro wz hSw; (try dsimp only at hSw); go_simp; try with_reducible rfl)
          (try simp only [Act.put]); (try simp only [List.setIfInBounds_toArray]); (try simp only [List.set_cons_succ]); (try simp only [List.set_cons_zero])
          refine wpAnyH_done (by kernel_rfl) ?_ _
          refine NoPanic.normal ?_
          have U9 := hid U44
          have T7 := hid (T6.out.old U9.out)
          have HT27 := hid (HT26.out.old U9.out)
          have U7 := hid (U6.out.trans U9.out)
          clear HA2 S6 T6 HT26
          generalize x44 = w7 at *
          obtain ⟨d, hd⟩ : ∃ d : Nat, d + k + 1 = N := ⟨N - 1 - k, by omega⟩
          have hdI : (N : Int) - 1 - (k : Int) = (d : Int) := by omega
          have HDK := hid hd
          skip
          obtain ⟨_, a9, c9, e9, _, hc9⟩ := HO.out.old U7.out
          obtain ⟨b9, off9, hsa9, hW91, hW92, p0, p1, p2, p3, p4, p5⟩ := hc9 d (by omega)
          have hW9 := And.intro hW91 hW92
          simp only [Value.slice.injEq] at e9
          obtain ⟨e91, _, rfl⟩ := e9
          rw [← e91] at hsa9
          simp only [Option.some.injEq, Addr.mk.injEq] at hsa9
          obtain ⟨rfl, rfl, _⟩ := hsa9
          have l3 : (0 : Int) ≤ (d : Int) := by omega
          have l4 : (d : Int) < (N : Int) := by omega
          have l5 : d < N := by omega
          clear hc9 hd e91
          have HPB := hid (put_step f d hW9 (fun i => (i < N ∧ N < i + k + 1) ∧ okO (f i)) (fun i => (i < N ∧ N < i + (k + 1) + 1) ∧ okO (f i)) (fun i => by
            have hd := HDK.out
            constructor
            · rintro ⟨⟨a, b⟩, c⟩
              by_cases e : i = d
              · subst e; exact .inr ⟨rfl, c⟩
              · exact .inl ⟨⟨a, by omega⟩, c⟩
            · rintro (⟨⟨a, b⟩, c⟩ | ⟨rfl, c⟩)
              · exact ⟨⟨a, by omega⟩, c⟩
              · exact ⟨⟨by omega, by omega⟩, c⟩) L2 HG2.out (by have := HN2.out; omega) HH2.out)
          have HW9 := hid hW9
          clear hW9 hW91 hW92
          generalize hfd : f d = y9 at *
          go_upto_region 14 with fail
          have B8 := hid (op_new w7 y9 _ rfl)
          have U8 := hid ((Old.refl w7).alloc (.cells #[.int .i64 y9.kd, .float .f64 y9.a, .float .f64 y9.b, .bool y9.p, .bool y9.q, .int .i64 y9.n] 30))
          have T8 := hid (T7.out.old U8.out)
          have T28 := hid (HT27.out.old U8.out)
          clear p0 p1 p2 p3 p4 p5
          generalize w7.alloc (.cells #[.int .i64 y9.kd, .float .f64 y9.a, .float .f64 y9.b, .bool y9.p, .bool y9.q, .int .i64 y9.n] 30) = w8 at *
          obtain ⟨p0, p1, p2, p3, p4, p5⟩ := B8.out
          have HP2 := hid (put_any b1 b2 64 y9.n v2 L2 y9.a y9.b y9.p y9.q HW9.out.1 HW9.out.2 w8 T28.out HG2.out (by have := HN2.out; omega))
          go_wp2_with (go_at_call 9; refine HP2.out.mono ?_; rintro e w9 ⟨v2', rfl, t9, c9, n9⟩; have T9 := hid t9; have C9 := hid c9; have N9 := hid n9; clear t9 c9 n9)
          go_roundw
          case rel =>
            refine ⟨k + 1, hlt, by go_num, v1', L1', v2', _, ⟨T8.out.chg C9.out (fun e => HD6.out _ (mem_blks.2 (.inl rfl)) e) (fun g hg e => HD6.out _ (mem_blks.2 (.inr hg)) e), HPS.out.1, by have := HPS.out.2.1; have := HN1.out; omega, HPS.out.2.2.1⟩, ⟨T9.out, HPB.out.1, by have := HPB.out.2.1; have := HN2.out; omega, HPB.out.2.2.1⟩, fun g hg hg2 => ?_, (U7.out.trans U8.out).below (Below.mono (T28.out.below C9.out) (Nat.le_of_eq hwb))⟩
            have q1 := (T8.out.blk g hg).2
            rcases mem_blks.1 hg2 with e | e
            · exact HD6.out g hg (mem_blks.2 (.inl e))
            · rcases N9.out g e with r | r
              · exact HD6.out g hg (mem_blks.2 (.inr r))
              · omega
          case measure => simp [intOf]; omega
      · obtain rfl : k = N := by omega
        have hLL : L1 = L2 := Two.same (fun i hi => by obtain ⟨_, _, _, _, _, hc⟩ := HO.out; obtain ⟨_, _, _, q1, q2, _⟩ := hc i hi; exact ⟨q1, q2⟩) HG1.out HG2.out HH1.out HH2.out
        subst hLL
        have hl1 : L1.length ≤ 1000000 := by have := HN1.out; omega
        go_upto_region 17 with fail
        have HAll := hid (all_any b1 b1 64 v1 L1 wr hl1 HT1.out)
        go_upto_region 18 with (go_at_call 10; refine HAll.out.mono ?_; rintro e w7 ⟨v6, rfl, o6, u6⟩; obtain ⟨a6, c6, hv6⟩ := o6.len; subst hv6; have O6 := hid o6; have U7 := hid u6; clear o6 u6)
        have HSh := hid (fun (e : 0 < L1.length) => O6.out.shape e)
        have HMem := hid (fun j (hj : j < L1.length) => HG1.out.at j hj)
        have HA1 := hid (fun (W : World) (u : Old wr W) => at_any b1 b1 64 v1 L1 key hkey W (HT1.out.old u) HG1.out hl1)
        have HA2 := hid (fun (W : World) (u : Old wr W) => at_any b1 b2 64 v2 L1 key hkey W (HT2.out.old u) HG1.out hl1)
        have HL1 := hid (fun (W : World) (u : Old wr W) => len_any b1 b1 64 v1 L1 W (HT1.out.old u))
        have HL2 := hid (fun (W : World) (u : Old wr W) => len_any b1 b2 64 v2 L1 W (HT2.out.old u))
        clear O6 HAll
        generalize hM : L1.length = M at *
        have HN1' := hid HN1.out
        go_wp2
        go_loopw [12, 89] (fun r i wq => ∃ j : Nat, j ≤ M ∧ i = .int .i64 (j : Nat) ∧ r = .int .i64 (overT key L1 j) ∧ Old w7 wq) (fun r i _ => M - (intOf i).toNat)
        case atStart => exact ⟨0, Nat.zero_le _, rfl, rfl, Old.refl _⟩
        case round =>
          obtain ⟨j, hj, rfl, rfl, hu⟩ := hrel
          have HV := hid hu
          clear hu
          by_cases hjt : j < M
          · obtain ⟨g, cap, he, hgb, hgl, hi, hfz⟩ := HSh.out (by omega)
            simp only [Value.slice.injEq] at he
            obtain ⟨rfl, _, rfl⟩ := he
            obtain ⟨c0, c1, c2, c3, c4⟩ := (hi j hjt).old HV.out
            have l1 : (0 : Int) ≤ (j : Int) := by omega
            have l2 : (j : Int) < (M : Int) := by omega
            clear hi hfz
            have HMj := hid (HMem.out j hjt)
            go_upto_region 20 with fail
            have B4 := hid (item_new wr (atI L1 j) _ rfl)
            have U4 := hid ((Old.refl wr).alloc (.cells (itc (atI L1 j)).toArray 37))
            have hwe : wr.alloc (.cells #[.float .f64 (atI L1 j).a, .float .f64 (atI L1 j).b, .bool (atI L1 j).p, .bool (atI L1 j).q, .int .i64 (atI L1 j).n] 37) = wr.alloc (.cells (itc (atI L1 j)).toArray 37) := rfl
            rw [hwe]
            clear hwe c0 c1 c2 c3 c4
            generalize wr.alloc (.cells (itc (atI L1 j)).toArray 37) = w8 at *
            obtain ⟨d0, d1, d2, d3, d4⟩ := B4.out
            have HU8 := hid (HV.out.trans U4.out)
            have HC := hid (fun W => has_old (atI L1 j).a (atI L1 j).b key HMj.out.1.1 HMj.out.1.2.1 hkey (atI L1 j).p (atI L1 j).q W)
            have HST := hid (show overT key L1 (j + 1) = if hasB (atI L1 j).a (atI L1 j).b (atI L1 j).p (atI L1 j).q key = true then max (overT key L1 j) (atI L1 j).n else overT key L1 j from rfl)
            generalize overT key L1 j = r at *
            cases hh : hasB (atI L1 j).a (atI L1 j).b (atI L1 j).p (atI L1 j).q key
            · rw [hh] at HC HST
              have HST2 := hid (HST.out.trans (if_neg (by simp)))
              clear HST hh
              go_wp2_with (go_at_call 12; refine (HC.out _).mono ?_; rintro e w9 ⟨rfl, u9⟩; have U9 := hid u9; clear u9)
              go_roundw
              case rel => exact ⟨j + 1, hjt, by go_num, by rw [HST2.out], HU8.out.trans U9.out⟩
              case measure => simp [intOf]; omega
            · rw [hh] at HC HST
              have HST2 := hid (HST.out.trans (if_pos rfl))
              clear HST hh
              go_upto_region 21 with (go_at_call 12; refine (HC.out _).mono ?_; rintro e w9 ⟨rfl, u9⟩; have U9 := hid u9; clear u9)
              have d4' := U9.out.keep d4
              go_wp2
              go_roundw
              case rel => exact ⟨j + 1, hjt, by go_num, by rw [HST2.out]; congr 1; omega, HU8.out.trans U9.out⟩
              case measure => simp [intOf]; omega
          · obtain rfl : j = M := by omega
            have UQ := hid (U7.out.trans HV.out)
            clear HSh HMem
            generalize overT key L1 j = R at *
            go_wp2_with (first | (go_at_call_has 14 (Value.pointer (some ⟨b1, 0, none⟩)); refine (HA1.out _ UQ.out).mono ?_; rintro e y1 ⟨rfl, u1⟩; have Y1 := hid (UQ.out.trans u1); clear u1) | (go_at_call_has 14 (Value.pointer (some ⟨b2, 0, none⟩)); refine (HA2.out _ Y1.out).mono ?_; rintro e y2 ⟨rfl, u2⟩; have Y2 := hid (Y1.out.trans u2); clear u2) | (go_at_call_has 13 (Value.pointer (some ⟨b2, 0, none⟩)); refine (HL2.out _ Y2.out).mono ?_; rintro e y3 ⟨rfl, hy3⟩; have hy4 := hy3.symm; subst hy4) | (go_at_call_has 13 (Value.pointer (some ⟨b1, 0, none⟩)); refine (HL1.out _ Y2.out).mono ?_; rintro e y5 ⟨rfl, hy5⟩; have hy6 := hy5.symm; subst hy6))
            go_ret
            exact ⟨rfl, HU.out.trans Y2.out⟩

end Go.Proofs.Ytpmjlphimdhiiaa
