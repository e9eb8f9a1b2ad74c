/- The law VersGrows at every row of calls, every key and every span; no condition. -/
import Derived.Test.YtbjikfcegiagjaaXm
import Derived.Test.YtbjikfcegiagjaaXr
namespace Go.Proofs.Ytbjikfcegiagjaa
open Go.RowKit Go.Lib
set_option linter.unusedVariables false
set_option linter.unusedSimpArgs false
set_option maxRecDepth 20000
theorem ent_len (args : Array Value) (w : World) : (callFunc 19 args).run Try.prog w = .ok (.enter 19 args) w := by kernel_rfl
/-- A span in a variable, a call in another one. -/
abbrev SpO (m a b : Nat) (p q : Bool) (g : Nat) (z : Opv) (w : World) : Prop := SpAt m a b p q w ∧ w.cell? ⟨g, 1, none⟩ = some (.float .f64 z.k) ∧ w.cell? ⟨g, 2, none⟩ = some (.int .i64 z.n)
theorem SpO.old {m a b : Nat} {p q : Bool} {g : Nat} {z : Opv} {w w' : World} (u : Old w w') (h : SpO m a b p q g z w) : SpO m a b p q g z w' := ⟨SpAt.old u h.1, u.keep h.2.1, u.keep h.2.2⟩
theorem over_ge0 (h : Nat → Bool) (L : List It) : ∀ k, 0 ≤ overT h L k
  | 0 => Int.le_refl _
  | k + 1 => by
    have := over_ge0 h L k
    unfold overT
    split <;> omega
theorem over_mono (h : Nat → Bool) (L : List It) : ∀ k i, i < k → h (atI L i).k = true → (atI L i).n ≤ overT h L k
  | 0, i, hi, _ => by omega
  | k + 1, i, hi, hh => by
    unfold overT
    by_cases e : i = k
    · subst e; rw [if_pos hh]; omega
    · have := over_mono h L k i (by omega) hh
      split <;> omega
theorem over_le (h : Nat → Bool) (L : List It) (B : Int) (hB : 0 ≤ B) : ∀ k, (∀ i, i < k → h (atI L i).k = true → (atI L i).n ≤ B) → overT h L k ≤ B
  | 0, _ => hB
  | k + 1, hh => by
    have := over_le h L B hB k fun i hi => hh i (by omega)
    unfold overT
    split
    · rename_i hk; have := hh k (by omega) hk; omega
    · exact this
theorem key_with (y : It) (m : Int) : (withN y m).k = y.k := rfl
theorem over_put (h : Nat → Bool) (x : It) (L : List It) : overT h L L.length ≤ overT h (putL x L) (putL x L).length := by
  refine over_le h L _ (over_ge0 _ _ _) _ fun i hi hh => ?_
  obtain ⟨z, hz, _, hn, m, e⟩ := put_has x L (atI L i) (mem_atI L i hi)
  obtain ⟨j, hj, rfl⟩ := List.getElem_of_mem hz
  have := over_mono h (putL x L) (putL x L).length j hj (by rw [atI_get _ j hj, e, key_with]; exact hh)
  rw [atI_get _ j hj] at this
  omega
def okO (z : Opv) : Prop := Fl.nan z.k = false ∧ ¬ (z.n < 1 ∨ 1099511627776 < z.n)
def itO (f : Nat → Opv) (i : Nat) : It := ⟨Fl.canon (f i).k, (f i).n⟩
theorem putR_room {z : Opv} {L : List It} (h : (L.length : Int) < 64) : (okO z → putR z.k z.n 64 L = (0, putL ⟨Fl.canon z.k, z.n⟩ L)) ∧ (¬ okO z → (putR z.k z.n 64 L).2 = L) := by
  unfold putR okO
  by_cases h1 : Fl.nan z.k = true
  · rw [if_pos h1]; exact ⟨fun e => absurd e.1 (by simp [h1]), fun _ => rfl⟩
  · rw [if_neg h1]
    have h1' : Fl.nan z.k = false := by simpa using h1
    by_cases h2 : z.n < 1 ∨ 1099511627776 < z.n
    · rw [if_pos h2]; exact ⟨fun e => absurd h2 e.2, fun _ => rfl⟩
    · rw [if_neg h2]
      refine ⟨fun _ => ?_, fun e => absurd ⟨h1', h2⟩ e⟩
      split
      · rfl
      · rw [if_neg (by omega)]
theorem putR_bad {z : Opv} {L : List It} (h : ¬ okO z) : (putR z.k z.n 64 L).1 ≠ 0 := by
  unfold okO at h
  unfold putR
  by_cases h1 : Fl.nan z.k = true
  · rw [if_pos h1]; simp
  · rw [if_neg h1]
    have h1' : Fl.nan z.k = false := by simpa using h1
    by_cases h2 : z.n < 1 ∨ 1099511627776 < z.n
    · rw [if_pos h2]; simp
    · exact absurd ⟨h1', h2⟩ h
theorem canon_of_code {a b : Nat} (ha : Fl.W a) (hb : Fl.W b) (h : Fl.code a = Fl.code b) : Fl.canon a = Fl.canon b := by rw [← Fl.of_code a ha, ← Fl.of_code b hb, h]
/-- What one Put does to a table with room. -/
theorem put_step (f : Nat → Opv) (j : Nat) (hW : Fl.W (f j).k) (P Q : Nat → Prop) (e : ∀ i, Q i ↔ P i ∨ (i = j ∧ okO (f j))) (L : List It) (hG : Good L) (hl : (L.length : Int) < 64) (hH : Holds (itO f) P L) :
    Good (putR (f j).k (f j).n 64 L).2 ∧ (putR (f j).k (f j).n 64 L).2.length ≤ L.length + 1 ∧ Holds (itO f) Q (putR (f j).k (f j).n 64 L).2 ∧ (∀ c, atL c L ≤ atL c (putR (f j).k (f j).n 64 L).2) ∧ (∀ h, overT h L L.length ≤ overT h (putR (f j).k (f j).n 64 L).2 (putR (f j).k (f j).n 64 L).2.length) ∧ ((putR (f j).k (f j).n 64 L).1 = 0 → (f j).n ≤ atL (Fl.code (f j).k) (putR (f j).k (f j).n 64 L).2) := by
  refine ⟨put_good hW hG, ?_⟩
  have hb := @putR_bad (f j) L
  obtain ⟨hr1, hr2⟩ := @putR_room (f j) L hl
  by_cases ho : okO (f j)
  · rw [hr1 ho]
    refine ⟨put_len _ _, hH.put j (fun i => by rw [e i]; simp [ho]) (fun y hy hk => ?_), fun c => atL_put _ L hG.1 (fun y hy => by have := (hG.2 y hy).2.2.2.1; omega) (by show 0 ≤ (f j).n; have := ho.2; omega) c, fun h => over_put h _ L, fun _ => ?_⟩
    · have g := hG.2 y hy
      have hkk : Fl.code y.k = Fl.code (f j).k := by have := hk; unfold kc itO at this; rw [Fl.code_canon] at this; exact this
      have := canon_of_code g.1 hW hkk
      rw [g.2.2.1] at this
      show (⟨y.k, (f j).n⟩ : It) = ⟨Fl.canon (f j).k, (f j).n⟩
      rw [this]
    · have := atL_self ⟨Fl.canon (f j).k, (f j).n⟩ L hG.1
      rw [kc_new] at this
      exact this
  · rw [hr2 ho]
    exact ⟨by simp, hH.skip fun i => by rw [e i]; simp [ho], fun c => Int.le_refl _, fun h => Int.le_refl _, fun q => absurd q (hb ho)⟩
theorem Own.mono {base b' : Nat} {w : World} {v : Value} {L : List It} (h : Own base w v L) (hb : b' ≤ base) : Own b' w v L := by
  refine ⟨h.1, ?_⟩
  rcases h.2 with e | ⟨g, cap, cur, e, hb', r⟩
  · exact .inl e
  · exact .inr ⟨g, cap, cur, e, by omega, r⟩
theorem TabAt.mono {base b' : Nat} {w : World} {b : Nat} {most : Int} {v : Value} {L : List It} (h : TabAt base w b most v L) (hb : b' ≤ base) : TabAt b' w b most v L := ⟨by have := h.1; omega, h.2.1, h.2.2.1, h.2.2.2.1, h.2.2.2.2.1.mono hb, h.2.2.2.2.2⟩
/-- Two tables in the middle of the rounds. -/
def Two (f : Nat → Opv) (N b0 b1 b2 : Nat) (w0 : World) (k : Nat) (w : World) : Prop := ∃ v1 L1 v2 L2, (TabAt b0 w b1 64 v1 L1 ∧ Good L1 ∧ L1.length ≤ k ∧ Holds (itO f) (fun i => i < k ∧ okO (f i)) L1) ∧ (TabAt b0 w b2 64 v2 L2 ∧ Good L2 ∧ L2.length ≤ k ∧ Holds (itO f) (fun i => (i < N ∧ N < i + k + 1) ∧ okO (f i)) L2) ∧ (∀ g, g ∈ blks b1 v1 → g ∉ blks b2 v2) ∧ Old w0 w
theorem Two.same {f : Nat → Opv} {N b0 b1 b2 : Nat} {w0 w : World} (hW : ∀ i, i < N → Fl.W (f i).k) {v1 v2 : Value} {L1 L2 : List It} (h1 : Good L1) (h2 : Good L2) (g1 : Holds (itO f) (fun i => i < N ∧ okO (f i)) L1) (g2 : Holds (itO f) (fun i => (i < N ∧ N < i + N + 1) ∧ okO (f i)) L2) : L1 = L2 := by
  refine g1.one (g2.skip fun i => ?_) h1.1 h2.1 ?_
  · constructor
    · rintro ⟨⟨a, _⟩, b⟩; exact ⟨a, b⟩
    · rintro ⟨a, b⟩; exact ⟨⟨a, by omega⟩, b⟩
  · rintro i j ⟨hi, _⟩ ⟨hj, _⟩ e
    have hc : Fl.code (f i).k = Fl.code (f j).k := by unfold kc itO at e; rw [Fl.code_canon, Fl.code_canon] at e; exact e
    have := canon_of_code (hW i hi) (hW j hj) hc
    show (⟨Fl.canon (f i).k, (f j).n⟩ : It) = ⟨Fl.canon (f j).k, (f j).n⟩
    rw [this]
attribute [local go_sem] run_bits run_frombits run_store_float
set_option maxHeartbeats 8000000 in
set_option maxRecDepth 20000 in
theorem growsLaw (vs : Value) (N0 : Nat) (f : Nat → Opv) (key : Nat) (hkey : Fl.W key) (x y : Nat) (p q : Bool) (hx : Fl.W x) (hy : Fl.W y) (w0 : World) (h : ORow w0 vs N0 f) :
    Calls Try.prog 5 #[vs, .float .f64 key, .agg #[.float .f64 x, .float .f64 y, .bool p, .bool q]] w0 fun e w' => e = .returned (.bool true) ∧ Old w0 w' := by
  have hV := hid ((Old.refl w0).alloc (.cells #[.float .f64 x, .float .f64 y, .bool p, .bool q] 25))
  have HS := hid (show SpAt w0.heap.size x y p q (w0.alloc (.cells #[.float .f64 x, .float .f64 y, .bool p, .bool q] 25)) by simp [SpAt])
  have HO0 := hid (h.old hV.out)
  obtain ⟨hbN, sa, sc, hvs, hsc, _⟩ := h
  subst hvs
  go_enter Try.func5, Try.ntmps5
  go_upto_region 1 with fail
  generalize w0.alloc (.cells #[.float .f64 x, .float .f64 y, .bool p, .bool q] 25) = w at *
  generalize w0.heap.size = sb at *
  have HN := hid (fun W => new_any 64 W)
  go_upto_region 2 with (first | (go_at_call 9; refine (HN.out _).mono ?_; (first | (have T0 := T1; have U0 := U1; rintro e w2 ⟨rfl, t1, u1⟩; have T2 := hid t1; have U2 := hid (U0.out.trans u1); have T1' := hid (T0.out.old u1); clear t1 u1) | (rintro e w1 ⟨rfl, t1, u1⟩; have HSz := hid t1.lt; have T1 := hid t1; have U1 := hid u1; clear t1 u1))))
  clear T0 U0 T1 U1
  go_upto_region 4 with (first | (go_at_call 10; refine (alive_any _).mono ?_; rintro e w3 ⟨rfl, u3⟩; have T3 := hid (T1'.out.old u3); have T3b := hid (T2.out.old u3); have U3 := hid (U2.out.trans u3); clear u3))
  have hm64 : mostC 64 = 64 := by kernel_rfl
  rw [hm64] at T3 T3b
  have hww := T1'.out.lt
  have hwb := T2.out.1
  have hb12 : w.heap.size < w1.heap.size := HSz.out
  have HI := hid (fun N => show Two f N w.heap.size w.heap.size w1.heap.size w 0 w3 from ⟨_, [], _, [], ⟨T3.out, good0, Nat.le_refl _, Holds.nil _ _ (fun i hi => by omega)⟩, ⟨T3b.out.mono (by omega), good0, Nat.le_refl _, Holds.nil _ _ (fun i hi => by omega)⟩, fun g hg hg2 => by
    rcases mem_blks.1 hg with e1 | e1
    · rcases mem_blks.1 hg2 with e2 | e2
      · omega
      · simp [Value.ownBlock] at e2
    · simp [Value.ownBlock] at e1, U3.out⟩)
  clear T1' T2 T3 T3b U2 U3 hm64 hww hwb HN HSz
  generalize hwb : w.heap.size = b1 at *
  generalize w1.heap.size = b2 at *
  by_cases hN6 : 60 < N0
  · have HO := hid (show ORow w (.slice sa 60 sc) 60 f from by
      obtain ⟨h1, a, c, e, h4, h5⟩ := HO0.out
      simp only [Value.slice.injEq] at e
      obtain ⟨rfl, _, rfl⟩ := e
      exact ⟨by omega, _, _, rfl, by omega, fun i hi => h5 i (by omega)⟩)
    have HI0 := hid (HI.out 60)
    have l60 : (60 : Int) < (N0 : Int) := by omega
    have l61 : (60 : Int) ≤ (sc : Int) := by omega
    have l62 : 60 ≤ sc := by omega
    go_upto_region 6 with fail
    clear HI HO0 l60 l61 l62 hN6 hsc hbN
    go_wp2
    go_loopw [34] (fun i wr => ∃ k : Nat, k ≤ 60 ∧ i = .int .i64 (k : Nat) ∧ Two f 60 b1 b1 b2 w k wr) (fun i _ => 60 - (intOf i).toNat)
    case atStart => exact ⟨0, Nat.zero_le _, rfl, HI0.out⟩
    case round =>
      obtain ⟨k, hk, rfl, v1, L1, v2, L2, ⟨t1, g1, n1, h1⟩, ⟨t2, g2, n2, h2⟩, hdj, hu⟩ := hrel
      have HT1 := hid t1
      have HG1 := hid g1
      have HH1 := hid h1
      have HT2 := hid t2
      have HG2 := hid g2
      have HH2 := hid h2
      have HD := hid hdj
      have HU := hid hu
      have HN1 := hid n1
      have HN2 := hid n2
      clear t1 g1 h1 t2 g2 h2 hdj hu HI0 n1 n2
      by_cases hlt : k < 60
      · obtain ⟨_, a', c', e', _, hc⟩ := HO.out.old HU.out
        obtain ⟨b', off, hsa, hW, o0, o1, o2⟩ := hc k hlt
        simp only [Value.slice.injEq] at e'
        obtain ⟨rfl, _, rfl⟩ := e'
        subst hsa
        have l1 : (0 : Int) ≤ (k : Int) := by omega
        have l2 : (k : Int) < (60 : Int) := by omega
        clear hc
        have HW := hid hW
        have HPS := hid (put_step f k hW (fun i => i < k ∧ okO (f i)) (fun i => i < k + 1 ∧ okO (f i)) (fun i => by
          constructor
          · rintro ⟨a, b⟩
            by_cases e : i = k
            · subst e; exact .inr ⟨rfl, b⟩
            · exact .inl ⟨by omega, b⟩
          · rintro (⟨a, b⟩ | ⟨rfl, b⟩)
            · exact ⟨by omega, b⟩
            · exact ⟨by omega, b⟩) L1 HG1.out (by have := HN1.out; omega) HH1.out)
        generalize hfk : f k = z at *
        go_upto_region 9 with fail
        have B4 := hid (op_new wr z _ rfl)
        have U4 := hid ((Old.refl wr).alloc (.cells #[.int .i64 z.kd, .float .f64 z.k, .int .i64 z.n] 34))
        have T4 := hid (HT1.out.old U4.out)
        have S4 := hid (SpAt.old (HU.out.trans U4.out) HS.out)
        have HZ := hid (show ∀ g, g ∈ blks b1 v1 → g < wr.heap.size from fun g hg => (HT1.out.blk g hg).2)
        have hobk := hid (show wr.heap.size ∉ blks b1 v1 from fun e => by have := HZ.out _ e; omega)
        clear o0 o1 o2 HZ
        generalize wr.alloc (.cells #[.int .i64 z.kd, .float .f64 z.k, .int .i64 z.n] 34) = w4 at *
        generalize hob : wr.heap.size = ob at *
        have hl1 : L1.length ≤ 1000000 := by have := HN1.out; omega
        have HA1 := hid (fun (W : World) (u : Old w4 W) => at_any b1 b1 64 v1 L1 key hkey W (T4.out.old u) HG1.out hl1)
        have HO1 := hid (fun (W : World) (u : Old w4 W) => over_any b1 b1 64 v1 L1 x y hx hy p q W (T4.out.old u) HG1.out hl1)
        have HAC := hid (HPS.out.2.2.2.1 (Fl.code key))
        have HOC := hid (HPS.out.2.2.2.2.1 (hasB x y p q))
        have HOK := hid (HPS.out.2.2.2.2.2)
        generalize hA : atL (Fl.code key) L1 = A at *
        generalize hB : overT (hasB x y p q) L1 L1.length = B at *
        refine wp_region_noPanic ?_
        refine wp_region_held_drew (S := SpAt sb x y p q) (by kernel_rfl) ?_ (fun hHeld => ?_)
        · exact SpAt.old ((Old.refl _).drew) S4.out
        (try simp only [Act.put]); (try simp only [List.setIfInBounds_toArray]); (try simp only [List.set_cons_succ]); (try simp only [List.set_cons_zero])
        clear hHeld
        refine wpAnyH_take (i := 0) (oi := { dst := some 39, op := Op.move (Operand.tmp 7), type := 26, pos := "law.go:105", after := #[], guard := none }) (v := ?vk116) rfl (by kernel_rfl) (by kernel_rfl) (by kernel_rfl) (fun _ _ _ h => h) (Or.inl ⟨by rfl, ?hk116⟩) (SpAt.old ((Old.refl w4).drew) S4.out) ?rk116
        case hk116 => (intro wz hSw; (try dsimp only at hSw); go_simp; try with_reducible rfl)
        (try simp only [Act.put]); (try simp only [List.setIfInBounds_toArray]); (try simp only [List.set_cons_succ]); (try simp only [List.set_cons_zero])
        refine wpAnyH_take (i := 1) (oi := { dst := some 40, op := Op.move (Operand.tmp 1), type := 23, pos := "law.go:105", after := #[], guard := none }) (v := ?vk117) rfl (by kernel_rfl) (by kernel_rfl) (by kernel_rfl) (fun _ _ _ h => h) (Or.inl ⟨by rfl, ?hk117⟩) (SpAt.old ((Old.refl w4).drew) S4.out) ?rk117
        case hk117 => (intro wz hSw; (try dsimp only at hSw); go_simp; try with_reducible rfl)
        (try simp only [Act.put]); (try simp only [List.setIfInBounds_toArray]); (try simp only [List.set_cons_succ]); (try simp only [List.set_cons_zero])
        refine wpAnyH_take (i := 3) (oi := { dst := some 42, op := Op.move (Operand.tmp 7), type := 26, pos := "law.go:105", after := #[], guard := none }) (v := ?vk118) rfl (by kernel_rfl) (by kernel_rfl) (by kernel_rfl) (fun _ _ _ h => h) (Or.inl ⟨by rfl, ?hk118⟩) (SpAt.old ((Old.refl w4).drew) S4.out) ?rk118
        case hk118 => (intro wz hSw; (try dsimp only at hSw); go_simp; try with_reducible rfl)
        (try simp only [Act.put]); (try simp only [List.setIfInBounds_toArray]); (try simp only [List.set_cons_succ]); (try simp only [List.set_cons_zero])
        refine wpAnyH_take (i := 4) (oi := { dst := some 43, op := Op.load 25 (Operand.tmp 5), type := 25, pos := "law.go:105", after := #[], guard := none }) (v := ?vk119) rfl (by kernel_rfl) (by kernel_rfl) (by kernel_rfl) (fun _ _ _ h => h) (Or.inl ⟨by rfl, ?hk119⟩) (SpAt.old ((Old.refl w4).drew) S4.out) ?rk119
        case hk119 => (intro wz hSw; (try dsimp only at hSw); go_simp; try with_reducible rfl)
        (try simp only [Act.put]); (try simp only [List.setIfInBounds_toArray]); (try simp only [List.set_cons_succ]); (try simp only [List.set_cons_zero])
        refine wpAnyH_ready (rs := [2]) (by kernel_rfl) (by simp) ?_
        refine AllReadyH.cons (o := { dst := some 41, op := Op.call { callee := Callee.value (Operand.func 14), args := #[Operand.tmp 39, Operand.tmp 40], argTypes := #[26, 23] }, type := 2, pos := "law.go:105", after := #[{ on := 0, ground := Ground.data }, { on := 1, ground := Ground.data }], guard := none }) rfl (fun K hK => ?_) AllReadyH.nil
        refine wantCall2 ?_ 14 (.tmp 39) (.tmp 40) #[26, 23] ?_ (.pointer (some ⟨b1, 0, none⟩)) (.float .f64 key) ?_ ?_ ?_ (ent_at _ _) ?_
        · rfl
        · rfl
        · rfl
        · rfl
        · rfl
        refine (HA1.out _ ((Old.refl w4).drew)).mono ?_
        rintro o x120 ⟨rfl, b120⟩
        refine ⟨_, rfl, ?_⟩
        have U120 := ((Old.refl w4).drew).trans b120
        refine hK.out _ _ (SpAt.old U120 S4.out) (fun _ => ?_)
        clear hK K
        (try simp only [Act.put]); (try simp only [List.setIfInBounds_toArray]); (try simp only [List.set_cons_succ]); (try simp only [List.set_cons_zero])
        refine wpAnyH_ready (rs := [5]) (by kernel_rfl) (by simp) ?_
        refine AllReadyH.cons (o := { dst := some 44, op := Op.call { callee := Callee.value (Operand.func 20), args := #[Operand.tmp 42, Operand.tmp 43], argTypes := #[26, 25] }, type := 2, pos := "law.go:105", after := #[{ on := 3, ground := Ground.data }, { on := 4, ground := Ground.data }, { on := 2, ground := Ground.chain }], guard := none }) rfl (fun K hK => ?_) AllReadyH.nil
        refine wantCall2 ?_ 20 (.tmp 42) (.tmp 43) #[26, 25] ?_ (.pointer (some ⟨b1, 0, none⟩)) (.agg #[.float .f64 x, .float .f64 y, .bool p, .bool q]) ?_ ?_ ?_ (ent_over _ _) ?_
        · rfl
        · rfl
        · rfl
        · rfl
        · rfl
        refine (HO1.out _ U120).mono ?_
        rintro o x121 ⟨rfl, b121⟩
        refine ⟨_, rfl, ?_⟩
        have U121 := U120.trans b121
        refine hK.out _ _ (SpAt.old U121 S4.out) (fun _ => ?_)
        clear hK K
        (try simp only [Act.put]); (try simp only [List.setIfInBounds_toArray]); (try simp only [List.set_cons_succ]); (try simp only [List.set_cons_zero])
        refine wpAnyH_ready (rs := [6]) (by kernel_rfl) (by simp) ?_
        refine AllReadyH.cons (o := { dst := some 11, op := Op.assign (Operand.tmp 41), type := 2, pos := "law.go:105", after := #[{ on := 2, ground := Ground.data }, { on := 5, ground := Ground.chain }, { on := 0, ground := Ground.phase }, { on := 1, ground := Ground.phase }, { on := 2, ground := Ground.phase }, { on := 3, ground := Ground.textOnly Departure.lateStores }, { on := 4, ground := Ground.textOnly Departure.lateStores }, { on := 5, ground := Ground.textOnly Departure.lateStoresUnsure }], guard := none }) rfl (fun K hK => ?_) AllReadyH.nil
        go_simp
        refine hK.out _ _ (SpAt.old U121 S4.out) (fun _ => ?_)
        clear hK K
        (try simp only [Act.put]); (try simp only [List.setIfInBounds_toArray]); (try simp only [List.set_cons_succ]); (try simp only [List.set_cons_zero])
        refine wpAnyH_ready (rs := [7]) (by kernel_rfl) (by simp) ?_
        refine AllReadyH.cons (o := { dst := some 12, op := Op.assign (Operand.tmp 44), type := 2, pos := "law.go:105", after := #[{ on := 5, ground := Ground.data }, { on := 6, ground := Ground.chain }, { on := 0, ground := Ground.phase }, { on := 1, ground := Ground.phase }, { on := 2, ground := Ground.phase }, { on := 3, ground := Ground.phase }, { on := 4, ground := Ground.phase }, { on := 5, ground := Ground.phase }, { on := 6, ground := Ground.phase }], guard := none }) rfl (fun K hK => ?_) AllReadyH.nil
        go_simp
        refine hK.out _ _ (SpAt.old U121 S4.out) (fun _ => ?_)
        clear hK K
        (try simp only [Act.put]); (try simp only [List.setIfInBounds_toArray]); (try simp only [List.set_cons_succ]); (try simp only [List.set_cons_zero])
        refine wpAnyH_done (by kernel_rfl) ?_ _
        refine NoPanic.normal ?_
        have U9 := hid U121
        have T5 := hid (T4.out.old U9.out)
        have B5 := hid (B4.out.old U9.out)
        have hb5 := B5.out.2.1
        have hb6 := B5.out.2.2
        have U5 := hid ((HU.out.trans U4.out).trans U9.out)
        have HT25 := hid (HT2.out.old (U4.out.trans U9.out))
        clear HA1 HO1 T4 S4 B4
        generalize x121 = w5 at *
        have HP := hid (put_any b1 b1 64 z.n v1 L1 z.k HW.out w5 T5.out HG1.out hl1)
        generalize hec : (putR z.k z.n 64 L1).1 = ec at *
        generalize hL1' : (putR z.k z.n 64 L1).2 = L1' at *
        go_upto_region 11 with (go_at_call 12; refine HP.out.mono ?_; rintro e w6 ⟨v1', rfl, t6, c6, n6⟩; have T6 := hid t6; have C6 := hid c6; have N6 := hid n6; clear t6 c6 n6)
        have U6 := hid (U5.out.below (Below.mono (T5.out.below C6.out) (Nat.le_of_eq hwb)))
        have S6 := hid (show SpO sb x y p q ob z w6 from ⟨SpAt.old U6.out HS.out, C6.out.cell hb5 hobk.out, C6.out.cell hb6 hobk.out⟩)
        have HT26 := hid (HT25.out.chg C6.out (fun e => HD.out _ e (mem_blks.2 (.inl rfl))) (fun g hg e => HD.out _ e (mem_blks.2 (.inr hg))))
        have HD6 := hid (show ∀ g, g ∈ blks b1 v1' → g ∉ blks b2 v2 from fun g hg hg2 => by
          have q2 := (HT25.out.blk g hg2).2
          rcases mem_blks.1 hg with e | e
          · exact HD.out g (mem_blks.2 (.inl e)) hg2
          · rcases N6.out g e with r | r
            · exact HD.out g (mem_blks.2 (.inr r)) hg2
            · omega)
        have hl1' : L1'.length ≤ 1000000 := by have := HPS.out.2.1; have := HN1.out; omega
        have HA2 := hid (fun (W : World) (u : Old w6 W) => at_any b1 b1 64 v1' L1' key hkey W (T6.out.old u) HPS.out.1 hl1')
        have HO2 := hid (fun (W : World) (u : Old w6 W) => over_any b1 b1 64 v1' L1' x y hx hy p q W (T6.out.old u) HPS.out.1 hl1')
        have HA3 := hid (fun (W : World) (u : Old w6 W) => at_any b1 b1 64 v1' L1' z.k HW.out W (T6.out.old u) HPS.out.1 hl1')
        generalize hA2 : atL (Fl.code key) L1' = A2 at *
        generalize hB2 : overT (hasB x y p q) L1' L1'.length = B2 at *
        have hlA : ¬ A2 < A := by have := HAC.out; omega
        have hlB : ¬ B2 < B := by have := HOC.out; omega
        clear HD HT25 T5 C6 N6 B5 hb5 hb6 HP HT1 hobk U5 HAC HOC
        by_cases hez : ec = 0
        · have HC3 := hid (HOK.out hez)
          generalize atL (Fl.code z.k) L1' = C3 at *
          have hlC : ¬ C3 < z.n := by have := HC3.out; omega
          clear HOK
          subst hez
          refine wp_region_noPanic ?_
          refine wp_region_held_drew (S := SpO sb x y p q ob z) (by kernel_rfl) ?_ (fun hHeld => ?_)
          · exact SpO.old ((Old.refl _).drew) S6.out
          (try simp only [Act.put]); (try simp only [List.setIfInBounds_toArray]); (try simp only [List.set_cons_succ]); (try simp only [List.set_cons_zero])
          clear hHeld
          refine wpAnyH_take (i := 0) (oi := { dst := some 51, op := Op.move (Operand.tmp 7), type := 26, pos := "law.go:107", after := #[], guard := none }) (v := ?vk73) rfl (by kernel_rfl) (by kernel_rfl) (by kernel_rfl) (fun _ _ _ h => h) (Or.inl ⟨by rfl, ?hk73⟩) (SpO.old ((Old.refl w6).drew) S6.out) ?rk73
          case hk73 => (intro wz hSw; (try dsimp only at hSw); go_simp; try with_reducible rfl)
          (try simp only [Act.put]); (try simp only [List.setIfInBounds_toArray]); (try simp only [List.set_cons_succ]); (try simp only [List.set_cons_zero])
          refine wpAnyH_take (i := 1) (oi := { dst := some 52, op := Op.move (Operand.tmp 1), type := 23, pos := "law.go:107", after := #[], guard := none }) (v := ?vk74) rfl (by kernel_rfl) (by kernel_rfl) (by kernel_rfl) (fun _ _ _ h => h) (Or.inl ⟨by rfl, ?hk74⟩) (SpO.old ((Old.refl w6).drew) S6.out) ?rk74
          case hk74 => (intro wz hSw; (try dsimp only at hSw); go_simp; try with_reducible rfl)
          (try simp only [Act.put]); (try simp only [List.setIfInBounds_toArray]); (try simp only [List.set_cons_succ]); (try simp only [List.set_cons_zero])
          refine wpAnyH_take (i := 3) (oi := { dst := some 54, op := Op.move (Operand.tmp 11), type := 2, pos := "law.go:107", after := #[], guard := none }) (v := ?vk75) rfl (by kernel_rfl) (by kernel_rfl) (by kernel_rfl) (fun _ _ _ h => h) (Or.inl ⟨by rfl, ?hk75⟩) (SpO.old ((Old.refl w6).drew) S6.out) ?rk75
          case hk75 => (intro wz hSw; (try dsimp only at hSw); go_simp; try with_reducible rfl)
          (try simp only [Act.put]); (try simp only [List.setIfInBounds_toArray]); (try simp only [List.set_cons_succ]); (try simp only [List.set_cons_zero])
          refine wpAnyH_ready (rs := [2]) (by kernel_rfl) (by simp) ?_
          refine AllReadyH.cons (o := { dst := some 53, op := Op.call { callee := Callee.value (Operand.func 14), args := #[Operand.tmp 51, Operand.tmp 52], argTypes := #[26, 23] }, type := 2, pos := "law.go:107", after := #[{ on := 0, ground := Ground.data }, { on := 1, ground := Ground.data }], guard := none }) rfl (fun K hK => ?_) AllReadyH.nil
          refine wantCall2 ?_ 14 (.tmp 51) (.tmp 52) #[26, 23] ?_ (.pointer (some ⟨b1, 0, none⟩)) (.float .f64 key) ?_ ?_ ?_ (ent_at _ _) ?_
          · rfl
          · rfl
          · rfl
          · rfl
          · rfl
          refine (HA2.out _ ((Old.refl w6).drew)).mono ?_
          rintro o x76 ⟨rfl, b76⟩
          refine ⟨_, rfl, ?_⟩
          have U76 := ((Old.refl w6).drew).trans b76
          refine hK.out _ _ (SpO.old U76 S6.out) (fun _ => ?_)
          clear hK K
          (try simp only [Act.put]); (try simp only [List.setIfInBounds_toArray]); (try simp only [List.set_cons_succ]); (try simp only [List.set_cons_zero])
          refine wpAnyH_take (i := 4) (oi := { dst := some 55, op := Op.binOp BinOp.lss 2 (Operand.tmp 53) (Operand.tmp 54) 2, type := 4, pos := "law.go:107", after := #[{ on := 2, ground := Ground.data }, { on := 3, ground := Ground.data }], guard := none }) (v := ?vk77) rfl (by kernel_rfl) (by kernel_rfl) (by kernel_rfl) (fun _ _ _ h => h) (Or.inl ⟨by rfl, ?hk77⟩) (SpO.old U76 S6.out) ?rk77
          case hk77 => (intro wz hSw; (try dsimp only at hSw); go_simp; try with_reducible rfl)
          (try simp only [Act.put]); (try simp only [List.setIfInBounds_toArray]); (try simp only [List.set_cons_succ]); (try simp only [List.set_cons_zero])
          refine wpAnyH_take (i := 5) (oi := { dst := some 56, op := Op.move (Operand.tmp 55), type := 4, pos := "law.go:107", after := #[{ on := 4, ground := Ground.data }, { on := 2, ground := Ground.chain }], guard := none }) (v := ?vk78) rfl (by kernel_rfl) (by kernel_rfl) (by kernel_rfl) (fun _ _ _ h => h) (Or.inl ⟨by rfl, ?hk78⟩) (SpO.old U76 S6.out) ?rk78
          case hk78 => (intro wz hSw; (try dsimp only at hSw); go_simp; try with_reducible rfl)
          (try simp only [Act.put]); (try simp only [List.setIfInBounds_toArray]); (try simp only [List.set_cons_succ]); (try simp only [List.set_cons_zero])
          refine wpAnyH_take (i := 6) (oi := { dst := some 57, op := Op.move (Operand.tmp 7), type := 26, pos := "law.go:107", after := #[{ on := 5, ground := Ground.guard }], guard := some (5, false) }) (v := ?vk79) rfl (by kernel_rfl) (by kernel_rfl) (by kernel_rfl) (fun _ _ _ h => h) (Or.inl ⟨by rfl, ?hk79⟩) (SpO.old U76 S6.out) ?rk79
          case hk79 => (intro wz hSw; (try dsimp only at hSw); go_simp; try with_reducible rfl)
          (try simp only [Act.put]); (try simp only [List.setIfInBounds_toArray]); (try simp only [List.set_cons_succ]); (try simp only [List.set_cons_zero])
          refine wpAnyH_take (i := 7) (oi := { dst := some 58, op := Op.load 25 (Operand.tmp 5), type := 25, pos := "law.go:107", after := #[{ on := 5, ground := Ground.guard }], guard := some (5, false) }) (v := ?vk80) rfl (by kernel_rfl) (by kernel_rfl) (by kernel_rfl) (fun _ _ _ h => h) (Or.inl ⟨by rfl, ?hk80⟩) (SpO.old U76 S6.out) ?rk80
          case hk80 => (intro wz hSw; (try dsimp only at hSw); go_simp; try with_reducible rfl)
          (try simp only [Act.put]); (try simp only [List.setIfInBounds_toArray]); (try simp only [List.set_cons_succ]); (try simp only [List.set_cons_zero])
          refine wpAnyH_take (i := 9) (oi := { dst := some 60, op := Op.move (Operand.tmp 12), type := 2, pos := "law.go:107", after := #[{ on := 5, ground := Ground.guard }], guard := some (5, false) }) (v := ?vk81) rfl (by kernel_rfl) (by kernel_rfl) (by kernel_rfl) (fun _ _ _ h => h) (Or.inl ⟨by rfl, ?hk81⟩) (SpO.old U76 S6.out) ?rk81
          case hk81 => (intro wz hSw; (try dsimp only at hSw); go_simp; try with_reducible rfl)
          (try simp only [Act.put]); (try simp only [List.setIfInBounds_toArray]); (try simp only [List.set_cons_succ]); (try simp only [List.set_cons_zero])
          refine wpAnyH_ready (rs := [8]) (by kernel_rfl) (by simp) ?_
          refine AllReadyH.cons (o := { dst := some 59, op := Op.call { callee := Callee.value (Operand.func 20), args := #[Operand.tmp 57, Operand.tmp 58], argTypes := #[26, 25] }, type := 2, pos := "law.go:107", after := #[{ on := 6, ground := Ground.data }, { on := 7, ground := Ground.data }, { on := 5, ground := Ground.chain }, { on := 5, ground := Ground.guard }], guard := some (5, false) }) rfl (fun K hK => ?_) AllReadyH.nil
          refine wantCall2 ?_ 20 (.tmp 57) (.tmp 58) #[26, 25] ?_ (.pointer (some ⟨b1, 0, none⟩)) (.agg #[.float .f64 x, .float .f64 y, .bool p, .bool q]) ?_ ?_ ?_ (ent_over _ _) ?_
          · rfl
          · rfl
          · rfl
          · rfl
          · rfl
          refine (HO2.out _ U76).mono ?_
          rintro o x82 ⟨rfl, b82⟩
          refine ⟨_, rfl, ?_⟩
          have U82 := U76.trans b82
          refine hK.out _ _ (SpO.old U82 S6.out) (fun _ => ?_)
          clear hK K
          (try simp only [Act.put]); (try simp only [List.setIfInBounds_toArray]); (try simp only [List.set_cons_succ]); (try simp only [List.set_cons_zero])
          refine wpAnyH_take (i := 10) (oi := { dst := some 61, op := Op.binOp BinOp.lss 2 (Operand.tmp 59) (Operand.tmp 60) 2, type := 4, pos := "law.go:107", after := #[{ on := 8, ground := Ground.data }, { on := 9, ground := Ground.data }, { on := 5, ground := Ground.guard }], guard := some (5, false) }) (v := ?vk83) rfl (by kernel_rfl) (by kernel_rfl) (by kernel_rfl) (fun _ _ _ h => h) (Or.inl ⟨by rfl, ?hk83⟩) (SpO.old U82 S6.out) ?rk83
          case hk83 => (intro wz hSw; (try dsimp only at hSw); go_simp; try with_reducible rfl)
          (try simp only [Act.put]); (try simp only [List.setIfInBounds_toArray]); (try simp only [List.set_cons_succ]); (try simp only [List.set_cons_zero])
          refine wpAnyH_take (i := 11) (oi := { dst := some 62, op := Op.pick (Operand.tmp 56) (Operand.const (Value.bool true)) (Operand.tmp 61), type := 4, pos := "law.go:107", after := #[{ on := 5, ground := Ground.data }, { on := 10, ground := Ground.data }], guard := none }) (v := ?vk84) rfl (by kernel_rfl) (by kernel_rfl) (by kernel_rfl) (fun _ _ _ h => h) (Or.inl ⟨by rfl, ?hk84⟩) (SpO.old U82 S6.out) ?rk84
          case hk84 => (intro wz hSw; (try dsimp only at hSw); go_simp; try with_reducible rfl)
          (try simp only [Act.put]); (try simp only [List.setIfInBounds_toArray]); (try simp only [List.set_cons_succ]); (try simp only [List.set_cons_zero])
          refine wpAnyH_take (i := 12) (oi := { dst := some 63, op := Op.move (Operand.tmp 62), type := 4, pos := "law.go:107", after := #[{ on := 11, ground := Ground.data }, { on := 8, ground := Ground.chain }], guard := none }) (v := ?vk85) rfl (by kernel_rfl) (by kernel_rfl) (by kernel_rfl) (fun _ _ _ h => h) (Or.inl ⟨by rfl, ?hk85⟩) (SpO.old U82 S6.out) ?rk85
          case hk85 => (intro wz hSw; (try dsimp only at hSw); go_simp; try with_reducible rfl)
          (try simp only [Act.put]); (try simp only [List.setIfInBounds_toArray]); (try simp only [List.set_cons_succ]); (try simp only [List.set_cons_zero])
          refine wpAnyH_take (i := 13) (oi := { dst := some 64, op := Op.move (Operand.tmp 13), type := 35, pos := "law.go:107", after := #[{ on := 12, ground := Ground.guard }], guard := some (12, false) }) (v := ?vk86) rfl (by kernel_rfl) (by kernel_rfl) (by kernel_rfl) (fun _ _ _ h => h) (Or.inl ⟨by rfl, ?hk86⟩) (SpO.old U82 S6.out) ?rk86
          case hk86 => (intro wz hSw; (try dsimp only at hSw); go_simp; try with_reducible rfl)
          (try simp only [Act.put]); (try simp only [List.setIfInBounds_toArray]); (try simp only [List.set_cons_succ]); (try simp only [List.set_cons_zero])
          refine wpAnyH_take (i := 14) (oi := { dst := some 65, op := Op.binOp BinOp.eql 35 (Operand.tmp 64) (Operand.const (Value.int IntKind.i64 0)) 35, type := 4, pos := "law.go:107", after := #[{ on := 13, ground := Ground.data }, { on := 12, ground := Ground.guard }], guard := some (12, false) }) (v := ?vk87) rfl (by kernel_rfl) (by kernel_rfl) (by kernel_rfl) (fun _ _ _ h => h) (Or.inl ⟨by rfl, ?hk87⟩) (SpO.old U82 S6.out) ?rk87
          case hk87 => (intro wz hSw; (try dsimp only at hSw); go_simp; try with_reducible rfl)
          (try simp only [Act.put]); (try simp only [List.setIfInBounds_toArray]); (try simp only [List.set_cons_succ]); (try simp only [List.set_cons_zero])
          refine wpAnyH_take (i := 15) (oi := { dst := some 66, op := Op.move (Operand.tmp 65), type := 4, pos := "law.go:107", after := #[{ on := 14, ground := Ground.data }, { on := 12, ground := Ground.chain }, { on := 12, ground := Ground.guard }], guard := some (12, false) }) (v := ?vk88) rfl (by kernel_rfl) (by kernel_rfl) (by kernel_rfl) (fun _ _ _ h => h) (Or.inl ⟨by rfl, ?hk88⟩) (SpO.old U82 S6.out) ?rk88
          case hk88 => (intro wz hSw; (try dsimp only at hSw); go_simp; try with_reducible rfl)
          (try simp only [Act.put]); (try simp only [List.setIfInBounds_toArray]); (try simp only [List.set_cons_succ]); (try simp only [List.set_cons_zero])
          refine wpAnyH_take (i := 16) (oi := { dst := some 67, op := Op.move (Operand.tmp 7), type := 26, pos := "law.go:107", after := #[{ on := 15, ground := Ground.guard }], guard := some (15, true) }) (v := ?vk89) rfl (by kernel_rfl) (by kernel_rfl) (by kernel_rfl) (fun _ _ _ h => h) (Or.inl ⟨by rfl, ?hk89⟩) (SpO.old U82 S6.out) ?rk89
          case hk89 => (intro wz hSw; (try dsimp only at hSw); go_simp; try with_reducible rfl)
          (try simp only [Act.put]); (try simp only [List.setIfInBounds_toArray]); (try simp only [List.set_cons_succ]); (try simp only [List.set_cons_zero])
          refine wpAnyH_take (i := 17) (oi := { dst := some 68, op := Op.fieldAddr 34 (Operand.tmp 10) 1, type := 0, pos := "law.go:107", after := #[{ on := 15, ground := Ground.guard }], guard := some (15, true) }) (v := ?vk90) rfl (by kernel_rfl) (by kernel_rfl) (by kernel_rfl) (fun _ _ _ h => h) (Or.inl ⟨by rfl, ?hk90⟩) (SpO.old U82 S6.out) ?rk90
          case hk90 => (intro wz hSw; (try dsimp only at hSw); go_simp; try with_reducible rfl)
          (try simp only [Act.put]); (try simp only [List.setIfInBounds_toArray]); (try simp only [List.set_cons_succ]); (try simp only [List.set_cons_zero])
          refine wpAnyH_take (i := 18) (oi := { dst := some 69, op := Op.load 23 (Operand.tmp 68), type := 23, pos := "law.go:107", after := #[{ on := 17, ground := Ground.data }, { on := 15, ground := Ground.guard }], guard := some (15, true) }) (v := ?vk91) rfl (by kernel_rfl) (by kernel_rfl) (by kernel_rfl) (fun _ _ _ h => h) (Or.inl ⟨by rfl, ?hk91⟩) (SpO.old U82 S6.out) ?rk91
          case hk91 => (intro wz hSw; (try dsimp only at hSw); go_simp; try with_reducible rfl)
          (try simp only [Act.put]); (try simp only [List.setIfInBounds_toArray]); (try simp only [List.set_cons_succ]); (try simp only [List.set_cons_zero])
          refine wpAnyH_take (i := 20) (oi := { dst := some 71, op := Op.fieldAddr 34 (Operand.tmp 10) 2, type := 0, pos := "law.go:107", after := #[{ on := 15, ground := Ground.guard }], guard := some (15, true) }) (v := ?vk92) rfl (by kernel_rfl) (by kernel_rfl) (by kernel_rfl) (fun _ _ _ h => h) (Or.inl ⟨by rfl, ?hk92⟩) (SpO.old U82 S6.out) ?rk92
          case hk92 => (intro wz hSw; (try dsimp only at hSw); go_simp; try with_reducible rfl)
          (try simp only [Act.put]); (try simp only [List.setIfInBounds_toArray]); (try simp only [List.set_cons_succ]); (try simp only [List.set_cons_zero])
          refine wpAnyH_take (i := 21) (oi := { dst := some 72, op := Op.load 2 (Operand.tmp 71), type := 2, pos := "law.go:107", after := #[{ on := 20, ground := Ground.data }, { on := 15, ground := Ground.guard }], guard := some (15, true) }) (v := ?vk93) rfl (by kernel_rfl) (by kernel_rfl) (by kernel_rfl) (fun _ _ _ h => h) (Or.inl ⟨by rfl, ?hk93⟩) (SpO.old U82 S6.out) ?rk93
          case hk93 => (intro wz hSw; (try dsimp only at hSw); go_simp; try with_reducible rfl)
          (try simp only [Act.put]); (try simp only [List.setIfInBounds_toArray]); (try simp only [List.set_cons_succ]); (try simp only [List.set_cons_zero])
          refine wpAnyH_ready (rs := [19]) (by kernel_rfl) (by simp) ?_
          refine AllReadyH.cons (o := { dst := some 70, op := Op.call { callee := Callee.value (Operand.func 14), args := #[Operand.tmp 67, Operand.tmp 69], argTypes := #[26, 23] }, type := 2, pos := "law.go:107", after := #[{ on := 16, ground := Ground.data }, { on := 18, ground := Ground.data }, { on := 15, ground := Ground.chain }, { on := 15, ground := Ground.guard }], guard := some (15, true) }) rfl (fun K hK => ?_) AllReadyH.nil
          refine wantCall2 ?_ 14 (.tmp 67) (.tmp 69) #[26, 23] ?_ (.pointer (some ⟨b1, 0, none⟩)) (.float .f64 z.k) ?_ ?_ ?_ (ent_at _ _) ?_
          · rfl
          · rfl
          · rfl
          · rfl
          · rfl
          refine (HA3.out _ U82).mono ?_
          rintro o x94 ⟨rfl, b94⟩
          refine ⟨_, rfl, ?_⟩
          have U94 := U82.trans b94
          refine hK.out _ _ (SpO.old U94 S6.out) (fun _ => ?_)
          clear hK K
          (try simp only [Act.put]); (try simp only [List.setIfInBounds_toArray]); (try simp only [List.set_cons_succ]); (try simp only [List.set_cons_zero])
          refine wpAnyH_take (i := 22) (oi := { dst := some 73, op := Op.binOp BinOp.lss 2 (Operand.tmp 70) (Operand.tmp 72) 2, type := 4, pos := "law.go:107", after := #[{ on := 19, ground := Ground.data }, { on := 21, ground := Ground.data }, { on := 15, ground := Ground.guard }], guard := some (15, true) }) (v := ?vk95) rfl (by kernel_rfl) (by kernel_rfl) (by kernel_rfl) (fun _ _ _ h => h) (Or.inl ⟨by rfl, ?hk95⟩) (SpO.old U94 S6.out) ?rk95
          case hk95 => (intro wz hSw; (try dsimp only at hSw); go_simp; try with_reducible rfl)
          (try simp only [Act.put]); (try simp only [List.setIfInBounds_toArray]); (try simp only [List.set_cons_succ]); (try simp only [List.set_cons_zero])
          refine wpAnyH_take (i := 23) (oi := { dst := some 74, op := Op.pick (Operand.tmp 66) (Operand.tmp 73) (Operand.const (Value.bool false)), type := 4, pos := "law.go:107", after := #[{ on := 15, ground := Ground.data }, { on := 22, ground := Ground.data }, { on := 12, ground := Ground.guard }], guard := some (12, false) }) (v := ?vk96) rfl (by kernel_rfl) (by kernel_rfl) (by kernel_rfl) (fun _ _ _ h => h) (Or.inl ⟨by rfl, ?hk96⟩) (SpO.old U94 S6.out) ?rk96
          case hk96 => (intro wz hSw; (try dsimp only at hSw); go_simp; try with_reducible rfl)
          (try simp only [Act.put]); (try simp only [List.setIfInBounds_toArray]); (try simp only [List.set_cons_succ]); (try simp only [List.set_cons_zero])
          refine wpAnyH_take (i := 24) (oi := { dst := some 75, op := Op.pick (Operand.tmp 63) (Operand.const (Value.bool true)) (Operand.tmp 74), type := 4, pos := "law.go:107", after := #[{ on := 12, ground := Ground.data }, { on := 23, ground := Ground.data }], guard := none }) (v := ?vk97) rfl (by kernel_rfl) (by kernel_rfl) (by kernel_rfl) (fun _ _ _ h => h) (Or.inl ⟨by rfl, ?hk97⟩) (SpO.old U94 S6.out) ?rk97
          case hk97 => (intro wz hSw; (try dsimp only at hSw); go_simp; try with_reducible rfl)
          (try simp only [Act.put]); (try simp only [List.setIfInBounds_toArray]); (try simp only [List.set_cons_succ]); (try simp only [List.set_cons_zero])
          refine wpAnyH_done (by kernel_rfl) ?_ _
          refine NoPanic.normal ?_
          have U9 := hid U94
          have T7 := hid (T6.out.old U9.out)
          have HT27 := hid (HT26.out.old U9.out)
          have U7 := hid (U6.out.trans U9.out)
          clear HA2 HO2 S6 T6 HT26
          generalize x94 = w7 at *
          obtain ⟨d, hd⟩ : ∃ d : Nat, d + k + 1 = 60 := ⟨60 - 1 - k, by omega⟩
          have hdI : (60 : Int) - 1 - (k : Int) = (d : Int) := by omega
          have HDK := hid hd
          have hd3 : (59 : Int) - (k : Int) = (d : Int) := by omega
          obtain ⟨_, a9, c9, e9, _, hc9⟩ := HO.out.old U7.out
          obtain ⟨b9, off9, hsa9, hW9, p0, p1, p2⟩ := hc9 d (by omega)
          simp only [Value.slice.injEq] at e9
          obtain ⟨e91, _, rfl⟩ := e9
          rw [← e91] at hsa9
          simp only [Option.some.injEq, Addr.mk.injEq] at hsa9
          obtain ⟨rfl, rfl, _⟩ := hsa9
          have l3 : (0 : Int) ≤ (d : Int) := by omega
          have l4 : (d : Int) < (60 : Int) := by omega
          have l5 : d < 60 := by omega
          clear hc9 hd e91
          have HPB := hid (put_step f d hW9 (fun i => (i < 60 ∧ 60 < i + k + 1) ∧ okO (f i)) (fun i => (i < 60 ∧ 60 < i + (k + 1) + 1) ∧ okO (f i)) (fun i => by
            have hd := HDK.out
            constructor
            · rintro ⟨⟨a, b⟩, c⟩
              by_cases e : i = d
              · subst e; exact .inr ⟨rfl, c⟩
              · exact .inl ⟨⟨a, by omega⟩, c⟩
            · rintro (⟨⟨a, b⟩, c⟩ | ⟨rfl, c⟩)
              · exact ⟨⟨a, by omega⟩, c⟩
              · exact ⟨⟨by omega, by omega⟩, c⟩) L2 HG2.out (by have := HN2.out; omega) HH2.out)
          have HW9 := hid hW9
          clear hW9
          generalize hfd : f d = y9 at *
          go_upto_region 14 with fail
          have B8 := hid (op_new w7 y9 _ rfl)
          have U8 := hid ((Old.refl w7).alloc (.cells #[.int .i64 y9.kd, .float .f64 y9.k, .int .i64 y9.n] 34))
          have T8 := hid (T7.out.old U8.out)
          have T28 := hid (HT27.out.old U8.out)
          clear p0 p1 p2
          generalize w7.alloc (.cells #[.int .i64 y9.kd, .float .f64 y9.k, .int .i64 y9.n] 34) = w8 at *
          obtain ⟨p0, p1, p2⟩ := B8.out
          have HP2 := hid (put_any b1 b2 64 y9.n v2 L2 y9.k HW9.out w8 T28.out HG2.out (by have := HN2.out; omega))
          go_wp2_with (go_at_call 12; refine HP2.out.mono ?_; rintro e w9 ⟨v2', rfl, t9, c9, n9⟩; have T9 := hid t9; have C9 := hid c9; have N9 := hid n9; clear t9 c9 n9)
          go_roundw
          case rel =>
            refine ⟨k + 1, hlt, by go_num, v1', L1', v2', _, ⟨T8.out.chg C9.out (fun e => HD6.out _ (mem_blks.2 (.inl rfl)) e) (fun g hg e => HD6.out _ (mem_blks.2 (.inr hg)) e), HPS.out.1, by have := HPS.out.2.1; have := HN1.out; omega, HPS.out.2.2.1⟩, ⟨T9.out, HPB.out.1, by have := HPB.out.2.1; have := HN2.out; omega, HPB.out.2.2.1⟩, fun g hg hg2 => ?_, (U7.out.trans U8.out).below (Below.mono (T28.out.below C9.out) (Nat.le_of_eq hwb))⟩
            have q1 := (T8.out.blk g hg).2
            rcases mem_blks.1 hg2 with e | e
            · exact HD6.out g hg (mem_blks.2 (.inl e))
            · rcases N9.out g e with r | r
              · exact HD6.out g hg (mem_blks.2 (.inr r))
              · omega
          case measure => simp [intOf]; omega
        · have hez2 : (ec == 0) = false := by rw [beq_eq_false_iff_ne]; exact hez
          clear HOK HA3
          refine wp_region_noPanic ?_
          refine wp_region_held_drew (S := SpO sb x y p q ob z) (by kernel_rfl) ?_ (fun hHeld => ?_)
          · exact SpO.old ((Old.refl _).drew) S6.out
          (try simp only [Act.put]); (try simp only [List.setIfInBounds_toArray]); (try simp only [List.set_cons_succ]); (try simp only [List.set_cons_zero])
          clear hHeld
          refine wpAnyH_take (i := 0) (oi := { dst := some 51, op := Op.move (Operand.tmp 7), type := 26, pos := "law.go:107", after := #[], guard := none }) (v := ?vk98) rfl (by kernel_rfl) (by kernel_rfl) (by kernel_rfl) (fun _ _ _ h => h) (Or.inl ⟨by rfl, ?hk98⟩) (SpO.old ((Old.refl w6).drew) S6.out) ?rk98
          case hk98 => (intro wz hSw; (try dsimp only at hSw); go_simp; try with_reducible rfl)
          (try simp only [Act.put]); (try simp only [List.setIfInBounds_toArray]); (try simp only [List.set_cons_succ]); (try simp only [List.set_cons_zero])
          refine wpAnyH_take (i := 1) (oi := { dst := some 52, op := Op.move (Operand.tmp 1), type := 23, pos := "law.go:107", after := #[], guard := none }) (v := ?vk99) rfl (by kernel_rfl) (by kernel_rfl) (by kernel_rfl) (fun _ _ _ h => h) (Or.inl ⟨by rfl, ?hk99⟩) (SpO.old ((Old.refl w6).drew) S6.out) ?rk99
          case hk99 => (intro wz hSw; (try dsimp only at hSw); go_simp; try with_reducible rfl)
          (try simp only [Act.put]); (try simp only [List.setIfInBounds_toArray]); (try simp only [List.set_cons_succ]); (try simp only [List.set_cons_zero])
          refine wpAnyH_take (i := 3) (oi := { dst := some 54, op := Op.move (Operand.tmp 11), type := 2, pos := "law.go:107", after := #[], guard := none }) (v := ?vk100) rfl (by kernel_rfl) (by kernel_rfl) (by kernel_rfl) (fun _ _ _ h => h) (Or.inl ⟨by rfl, ?hk100⟩) (SpO.old ((Old.refl w6).drew) S6.out) ?rk100
          case hk100 => (intro wz hSw; (try dsimp only at hSw); go_simp; try with_reducible rfl)
          (try simp only [Act.put]); (try simp only [List.setIfInBounds_toArray]); (try simp only [List.set_cons_succ]); (try simp only [List.set_cons_zero])
          refine wpAnyH_ready (rs := [2]) (by kernel_rfl) (by simp) ?_
          refine AllReadyH.cons (o := { dst := some 53, op := Op.call { callee := Callee.value (Operand.func 14), args := #[Operand.tmp 51, Operand.tmp 52], argTypes := #[26, 23] }, type := 2, pos := "law.go:107", after := #[{ on := 0, ground := Ground.data }, { on := 1, ground := Ground.data }], guard := none }) rfl (fun K hK => ?_) AllReadyH.nil
          refine wantCall2 ?_ 14 (.tmp 51) (.tmp 52) #[26, 23] ?_ (.pointer (some ⟨b1, 0, none⟩)) (.float .f64 key) ?_ ?_ ?_ (ent_at _ _) ?_
          · rfl
          · rfl
          · rfl
          · rfl
          · rfl
          refine (HA2.out _ ((Old.refl w6).drew)).mono ?_
          rintro o x101 ⟨rfl, b101⟩
          refine ⟨_, rfl, ?_⟩
          have U101 := ((Old.refl w6).drew).trans b101
          refine hK.out _ _ (SpO.old U101 S6.out) (fun _ => ?_)
          clear hK K
          (try simp only [Act.put]); (try simp only [List.setIfInBounds_toArray]); (try simp only [List.set_cons_succ]); (try simp only [List.set_cons_zero])
          refine wpAnyH_take (i := 4) (oi := { dst := some 55, op := Op.binOp BinOp.lss 2 (Operand.tmp 53) (Operand.tmp 54) 2, type := 4, pos := "law.go:107", after := #[{ on := 2, ground := Ground.data }, { on := 3, ground := Ground.data }], guard := none }) (v := ?vk102) rfl (by kernel_rfl) (by kernel_rfl) (by kernel_rfl) (fun _ _ _ h => h) (Or.inl ⟨by rfl, ?hk102⟩) (SpO.old U101 S6.out) ?rk102
          case hk102 => (intro wz hSw; (try dsimp only at hSw); go_simp; try with_reducible rfl)
          (try simp only [Act.put]); (try simp only [List.setIfInBounds_toArray]); (try simp only [List.set_cons_succ]); (try simp only [List.set_cons_zero])
          refine wpAnyH_take (i := 5) (oi := { dst := some 56, op := Op.move (Operand.tmp 55), type := 4, pos := "law.go:107", after := #[{ on := 4, ground := Ground.data }, { on := 2, ground := Ground.chain }], guard := none }) (v := ?vk103) rfl (by kernel_rfl) (by kernel_rfl) (by kernel_rfl) (fun _ _ _ h => h) (Or.inl ⟨by rfl, ?hk103⟩) (SpO.old U101 S6.out) ?rk103
          case hk103 => (intro wz hSw; (try dsimp only at hSw); go_simp; try with_reducible rfl)
          (try simp only [Act.put]); (try simp only [List.setIfInBounds_toArray]); (try simp only [List.set_cons_succ]); (try simp only [List.set_cons_zero])
          refine wpAnyH_take (i := 6) (oi := { dst := some 57, op := Op.move (Operand.tmp 7), type := 26, pos := "law.go:107", after := #[{ on := 5, ground := Ground.guard }], guard := some (5, false) }) (v := ?vk104) rfl (by kernel_rfl) (by kernel_rfl) (by kernel_rfl) (fun _ _ _ h => h) (Or.inl ⟨by rfl, ?hk104⟩) (SpO.old U101 S6.out) ?rk104
          case hk104 => (intro wz hSw; (try dsimp only at hSw); go_simp; try with_reducible rfl)
          (try simp only [Act.put]); (try simp only [List.setIfInBounds_toArray]); (try simp only [List.set_cons_succ]); (try simp only [List.set_cons_zero])
          refine wpAnyH_take (i := 7) (oi := { dst := some 58, op := Op.load 25 (Operand.tmp 5), type := 25, pos := "law.go:107", after := #[{ on := 5, ground := Ground.guard }], guard := some (5, false) }) (v := ?vk105) rfl (by kernel_rfl) (by kernel_rfl) (by kernel_rfl) (fun _ _ _ h => h) (Or.inl ⟨by rfl, ?hk105⟩) (SpO.old U101 S6.out) ?rk105
          case hk105 => (intro wz hSw; (try dsimp only at hSw); go_simp; try with_reducible rfl)
          (try simp only [Act.put]); (try simp only [List.setIfInBounds_toArray]); (try simp only [List.set_cons_succ]); (try simp only [List.set_cons_zero])
          refine wpAnyH_take (i := 9) (oi := { dst := some 60, op := Op.move (Operand.tmp 12), type := 2, pos := "law.go:107", after := #[{ on := 5, ground := Ground.guard }], guard := some (5, false) }) (v := ?vk106) rfl (by kernel_rfl) (by kernel_rfl) (by kernel_rfl) (fun _ _ _ h => h) (Or.inl ⟨by rfl, ?hk106⟩) (SpO.old U101 S6.out) ?rk106
          case hk106 => (intro wz hSw; (try dsimp only at hSw); go_simp; try with_reducible rfl)
          (try simp only [Act.put]); (try simp only [List.setIfInBounds_toArray]); (try simp only [List.set_cons_succ]); (try simp only [List.set_cons_zero])
          refine wpAnyH_ready (rs := [8]) (by kernel_rfl) (by simp) ?_
          refine AllReadyH.cons (o := { dst := some 59, op := Op.call { callee := Callee.value (Operand.func 20), args := #[Operand.tmp 57, Operand.tmp 58], argTypes := #[26, 25] }, type := 2, pos := "law.go:107", after := #[{ on := 6, ground := Ground.data }, { on := 7, ground := Ground.data }, { on := 5, ground := Ground.chain }, { on := 5, ground := Ground.guard }], guard := some (5, false) }) rfl (fun K hK => ?_) AllReadyH.nil
          refine wantCall2 ?_ 20 (.tmp 57) (.tmp 58) #[26, 25] ?_ (.pointer (some ⟨b1, 0, none⟩)) (.agg #[.float .f64 x, .float .f64 y, .bool p, .bool q]) ?_ ?_ ?_ (ent_over _ _) ?_
          · rfl
          · rfl
          · rfl
          · rfl
          · rfl
          refine (HO2.out _ U101).mono ?_
          rintro o x107 ⟨rfl, b107⟩
          refine ⟨_, rfl, ?_⟩
          have U107 := U101.trans b107
          refine hK.out _ _ (SpO.old U107 S6.out) (fun _ => ?_)
          clear hK K
          (try simp only [Act.put]); (try simp only [List.setIfInBounds_toArray]); (try simp only [List.set_cons_succ]); (try simp only [List.set_cons_zero])
          refine wpAnyH_take (i := 10) (oi := { dst := some 61, op := Op.binOp BinOp.lss 2 (Operand.tmp 59) (Operand.tmp 60) 2, type := 4, pos := "law.go:107", after := #[{ on := 8, ground := Ground.data }, { on := 9, ground := Ground.data }, { on := 5, ground := Ground.guard }], guard := some (5, false) }) (v := ?vk108) rfl (by kernel_rfl) (by kernel_rfl) (by kernel_rfl) (fun _ _ _ h => h) (Or.inl ⟨by rfl, ?hk108⟩) (SpO.old U107 S6.out) ?rk108
          case hk108 => (intro wz hSw; (try dsimp only at hSw); go_simp; try with_reducible rfl)
          (try simp only [Act.put]); (try simp only [List.setIfInBounds_toArray]); (try simp only [List.set_cons_succ]); (try simp only [List.set_cons_zero])
          refine wpAnyH_take (i := 11) (oi := { dst := some 62, op := Op.pick (Operand.tmp 56) (Operand.const (Value.bool true)) (Operand.tmp 61), type := 4, pos := "law.go:107", after := #[{ on := 5, ground := Ground.data }, { on := 10, ground := Ground.data }], guard := none }) (v := ?vk109) rfl (by kernel_rfl) (by kernel_rfl) (by kernel_rfl) (fun _ _ _ h => h) (Or.inl ⟨by rfl, ?hk109⟩) (SpO.old U107 S6.out) ?rk109
          case hk109 => (intro wz hSw; (try dsimp only at hSw); go_simp; try with_reducible rfl)
          (try simp only [Act.put]); (try simp only [List.setIfInBounds_toArray]); (try simp only [List.set_cons_succ]); (try simp only [List.set_cons_zero])
          refine wpAnyH_take (i := 12) (oi := { dst := some 63, op := Op.move (Operand.tmp 62), type := 4, pos := "law.go:107", after := #[{ on := 11, ground := Ground.data }, { on := 8, ground := Ground.chain }], guard := none }) (v := ?vk110) rfl (by kernel_rfl) (by kernel_rfl) (by kernel_rfl) (fun _ _ _ h => h) (Or.inl ⟨by rfl, ?hk110⟩) (SpO.old U107 S6.out) ?rk110
          case hk110 => (intro wz hSw; (try dsimp only at hSw); go_simp; try with_reducible rfl)
          (try simp only [Act.put]); (try simp only [List.setIfInBounds_toArray]); (try simp only [List.set_cons_succ]); (try simp only [List.set_cons_zero])
          refine wpAnyH_take (i := 13) (oi := { dst := some 64, op := Op.move (Operand.tmp 13), type := 35, pos := "law.go:107", after := #[{ on := 12, ground := Ground.guard }], guard := some (12, false) }) (v := ?vk111) rfl (by kernel_rfl) (by kernel_rfl) (by kernel_rfl) (fun _ _ _ h => h) (Or.inl ⟨by rfl, ?hk111⟩) (SpO.old U107 S6.out) ?rk111
          case hk111 => (intro wz hSw; (try dsimp only at hSw); go_simp; try with_reducible rfl)
          (try simp only [Act.put]); (try simp only [List.setIfInBounds_toArray]); (try simp only [List.set_cons_succ]); (try simp only [List.set_cons_zero])
          refine wpAnyH_take (i := 14) (oi := { dst := some 65, op := Op.binOp BinOp.eql 35 (Operand.tmp 64) (Operand.const (Value.int IntKind.i64 0)) 35, type := 4, pos := "law.go:107", after := #[{ on := 13, ground := Ground.data }, { on := 12, ground := Ground.guard }], guard := some (12, false) }) (v := ?vk112) rfl (by kernel_rfl) (by kernel_rfl) (by kernel_rfl) (fun _ _ _ h => h) (Or.inl ⟨by rfl, ?hk112⟩) (SpO.old U107 S6.out) ?rk112
          case hk112 => (intro wz hSw; (try dsimp only at hSw); go_simp; try with_reducible rfl)
          (try simp only [Act.put]); (try simp only [List.setIfInBounds_toArray]); (try simp only [List.set_cons_succ]); (try simp only [List.set_cons_zero])
          refine wpAnyH_take (i := 15) (oi := { dst := some 66, op := Op.move (Operand.tmp 65), type := 4, pos := "law.go:107", after := #[{ on := 14, ground := Ground.data }, { on := 12, ground := Ground.chain }, { on := 12, ground := Ground.guard }], guard := some (12, false) }) (v := ?vk113) rfl (by kernel_rfl) (by kernel_rfl) (by kernel_rfl) (fun _ _ _ h => h) (Or.inl ⟨by rfl, ?hk113⟩) (SpO.old U107 S6.out) ?rk113
          case hk113 => (intro wz hSw; (try dsimp only at hSw); go_simp; try with_reducible rfl)
          (try simp only [Act.put]); (try simp only [List.setIfInBounds_toArray]); (try simp only [List.set_cons_succ]); (try simp only [List.set_cons_zero])
          refine wpAnyH_take (i := 16) (oi := { dst := some 67, op := Op.move (Operand.tmp 7), type := 26, pos := "law.go:107", after := #[{ on := 15, ground := Ground.guard }], guard := some (15, true) }) (v := undef) rfl (by kernel_rfl) (by kernel_rfl) (by kernel_rfl) (fun _ _ _ h => h) (Or.inr ⟨by rfl, rfl⟩) (SpO.old U107 S6.out) ?_
          (try simp only [Act.put]); (try simp only [List.setIfInBounds_toArray]); (try simp only [List.set_cons_succ]); (try simp only [List.set_cons_zero])
          refine wpAnyH_take (i := 17) (oi := { dst := some 68, op := Op.fieldAddr 34 (Operand.tmp 10) 1, type := 0, pos := "law.go:107", after := #[{ on := 15, ground := Ground.guard }], guard := some (15, true) }) (v := undef) rfl (by kernel_rfl) (by kernel_rfl) (by kernel_rfl) (fun _ _ _ h => h) (Or.inr ⟨by rfl, rfl⟩) (SpO.old U107 S6.out) ?_
          (try simp only [Act.put]); (try simp only [List.setIfInBounds_toArray]); (try simp only [List.set_cons_succ]); (try simp only [List.set_cons_zero])
          refine wpAnyH_take (i := 18) (oi := { dst := some 69, op := Op.load 23 (Operand.tmp 68), type := 23, pos := "law.go:107", after := #[{ on := 17, ground := Ground.data }, { on := 15, ground := Ground.guard }], guard := some (15, true) }) (v := undef) rfl (by kernel_rfl) (by kernel_rfl) (by kernel_rfl) (fun _ _ _ h => h) (Or.inr ⟨by rfl, rfl⟩) (SpO.old U107 S6.out) ?_
          (try simp only [Act.put]); (try simp only [List.setIfInBounds_toArray]); (try simp only [List.set_cons_succ]); (try simp only [List.set_cons_zero])
          refine wpAnyH_take (i := 19) (oi := { dst := some 70, op := Op.call { callee := Callee.value (Operand.func 14), args := #[Operand.tmp 67, Operand.tmp 69], argTypes := #[26, 23] }, type := 2, pos := "law.go:107", after := #[{ on := 16, ground := Ground.data }, { on := 18, ground := Ground.data }, { on := 15, ground := Ground.chain }, { on := 15, ground := Ground.guard }], guard := some (15, true) }) (v := undef) rfl (by kernel_rfl) (by kernel_rfl) (by kernel_rfl) (fun _ _ _ h => h) (Or.inr ⟨by rfl, rfl⟩) (SpO.old U107 S6.out) ?_
          (try simp only [Act.put]); (try simp only [List.setIfInBounds_toArray]); (try simp only [List.set_cons_succ]); (try simp only [List.set_cons_zero])
          refine wpAnyH_take (i := 20) (oi := { dst := some 71, op := Op.fieldAddr 34 (Operand.tmp 10) 2, type := 0, pos := "law.go:107", after := #[{ on := 15, ground := Ground.guard }], guard := some (15, true) }) (v := undef) rfl (by kernel_rfl) (by kernel_rfl) (by kernel_rfl) (fun _ _ _ h => h) (Or.inr ⟨by rfl, rfl⟩) (SpO.old U107 S6.out) ?_
          (try simp only [Act.put]); (try simp only [List.setIfInBounds_toArray]); (try simp only [List.set_cons_succ]); (try simp only [List.set_cons_zero])
          refine wpAnyH_take (i := 21) (oi := { dst := some 72, op := Op.load 2 (Operand.tmp 71), type := 2, pos := "law.go:107", after := #[{ on := 20, ground := Ground.data }, { on := 15, ground := Ground.guard }], guard := some (15, true) }) (v := undef) rfl (by kernel_rfl) (by kernel_rfl) (by kernel_rfl) (fun _ _ _ h => h) (Or.inr ⟨by rfl, rfl⟩) (SpO.old U107 S6.out) ?_
          (try simp only [Act.put]); (try simp only [List.setIfInBounds_toArray]); (try simp only [List.set_cons_succ]); (try simp only [List.set_cons_zero])
          refine wpAnyH_take (i := 22) (oi := { dst := some 73, op := Op.binOp BinOp.lss 2 (Operand.tmp 70) (Operand.tmp 72) 2, type := 4, pos := "law.go:107", after := #[{ on := 19, ground := Ground.data }, { on := 21, ground := Ground.data }, { on := 15, ground := Ground.guard }], guard := some (15, true) }) (v := undef) rfl (by kernel_rfl) (by kernel_rfl) (by kernel_rfl) (fun _ _ _ h => h) (Or.inr ⟨by rfl, rfl⟩) (SpO.old U107 S6.out) ?_
          (try simp only [Act.put]); (try simp only [List.setIfInBounds_toArray]); (try simp only [List.set_cons_succ]); (try simp only [List.set_cons_zero])
          refine wpAnyH_take (i := 23) (oi := { dst := some 74, op := Op.pick (Operand.tmp 66) (Operand.tmp 73) (Operand.const (Value.bool false)), type := 4, pos := "law.go:107", after := #[{ on := 15, ground := Ground.data }, { on := 22, ground := Ground.data }, { on := 12, ground := Ground.guard }], guard := some (12, false) }) (v := ?vk114) rfl (by kernel_rfl) (by kernel_rfl) (by kernel_rfl) (fun _ _ _ h => h) (Or.inl ⟨by rfl, ?hk114⟩) (SpO.old U107 S6.out) ?rk114
          case hk114 => (intro wz hSw; (try dsimp only at hSw); go_simp; try with_reducible rfl)
          (try simp only [Act.put]); (try simp only [List.setIfInBounds_toArray]); (try simp only [List.set_cons_succ]); (try simp only [List.set_cons_zero])
          refine wpAnyH_take (i := 24) (oi := { dst := some 75, op := Op.pick (Operand.tmp 63) (Operand.const (Value.bool true)) (Operand.tmp 74), type := 4, pos := "law.go:107", after := #[{ on := 12, ground := Ground.data }, { on := 23, ground := Ground.data }], guard := none }) (v := ?vk115) rfl (by kernel_rfl) (by kernel_rfl) (by kernel_rfl) (fun _ _ _ h => h) (Or.inl ⟨by rfl, ?hk115⟩) (SpO.old U107 S6.out) ?rk115
          case hk115 => (intro wz hSw; (try dsimp only at hSw); go_simp; try with_reducible rfl)
          (try simp only [Act.put]); (try simp only [List.setIfInBounds_toArray]); (try simp only [List.set_cons_succ]); (try simp only [List.set_cons_zero])
          refine wpAnyH_done (by kernel_rfl) ?_ _
          refine NoPanic.normal ?_
          have U9 := hid U107
          have T7 := hid (T6.out.old U9.out)
          have HT27 := hid (HT26.out.old U9.out)
          have U7 := hid (U6.out.trans U9.out)
          clear HA2 HO2 S6 T6 HT26
          generalize x107 = w7 at *
          obtain ⟨d, hd⟩ : ∃ d : Nat, d + k + 1 = 60 := ⟨60 - 1 - k, by omega⟩
          have hdI : (60 : Int) - 1 - (k : Int) = (d : Int) := by omega
          have HDK := hid hd
          have hd3 : (59 : Int) - (k : Int) = (d : Int) := by omega
          obtain ⟨_, a9, c9, e9, _, hc9⟩ := HO.out.old U7.out
          obtain ⟨b9, off9, hsa9, hW9, p0, p1, p2⟩ := hc9 d (by omega)
          simp only [Value.slice.injEq] at e9
          obtain ⟨e91, _, rfl⟩ := e9
          rw [← e91] at hsa9
          simp only [Option.some.injEq, Addr.mk.injEq] at hsa9
          obtain ⟨rfl, rfl, _⟩ := hsa9
          have l3 : (0 : Int) ≤ (d : Int) := by omega
          have l4 : (d : Int) < (60 : Int) := by omega
          have l5 : d < 60 := by omega
          clear hc9 hd e91
          have HPB := hid (put_step f d hW9 (fun i => (i < 60 ∧ 60 < i + k + 1) ∧ okO (f i)) (fun i => (i < 60 ∧ 60 < i + (k + 1) + 1) ∧ okO (f i)) (fun i => by
            have hd := HDK.out
            constructor
            · rintro ⟨⟨a, b⟩, c⟩
              by_cases e : i = d
              · subst e; exact .inr ⟨rfl, c⟩
              · exact .inl ⟨⟨a, by omega⟩, c⟩
            · rintro (⟨⟨a, b⟩, c⟩ | ⟨rfl, c⟩)
              · exact ⟨⟨a, by omega⟩, c⟩
              · exact ⟨⟨by omega, by omega⟩, c⟩) L2 HG2.out (by have := HN2.out; omega) HH2.out)
          have HW9 := hid hW9
          clear hW9
          generalize hfd : f d = y9 at *
          go_upto_region 14 with fail
          have B8 := hid (op_new w7 y9 _ rfl)
          have U8 := hid ((Old.refl w7).alloc (.cells #[.int .i64 y9.kd, .float .f64 y9.k, .int .i64 y9.n] 34))
          have T8 := hid (T7.out.old U8.out)
          have T28 := hid (HT27.out.old U8.out)
          clear p0 p1 p2
          generalize w7.alloc (.cells #[.int .i64 y9.kd, .float .f64 y9.k, .int .i64 y9.n] 34) = w8 at *
          obtain ⟨p0, p1, p2⟩ := B8.out
          have HP2 := hid (put_any b1 b2 64 y9.n v2 L2 y9.k HW9.out w8 T28.out HG2.out (by have := HN2.out; omega))
          go_wp2_with (go_at_call 12; refine HP2.out.mono ?_; rintro e w9 ⟨v2', rfl, t9, c9, n9⟩; have T9 := hid t9; have C9 := hid c9; have N9 := hid n9; clear t9 c9 n9)
          go_roundw
          case rel =>
            refine ⟨k + 1, hlt, by go_num, v1', L1', v2', _, ⟨T8.out.chg C9.out (fun e => HD6.out _ (mem_blks.2 (.inl rfl)) e) (fun g hg e => HD6.out _ (mem_blks.2 (.inr hg)) e), HPS.out.1, by have := HPS.out.2.1; have := HN1.out; omega, HPS.out.2.2.1⟩, ⟨T9.out, HPB.out.1, by have := HPB.out.2.1; have := HN2.out; omega, HPB.out.2.2.1⟩, fun g hg hg2 => ?_, (U7.out.trans U8.out).below (Below.mono (T28.out.below C9.out) (Nat.le_of_eq hwb))⟩
            have q1 := (T8.out.blk g hg).2
            rcases mem_blks.1 hg2 with e | e
            · exact HD6.out g hg (mem_blks.2 (.inl e))
            · rcases N9.out g e with r | r
              · exact HD6.out g hg (mem_blks.2 (.inr r))
              · omega
          case measure => simp [intOf]; omega
      · obtain rfl : k = 60 := by omega
        have SW := hid (SpAt.old HU.out HS.out)
        have hLL : L1 = L2 := Two.same (w0 := w0) (w := w) (b0 := b1) (b1 := b1) (b2 := b2) (v1 := v1) (v2 := v2) (fun i hi => by obtain ⟨_, _, _, _, _, hc⟩ := HO.out; obtain ⟨_, _, _, q, _⟩ := hc i hi; exact q) HG1.out HG2.out HH1.out HH2.out
        subst hLL
        have hl1 : L1.length ≤ 1000000 := by have := HN1.out; omega
        have HA1 := hid (fun (W : World) (u : Old wr W) => at_any b1 b1 64 v1 L1 key hkey W (HT1.out.old u) HG1.out hl1)
        have HA2 := hid (fun (W : World) (u : Old wr W) => at_any b1 b2 64 v2 L1 key hkey W (HT2.out.old u) HG1.out hl1)
        have HO1 := hid (fun (W : World) (u : Old wr W) => over_any b1 b1 64 v1 L1 x y hx hy p q W (HT1.out.old u) HG1.out hl1)
        have HO2 := hid (fun (W : World) (u : Old wr W) => over_any b1 b2 64 v2 L1 x y hx hy p q W (HT2.out.old u) HG1.out hl1)
        have HL1 := hid (fun (W : World) (u : Old wr W) => (len_any b1 b1 64 v1 L1 W (HT1.out.old u)).mono fun e w' hh => (⟨hh.1, by rw [hh.2]; exact Old.refl _⟩ : _ ∧ Old W w'))
        have HL2 := hid (fun (W : World) (u : Old wr W) => (len_any b1 b2 64 v2 L1 W (HT2.out.old u)).mono fun e w' hh => (⟨hh.1, by rw [hh.2]; exact Old.refl _⟩ : _ ∧ Old W w'))
        generalize atL (Fl.code key) L1 = A at *
        generalize overT (hasB x y p q) L1 L1.length = B at *
        generalize L1.length = LL at *
        go_upto_region 16 with fail
        refine wp_region_noPanic ?_
        refine wp_region_held_drew (S := SpAt sb x y p q) (by kernel_rfl) ?_ (fun hHeld => ?_)
        · exact SpAt.old ((Old.refl _).drew) SW.out
        (try simp only [Act.put]); (try simp only [List.setIfInBounds_toArray]); (try simp only [List.set_cons_succ]); (try simp only [List.set_cons_zero])
        clear hHeld
        refine wpAnyH_take (i := 0) (oi := { dst := some 91, op := Op.move (Operand.tmp 7), type := 26, pos := "law.go:113", after := #[], guard := none }) (v := ?vk122) rfl (by kernel_rfl) (by kernel_rfl) (by kernel_rfl) (fun _ _ _ h => h) (Or.inl ⟨by rfl, ?hk122⟩) (SpAt.old ((Old.refl wr).drew) SW.out) ?rk122
        case hk122 => (intro wz hSw; (try dsimp only at hSw); go_simp; try with_reducible rfl)
        (try simp only [Act.put]); (try simp only [List.setIfInBounds_toArray]); (try simp only [List.set_cons_succ]); (try simp only [List.set_cons_zero])
        refine wpAnyH_take (i := 1) (oi := { dst := some 92, op := Op.move (Operand.tmp 1), type := 23, pos := "law.go:113", after := #[], guard := none }) (v := ?vk123) rfl (by kernel_rfl) (by kernel_rfl) (by kernel_rfl) (fun _ _ _ h => h) (Or.inl ⟨by rfl, ?hk123⟩) (SpAt.old ((Old.refl wr).drew) SW.out) ?rk123
        case hk123 => (intro wz hSw; (try dsimp only at hSw); go_simp; try with_reducible rfl)
        (try simp only [Act.put]); (try simp only [List.setIfInBounds_toArray]); (try simp only [List.set_cons_succ]); (try simp only [List.set_cons_zero])
        refine wpAnyH_take (i := 3) (oi := { dst := some 94, op := Op.move (Operand.tmp 8), type := 26, pos := "law.go:113", after := #[], guard := none }) (v := ?vk124) rfl (by kernel_rfl) (by kernel_rfl) (by kernel_rfl) (fun _ _ _ h => h) (Or.inl ⟨by rfl, ?hk124⟩) (SpAt.old ((Old.refl wr).drew) SW.out) ?rk124
        case hk124 => (intro wz hSw; (try dsimp only at hSw); go_simp; try with_reducible rfl)
        (try simp only [Act.put]); (try simp only [List.setIfInBounds_toArray]); (try simp only [List.set_cons_succ]); (try simp only [List.set_cons_zero])
        refine wpAnyH_take (i := 4) (oi := { dst := some 95, op := Op.move (Operand.tmp 1), type := 23, pos := "law.go:113", after := #[], guard := none }) (v := ?vk125) rfl (by kernel_rfl) (by kernel_rfl) (by kernel_rfl) (fun _ _ _ h => h) (Or.inl ⟨by rfl, ?hk125⟩) (SpAt.old ((Old.refl wr).drew) SW.out) ?rk125
        case hk125 => (intro wz hSw; (try dsimp only at hSw); go_simp; try with_reducible rfl)
        (try simp only [Act.put]); (try simp only [List.setIfInBounds_toArray]); (try simp only [List.set_cons_succ]); (try simp only [List.set_cons_zero])
        refine wpAnyH_ready (rs := [2]) (by kernel_rfl) (by simp) ?_
        refine AllReadyH.cons (o := { dst := some 93, op := Op.call { callee := Callee.value (Operand.func 14), args := #[Operand.tmp 91, Operand.tmp 92], argTypes := #[26, 23] }, type := 2, pos := "law.go:113", after := #[{ on := 0, ground := Ground.data }, { on := 1, ground := Ground.data }], guard := none }) rfl (fun K hK => ?_) AllReadyH.nil
        refine wantCall2 ?_ 14 (.tmp 91) (.tmp 92) #[26, 23] ?_ (.pointer (some ⟨b1, 0, none⟩)) (.float .f64 key) ?_ ?_ ?_ (ent_at _ _) ?_
        · rfl
        · rfl
        · rfl
        · rfl
        · rfl
        refine (HA1.out _ ((Old.refl wr).drew)).mono ?_
        rintro o x126 ⟨rfl, b126⟩
        refine ⟨_, rfl, ?_⟩
        have U126 := ((Old.refl wr).drew).trans b126
        refine hK.out _ _ (SpAt.old U126 SW.out) (fun _ => ?_)
        clear hK K
        (try simp only [Act.put]); (try simp only [List.setIfInBounds_toArray]); (try simp only [List.set_cons_succ]); (try simp only [List.set_cons_zero])
        refine wpAnyH_ready (rs := [5]) (by kernel_rfl) (by simp) ?_
        refine AllReadyH.cons (o := { dst := some 96, op := Op.call { callee := Callee.value (Operand.func 14), args := #[Operand.tmp 94, Operand.tmp 95], argTypes := #[26, 23] }, type := 2, pos := "law.go:113", after := #[{ on := 3, ground := Ground.data }, { on := 4, ground := Ground.data }, { on := 2, ground := Ground.chain }], guard := none }) rfl (fun K hK => ?_) AllReadyH.nil
        refine wantCall2 ?_ 14 (.tmp 94) (.tmp 95) #[26, 23] ?_ (.pointer (some ⟨b2, 0, none⟩)) (.float .f64 key) ?_ ?_ ?_ (ent_at _ _) ?_
        · rfl
        · rfl
        · rfl
        · rfl
        · rfl
        refine (HA2.out _ U126).mono ?_
        rintro o x127 ⟨rfl, b127⟩
        refine ⟨_, rfl, ?_⟩
        have U127 := U126.trans b127
        refine hK.out _ _ (SpAt.old U127 SW.out) (fun _ => ?_)
        clear hK K
        (try simp only [Act.put]); (try simp only [List.setIfInBounds_toArray]); (try simp only [List.set_cons_succ]); (try simp only [List.set_cons_zero])
        refine wpAnyH_take (i := 6) (oi := { dst := some 97, op := Op.binOp BinOp.eql 2 (Operand.tmp 93) (Operand.tmp 96) 2, type := 4, pos := "law.go:113", after := #[{ on := 2, ground := Ground.data }, { on := 5, ground := Ground.data }], guard := none }) (v := ?vk128) rfl (by kernel_rfl) (by kernel_rfl) (by kernel_rfl) (fun _ _ _ h => h) (Or.inl ⟨by rfl, ?hk128⟩) (SpAt.old U127 SW.out) ?rk128
        case hk128 => (intro wz hSw; (try dsimp only at hSw); go_simp; try with_reducible rfl)
        (try simp only [Act.put]); (try simp only [List.setIfInBounds_toArray]); (try simp only [List.set_cons_succ]); (try simp only [List.set_cons_zero])
        refine wpAnyH_take (i := 7) (oi := { dst := some 98, op := Op.move (Operand.tmp 97), type := 4, pos := "law.go:113", after := #[{ on := 6, ground := Ground.data }, { on := 5, ground := Ground.chain }], guard := none }) (v := ?vk129) rfl (by kernel_rfl) (by kernel_rfl) (by kernel_rfl) (fun _ _ _ h => h) (Or.inl ⟨by rfl, ?hk129⟩) (SpAt.old U127 SW.out) ?rk129
        case hk129 => (intro wz hSw; (try dsimp only at hSw); go_simp; try with_reducible rfl)
        (try simp only [Act.put]); (try simp only [List.setIfInBounds_toArray]); (try simp only [List.set_cons_succ]); (try simp only [List.set_cons_zero])
        refine wpAnyH_take (i := 8) (oi := { dst := some 99, op := Op.move (Operand.tmp 7), type := 26, pos := "law.go:113", after := #[{ on := 7, ground := Ground.guard }], guard := some (7, true) }) (v := ?vk130) rfl (by kernel_rfl) (by kernel_rfl) (by kernel_rfl) (fun _ _ _ h => h) (Or.inl ⟨by rfl, ?hk130⟩) (SpAt.old U127 SW.out) ?rk130
        case hk130 => (intro wz hSw; (try dsimp only at hSw); go_simp; try with_reducible rfl)
        (try simp only [Act.put]); (try simp only [List.setIfInBounds_toArray]); (try simp only [List.set_cons_succ]); (try simp only [List.set_cons_zero])
        refine wpAnyH_take (i := 9) (oi := { dst := some 100, op := Op.load 25 (Operand.tmp 5), type := 25, pos := "law.go:113", after := #[{ on := 7, ground := Ground.guard }], guard := some (7, true) }) (v := ?vk131) rfl (by kernel_rfl) (by kernel_rfl) (by kernel_rfl) (fun _ _ _ h => h) (Or.inl ⟨by rfl, ?hk131⟩) (SpAt.old U127 SW.out) ?rk131
        case hk131 => (intro wz hSw; (try dsimp only at hSw); go_simp; try with_reducible rfl)
        (try simp only [Act.put]); (try simp only [List.setIfInBounds_toArray]); (try simp only [List.set_cons_succ]); (try simp only [List.set_cons_zero])
        refine wpAnyH_take (i := 11) (oi := { dst := some 102, op := Op.move (Operand.tmp 8), type := 26, pos := "law.go:113", after := #[{ on := 7, ground := Ground.guard }], guard := some (7, true) }) (v := ?vk132) rfl (by kernel_rfl) (by kernel_rfl) (by kernel_rfl) (fun _ _ _ h => h) (Or.inl ⟨by rfl, ?hk132⟩) (SpAt.old U127 SW.out) ?rk132
        case hk132 => (intro wz hSw; (try dsimp only at hSw); go_simp; try with_reducible rfl)
        (try simp only [Act.put]); (try simp only [List.setIfInBounds_toArray]); (try simp only [List.set_cons_succ]); (try simp only [List.set_cons_zero])
        refine wpAnyH_take (i := 12) (oi := { dst := some 103, op := Op.load 25 (Operand.tmp 5), type := 25, pos := "law.go:113", after := #[{ on := 7, ground := Ground.guard }], guard := some (7, true) }) (v := ?vk133) rfl (by kernel_rfl) (by kernel_rfl) (by kernel_rfl) (fun _ _ _ h => h) (Or.inl ⟨by rfl, ?hk133⟩) (SpAt.old U127 SW.out) ?rk133
        case hk133 => (intro wz hSw; (try dsimp only at hSw); go_simp; try with_reducible rfl)
        (try simp only [Act.put]); (try simp only [List.setIfInBounds_toArray]); (try simp only [List.set_cons_succ]); (try simp only [List.set_cons_zero])
        refine wpAnyH_ready (rs := [10]) (by kernel_rfl) (by simp) ?_
        refine AllReadyH.cons (o := { dst := some 101, op := Op.call { callee := Callee.value (Operand.func 20), args := #[Operand.tmp 99, Operand.tmp 100], argTypes := #[26, 25] }, type := 2, pos := "law.go:113", after := #[{ on := 8, ground := Ground.data }, { on := 9, ground := Ground.data }, { on := 7, ground := Ground.chain }, { on := 7, ground := Ground.guard }], guard := some (7, true) }) rfl (fun K hK => ?_) AllReadyH.nil
        refine wantCall2 ?_ 20 (.tmp 99) (.tmp 100) #[26, 25] ?_ (.pointer (some ⟨b1, 0, none⟩)) (.agg #[.float .f64 x, .float .f64 y, .bool p, .bool q]) ?_ ?_ ?_ (ent_over _ _) ?_
        · rfl
        · rfl
        · rfl
        · rfl
        · rfl
        refine (HO1.out _ U127).mono ?_
        rintro o x134 ⟨rfl, b134⟩
        refine ⟨_, rfl, ?_⟩
        have U134 := U127.trans b134
        refine hK.out _ _ (SpAt.old U134 SW.out) (fun _ => ?_)
        clear hK K
        (try simp only [Act.put]); (try simp only [List.setIfInBounds_toArray]); (try simp only [List.set_cons_succ]); (try simp only [List.set_cons_zero])
        refine wpAnyH_ready (rs := [13]) (by kernel_rfl) (by simp) ?_
        refine AllReadyH.cons (o := { dst := some 104, op := Op.call { callee := Callee.value (Operand.func 20), args := #[Operand.tmp 102, Operand.tmp 103], argTypes := #[26, 25] }, type := 2, pos := "law.go:113", after := #[{ on := 11, ground := Ground.data }, { on := 12, ground := Ground.data }, { on := 10, ground := Ground.chain }, { on := 7, ground := Ground.guard }], guard := some (7, true) }) rfl (fun K hK => ?_) AllReadyH.nil
        refine wantCall2 ?_ 20 (.tmp 102) (.tmp 103) #[26, 25] ?_ (.pointer (some ⟨b2, 0, none⟩)) (.agg #[.float .f64 x, .float .f64 y, .bool p, .bool q]) ?_ ?_ ?_ (ent_over _ _) ?_
        · rfl
        · rfl
        · rfl
        · rfl
        · rfl
        refine (HO2.out _ U134).mono ?_
        rintro o x135 ⟨rfl, b135⟩
        refine ⟨_, rfl, ?_⟩
        have U135 := U134.trans b135
        refine hK.out _ _ (SpAt.old U135 SW.out) (fun _ => ?_)
        clear hK K
        (try simp only [Act.put]); (try simp only [List.setIfInBounds_toArray]); (try simp only [List.set_cons_succ]); (try simp only [List.set_cons_zero])
        refine wpAnyH_take (i := 14) (oi := { dst := some 105, op := Op.binOp BinOp.eql 2 (Operand.tmp 101) (Operand.tmp 104) 2, type := 4, pos := "law.go:113", after := #[{ on := 10, ground := Ground.data }, { on := 13, ground := Ground.data }, { on := 7, ground := Ground.guard }], guard := some (7, true) }) (v := ?vk136) rfl (by kernel_rfl) (by kernel_rfl) (by kernel_rfl) (fun _ _ _ h => h) (Or.inl ⟨by rfl, ?hk136⟩) (SpAt.old U135 SW.out) ?rk136
        case hk136 => (intro wz hSw; (try dsimp only at hSw); go_simp; try with_reducible rfl)
        (try simp only [Act.put]); (try simp only [List.setIfInBounds_toArray]); (try simp only [List.set_cons_succ]); (try simp only [List.set_cons_zero])
        refine wpAnyH_take (i := 15) (oi := { dst := some 106, op := Op.pick (Operand.tmp 98) (Operand.tmp 105) (Operand.const (Value.bool false)), type := 4, pos := "law.go:113", after := #[{ on := 7, ground := Ground.data }, { on := 14, ground := Ground.data }], guard := none }) (v := ?vk137) rfl (by kernel_rfl) (by kernel_rfl) (by kernel_rfl) (fun _ _ _ h => h) (Or.inl ⟨by rfl, ?hk137⟩) (SpAt.old U135 SW.out) ?rk137
        case hk137 => (intro wz hSw; (try dsimp only at hSw); go_simp; try with_reducible rfl)
        (try simp only [Act.put]); (try simp only [List.setIfInBounds_toArray]); (try simp only [List.set_cons_succ]); (try simp only [List.set_cons_zero])
        refine wpAnyH_take (i := 16) (oi := { dst := some 107, op := Op.move (Operand.tmp 106), type := 4, pos := "law.go:113", after := #[{ on := 15, ground := Ground.data }, { on := 13, ground := Ground.chain }], guard := none }) (v := ?vk138) rfl (by kernel_rfl) (by kernel_rfl) (by kernel_rfl) (fun _ _ _ h => h) (Or.inl ⟨by rfl, ?hk138⟩) (SpAt.old U135 SW.out) ?rk138
        case hk138 => (intro wz hSw; (try dsimp only at hSw); go_simp; try with_reducible rfl)
        (try simp only [Act.put]); (try simp only [List.setIfInBounds_toArray]); (try simp only [List.set_cons_succ]); (try simp only [List.set_cons_zero])
        refine wpAnyH_take (i := 17) (oi := { dst := some 108, op := Op.move (Operand.tmp 7), type := 26, pos := "law.go:113", after := #[{ on := 16, ground := Ground.guard }], guard := some (16, true) }) (v := ?vk139) rfl (by kernel_rfl) (by kernel_rfl) (by kernel_rfl) (fun _ _ _ h => h) (Or.inl ⟨by rfl, ?hk139⟩) (SpAt.old U135 SW.out) ?rk139
        case hk139 => (intro wz hSw; (try dsimp only at hSw); go_simp; try with_reducible rfl)
        (try simp only [Act.put]); (try simp only [List.setIfInBounds_toArray]); (try simp only [List.set_cons_succ]); (try simp only [List.set_cons_zero])
        refine wpAnyH_take (i := 19) (oi := { dst := some 110, op := Op.move (Operand.tmp 8), type := 26, pos := "law.go:113", after := #[{ on := 16, ground := Ground.guard }], guard := some (16, true) }) (v := ?vk140) rfl (by kernel_rfl) (by kernel_rfl) (by kernel_rfl) (fun _ _ _ h => h) (Or.inl ⟨by rfl, ?hk140⟩) (SpAt.old U135 SW.out) ?rk140
        case hk140 => (intro wz hSw; (try dsimp only at hSw); go_simp; try with_reducible rfl)
        (try simp only [Act.put]); (try simp only [List.setIfInBounds_toArray]); (try simp only [List.set_cons_succ]); (try simp only [List.set_cons_zero])
        refine wpAnyH_ready (rs := [18]) (by kernel_rfl) (by simp) ?_
        refine AllReadyH.cons (o := { dst := some 109, op := Op.call { callee := Callee.value (Operand.func 19), args := #[Operand.tmp 108], argTypes := #[26] }, type := 3, pos := "law.go:113", after := #[{ on := 17, ground := Ground.data }, { on := 16, ground := Ground.chain }, { on := 16, ground := Ground.guard }], guard := some (16, true) }) rfl (fun K hK => ?_) AllReadyH.nil
        refine wantCall1 ?_ 19 (.tmp 108) #[26] ?_ (.pointer (some ⟨b1, 0, none⟩)) ?_ ?_ (ent_len _ _) ?_
        · rfl
        · rfl
        · rfl
        · rfl
        refine (HL1.out _ U135).mono ?_
        rintro o x141 ⟨rfl, b141⟩
        refine ⟨_, rfl, ?_⟩
        have U141 := U135.trans b141
        refine hK.out _ _ (SpAt.old U141 SW.out) (fun _ => ?_)
        clear hK K
        (try simp only [Act.put]); (try simp only [List.setIfInBounds_toArray]); (try simp only [List.set_cons_succ]); (try simp only [List.set_cons_zero])
        refine wpAnyH_ready (rs := [20]) (by kernel_rfl) (by simp) ?_
        refine AllReadyH.cons (o := { dst := some 111, op := Op.call { callee := Callee.value (Operand.func 19), args := #[Operand.tmp 110], argTypes := #[26] }, type := 3, pos := "law.go:113", after := #[{ on := 19, ground := Ground.data }, { on := 18, ground := Ground.chain }, { on := 16, ground := Ground.guard }], guard := some (16, true) }) rfl (fun K hK => ?_) AllReadyH.nil
        refine wantCall1 ?_ 19 (.tmp 110) #[26] ?_ (.pointer (some ⟨b2, 0, none⟩)) ?_ ?_ (ent_len _ _) ?_
        · rfl
        · rfl
        · rfl
        · rfl
        refine (HL2.out _ U141).mono ?_
        rintro o x142 ⟨rfl, b142⟩
        refine ⟨_, rfl, ?_⟩
        have U142 := U141.trans b142
        refine hK.out _ _ (SpAt.old U142 SW.out) (fun _ => ?_)
        clear hK K
        (try simp only [Act.put]); (try simp only [List.setIfInBounds_toArray]); (try simp only [List.set_cons_succ]); (try simp only [List.set_cons_zero])
        refine wpAnyH_take (i := 21) (oi := { dst := some 112, op := Op.binOp BinOp.eql 3 (Operand.tmp 109) (Operand.tmp 111) 3, type := 4, pos := "law.go:113", after := #[{ on := 18, ground := Ground.data }, { on := 20, ground := Ground.data }, { on := 16, ground := Ground.guard }], guard := some (16, true) }) (v := ?vk143) rfl (by kernel_rfl) (by kernel_rfl) (by kernel_rfl) (fun _ _ _ h => h) (Or.inl ⟨by rfl, ?hk143⟩) (SpAt.old U142 SW.out) ?rk143
        case hk143 => (intro wz hSw; (try dsimp only at hSw); go_simp; try with_reducible rfl)
        (try simp only [Act.put]); (try simp only [List.setIfInBounds_toArray]); (try simp only [List.set_cons_succ]); (try simp only [List.set_cons_zero])
        refine wpAnyH_take (i := 22) (oi := { dst := some 113, op := Op.pick (Operand.tmp 107) (Operand.tmp 112) (Operand.const (Value.bool false)), type := 4, pos := "law.go:113", after := #[{ on := 16, ground := Ground.data }, { on := 21, ground := Ground.data }], guard := none }) (v := ?vk144) rfl (by kernel_rfl) (by kernel_rfl) (by kernel_rfl) (fun _ _ _ h => h) (Or.inl ⟨by rfl, ?hk144⟩) (SpAt.old U142 SW.out) ?rk144
        case hk144 => (intro wz hSw; (try dsimp only at hSw); go_simp; try with_reducible rfl)
        (try simp only [Act.put]); (try simp only [List.setIfInBounds_toArray]); (try simp only [List.set_cons_succ]); (try simp only [List.set_cons_zero])
        refine wpAnyH_ready (rs := [23]) (by kernel_rfl) (by simp) ?_
        refine AllReadyH.cons (o := { dst := some 6, op := Op.assign (Operand.tmp 113), type := 4, pos := "law.go:113", after := #[{ on := 22, ground := Ground.data }, { on := 20, ground := Ground.chain }, { on := 0, ground := Ground.phase }, { on := 1, ground := Ground.phase }, { on := 2, ground := Ground.phase }, { on := 3, ground := Ground.phase }, { on := 4, ground := Ground.phase }, { on := 5, ground := Ground.phase }, { on := 6, ground := Ground.phase }, { on := 7, ground := Ground.phase }, { on := 8, ground := Ground.phase }, { on := 9, ground := Ground.phase }, { on := 10, ground := Ground.phase }, { on := 11, ground := Ground.phase }, { on := 12, ground := Ground.phase }, { on := 13, ground := Ground.phase }, { on := 14, ground := Ground.phase }, { on := 15, ground := Ground.phase }, { on := 16, ground := Ground.phase }, { on := 17, ground := Ground.phase }, { on := 18, ground := Ground.phase }, { on := 19, ground := Ground.phase }, { on := 20, ground := Ground.phase }, { on := 21, ground := Ground.phase }, { on := 22, ground := Ground.phase }], guard := none }) rfl (fun K hK => ?_) AllReadyH.nil
        go_simp
        refine hK.out _ _ (SpAt.old U142 SW.out) (fun _ => ?_)
        clear hK K
        (try simp only [Act.put]); (try simp only [List.setIfInBounds_toArray]); (try simp only [List.set_cons_succ]); (try simp only [List.set_cons_zero])
        refine wpAnyH_done (by kernel_rfl) ?_ _
        refine NoPanic.normal ?_
        have U9 := hid U142
        go_wp2
        go_ret
        exact ⟨rfl, (hV.out.trans HU.out).trans U9.out⟩

  · have HO := hid HO0.out
    have HI0 := hid (HI.out N0)
    have hN60 : N0 ≤ 60 := by omega
    have l60 : ¬ (60 : Int) < (N0 : Int) := by omega
    go_upto_region 6 with fail
    clear HI HO0 l60 hN6 hsc hbN
    generalize N0 = N at *
    go_wp2
    go_loopw [34] (fun i wr => ∃ k : Nat, k ≤ N ∧ i = .int .i64 (k : Nat) ∧ Two f N b1 b1 b2 w k wr) (fun i _ => N - (intOf i).toNat)
    case atStart => exact ⟨0, Nat.zero_le _, rfl, HI0.out⟩
    case round =>
      obtain ⟨k, hk, rfl, v1, L1, v2, L2, ⟨t1, g1, n1, h1⟩, ⟨t2, g2, n2, h2⟩, hdj, hu⟩ := hrel
      have HT1 := hid t1
      have HG1 := hid g1
      have HH1 := hid h1
      have HT2 := hid t2
      have HG2 := hid g2
      have HH2 := hid h2
      have HD := hid hdj
      have HU := hid hu
      have HN1 := hid n1
      have HN2 := hid n2
      clear t1 g1 h1 t2 g2 h2 hdj hu HI0 n1 n2
      by_cases hlt : k < N
      · obtain ⟨_, a', c', e', _, hc⟩ := HO.out.old HU.out
        obtain ⟨b', off, hsa, hW, o0, o1, o2⟩ := hc k hlt
        simp only [Value.slice.injEq] at e'
        obtain ⟨rfl, _, rfl⟩ := e'
        subst hsa
        have l1 : (0 : Int) ≤ (k : Int) := by omega
        have l2 : (k : Int) < (N : Int) := by omega
        clear hc
        have HW := hid hW
        have HPS := hid (put_step f k hW (fun i => i < k ∧ okO (f i)) (fun i => i < k + 1 ∧ okO (f i)) (fun i => by
          constructor
          · rintro ⟨a, b⟩
            by_cases e : i = k
            · subst e; exact .inr ⟨rfl, b⟩
            · exact .inl ⟨by omega, b⟩
          · rintro (⟨a, b⟩ | ⟨rfl, b⟩)
            · exact ⟨by omega, b⟩
            · exact ⟨by omega, b⟩) L1 HG1.out (by have := HN1.out; omega) HH1.out)
        generalize hfk : f k = z at *
        go_upto_region 9 with fail
        have B4 := hid (op_new wr z _ rfl)
        have U4 := hid ((Old.refl wr).alloc (.cells #[.int .i64 z.kd, .float .f64 z.k, .int .i64 z.n] 34))
        have T4 := hid (HT1.out.old U4.out)
        have S4 := hid (SpAt.old (HU.out.trans U4.out) HS.out)
        have HZ := hid (show ∀ g, g ∈ blks b1 v1 → g < wr.heap.size from fun g hg => (HT1.out.blk g hg).2)
        have hobk := hid (show wr.heap.size ∉ blks b1 v1 from fun e => by have := HZ.out _ e; omega)
        clear o0 o1 o2 HZ
        generalize wr.alloc (.cells #[.int .i64 z.kd, .float .f64 z.k, .int .i64 z.n] 34) = w4 at *
        generalize hob : wr.heap.size = ob at *
        have hl1 : L1.length ≤ 1000000 := by have := HN1.out; omega
        have HA1 := hid (fun (W : World) (u : Old w4 W) => at_any b1 b1 64 v1 L1 key hkey W (T4.out.old u) HG1.out hl1)
        have HO1 := hid (fun (W : World) (u : Old w4 W) => over_any b1 b1 64 v1 L1 x y hx hy p q W (T4.out.old u) HG1.out hl1)
        have HAC := hid (HPS.out.2.2.2.1 (Fl.code key))
        have HOC := hid (HPS.out.2.2.2.2.1 (hasB x y p q))
        have HOK := hid (HPS.out.2.2.2.2.2)
        generalize hA : atL (Fl.code key) L1 = A at *
        generalize hB : overT (hasB x y p q) L1 L1.length = B at *
        refine wp_region_noPanic ?_
        refine wp_region_held_drew (S := SpAt sb x y p q) (by kernel_rfl) ?_ (fun hHeld => ?_)
        · exact SpAt.old ((Old.refl _).drew) S4.out
        (try simp only [Act.put]); (try simp only [List.setIfInBounds_toArray]); (try simp only [List.set_cons_succ]); (try simp only [List.set_cons_zero])
        clear hHeld
        refine wpAnyH_take (i := 0) (oi := { dst := some 39, op := Op.move (Operand.tmp 7), type := 26, pos := "law.go:105", after := #[], guard := none }) (v := ?vk44) rfl (by kernel_rfl) (by kernel_rfl) (by kernel_rfl) (fun _ _ _ h => h) (Or.inl ⟨by rfl, ?hk44⟩) (SpAt.old ((Old.refl w4).drew) S4.out) ?rk44
        case hk44 => (intro wz hSw; (try dsimp only at hSw); go_simp; try with_reducible rfl)
        (try simp only [Act.put]); (try simp only [List.setIfInBounds_toArray]); (try simp only [List.set_cons_succ]); (try simp only [List.set_cons_zero])
        refine wpAnyH_take (i := 1) (oi := { dst := some 40, op := Op.move (Operand.tmp 1), type := 23, pos := "law.go:105", after := #[], guard := none }) (v := ?vk45) rfl (by kernel_rfl) (by kernel_rfl) (by kernel_rfl) (fun _ _ _ h => h) (Or.inl ⟨by rfl, ?hk45⟩) (SpAt.old ((Old.refl w4).drew) S4.out) ?rk45
        case hk45 => (intro wz hSw; (try dsimp only at hSw); go_simp; try with_reducible rfl)
        (try simp only [Act.put]); (try simp only [List.setIfInBounds_toArray]); (try simp only [List.set_cons_succ]); (try simp only [List.set_cons_zero])
        refine wpAnyH_take (i := 3) (oi := { dst := some 42, op := Op.move (Operand.tmp 7), type := 26, pos := "law.go:105", after := #[], guard := none }) (v := ?vk46) rfl (by kernel_rfl) (by kernel_rfl) (by kernel_rfl) (fun _ _ _ h => h) (Or.inl ⟨by rfl, ?hk46⟩) (SpAt.old ((Old.refl w4).drew) S4.out) ?rk46
        case hk46 => (intro wz hSw; (try dsimp only at hSw); go_simp; try with_reducible rfl)
        (try simp only [Act.put]); (try simp only [List.setIfInBounds_toArray]); (try simp only [List.set_cons_succ]); (try simp only [List.set_cons_zero])
        refine wpAnyH_take (i := 4) (oi := { dst := some 43, op := Op.load 25 (Operand.tmp 5), type := 25, pos := "law.go:105", after := #[], guard := none }) (v := ?vk47) rfl (by kernel_rfl) (by kernel_rfl) (by kernel_rfl) (fun _ _ _ h => h) (Or.inl ⟨by rfl, ?hk47⟩) (SpAt.old ((Old.refl w4).drew) S4.out) ?rk47
        case hk47 => (intro wz hSw; (try dsimp only at hSw); go_simp; try with_reducible rfl)
        (try simp only [Act.put]); (try simp only [List.setIfInBounds_toArray]); (try simp only [List.set_cons_succ]); (try simp only [List.set_cons_zero])
        refine wpAnyH_ready (rs := [2]) (by kernel_rfl) (by simp) ?_
        refine AllReadyH.cons (o := { dst := some 41, op := Op.call { callee := Callee.value (Operand.func 14), args := #[Operand.tmp 39, Operand.tmp 40], argTypes := #[26, 23] }, type := 2, pos := "law.go:105", after := #[{ on := 0, ground := Ground.data }, { on := 1, ground := Ground.data }], guard := none }) rfl (fun K hK => ?_) AllReadyH.nil
        refine wantCall2 ?_ 14 (.tmp 39) (.tmp 40) #[26, 23] ?_ (.pointer (some ⟨b1, 0, none⟩)) (.float .f64 key) ?_ ?_ ?_ (ent_at _ _) ?_
        · rfl
        · rfl
        · rfl
        · rfl
        · rfl
        refine (HA1.out _ ((Old.refl w4).drew)).mono ?_
        rintro o x48 ⟨rfl, b48⟩
        refine ⟨_, rfl, ?_⟩
        have U48 := ((Old.refl w4).drew).trans b48
        refine hK.out _ _ (SpAt.old U48 S4.out) (fun _ => ?_)
        clear hK K
        (try simp only [Act.put]); (try simp only [List.setIfInBounds_toArray]); (try simp only [List.set_cons_succ]); (try simp only [List.set_cons_zero])
        refine wpAnyH_ready (rs := [5]) (by kernel_rfl) (by simp) ?_
        refine AllReadyH.cons (o := { dst := some 44, op := Op.call { callee := Callee.value (Operand.func 20), args := #[Operand.tmp 42, Operand.tmp 43], argTypes := #[26, 25] }, type := 2, pos := "law.go:105", after := #[{ on := 3, ground := Ground.data }, { on := 4, ground := Ground.data }, { on := 2, ground := Ground.chain }], guard := none }) rfl (fun K hK => ?_) AllReadyH.nil
        refine wantCall2 ?_ 20 (.tmp 42) (.tmp 43) #[26, 25] ?_ (.pointer (some ⟨b1, 0, none⟩)) (.agg #[.float .f64 x, .float .f64 y, .bool p, .bool q]) ?_ ?_ ?_ (ent_over _ _) ?_
        · rfl
        · rfl
        · rfl
        · rfl
        · rfl
        refine (HO1.out _ U48).mono ?_
        rintro o x49 ⟨rfl, b49⟩
        refine ⟨_, rfl, ?_⟩
        have U49 := U48.trans b49
        refine hK.out _ _ (SpAt.old U49 S4.out) (fun _ => ?_)
        clear hK K
        (try simp only [Act.put]); (try simp only [List.setIfInBounds_toArray]); (try simp only [List.set_cons_succ]); (try simp only [List.set_cons_zero])
        refine wpAnyH_ready (rs := [6]) (by kernel_rfl) (by simp) ?_
        refine AllReadyH.cons (o := { dst := some 11, op := Op.assign (Operand.tmp 41), type := 2, pos := "law.go:105", after := #[{ on := 2, ground := Ground.data }, { on := 5, ground := Ground.chain }, { on := 0, ground := Ground.phase }, { on := 1, ground := Ground.phase }, { on := 2, ground := Ground.phase }, { on := 3, ground := Ground.textOnly Departure.lateStores }, { on := 4, ground := Ground.textOnly Departure.lateStores }, { on := 5, ground := Ground.textOnly Departure.lateStoresUnsure }], guard := none }) rfl (fun K hK => ?_) AllReadyH.nil
        go_simp
        refine hK.out _ _ (SpAt.old U49 S4.out) (fun _ => ?_)
        clear hK K
        (try simp only [Act.put]); (try simp only [List.setIfInBounds_toArray]); (try simp only [List.set_cons_succ]); (try simp only [List.set_cons_zero])
        refine wpAnyH_ready (rs := [7]) (by kernel_rfl) (by simp) ?_
        refine AllReadyH.cons (o := { dst := some 12, op := Op.assign (Operand.tmp 44), type := 2, pos := "law.go:105", after := #[{ on := 5, ground := Ground.data }, { on := 6, ground := Ground.chain }, { on := 0, ground := Ground.phase }, { on := 1, ground := Ground.phase }, { on := 2, ground := Ground.phase }, { on := 3, ground := Ground.phase }, { on := 4, ground := Ground.phase }, { on := 5, ground := Ground.phase }, { on := 6, ground := Ground.phase }], guard := none }) rfl (fun K hK => ?_) AllReadyH.nil
        go_simp
        refine hK.out _ _ (SpAt.old U49 S4.out) (fun _ => ?_)
        clear hK K
        (try simp only [Act.put]); (try simp only [List.setIfInBounds_toArray]); (try simp only [List.set_cons_succ]); (try simp only [List.set_cons_zero])
        refine wpAnyH_done (by kernel_rfl) ?_ _
        refine NoPanic.normal ?_
        have U9 := hid U49
        have T5 := hid (T4.out.old U9.out)
        have B5 := hid (B4.out.old U9.out)
        have hb5 := B5.out.2.1
        have hb6 := B5.out.2.2
        have U5 := hid ((HU.out.trans U4.out).trans U9.out)
        have HT25 := hid (HT2.out.old (U4.out.trans U9.out))
        clear HA1 HO1 T4 S4 B4
        generalize x49 = w5 at *
        have HP := hid (put_any b1 b1 64 z.n v1 L1 z.k HW.out w5 T5.out HG1.out hl1)
        generalize hec : (putR z.k z.n 64 L1).1 = ec at *
        generalize hL1' : (putR z.k z.n 64 L1).2 = L1' at *
        go_upto_region 11 with (go_at_call 12; refine HP.out.mono ?_; rintro e w6 ⟨v1', rfl, t6, c6, n6⟩; have T6 := hid t6; have C6 := hid c6; have N6 := hid n6; clear t6 c6 n6)
        have U6 := hid (U5.out.below (Below.mono (T5.out.below C6.out) (Nat.le_of_eq hwb)))
        have S6 := hid (show SpO sb x y p q ob z w6 from ⟨SpAt.old U6.out HS.out, C6.out.cell hb5 hobk.out, C6.out.cell hb6 hobk.out⟩)
        have HT26 := hid (HT25.out.chg C6.out (fun e => HD.out _ e (mem_blks.2 (.inl rfl))) (fun g hg e => HD.out _ e (mem_blks.2 (.inr hg))))
        have HD6 := hid (show ∀ g, g ∈ blks b1 v1' → g ∉ blks b2 v2 from fun g hg hg2 => by
          have q2 := (HT25.out.blk g hg2).2
          rcases mem_blks.1 hg with e | e
          · exact HD.out g (mem_blks.2 (.inl e)) hg2
          · rcases N6.out g e with r | r
            · exact HD.out g (mem_blks.2 (.inr r)) hg2
            · omega)
        have hl1' : L1'.length ≤ 1000000 := by have := HPS.out.2.1; have := HN1.out; omega
        have HA2 := hid (fun (W : World) (u : Old w6 W) => at_any b1 b1 64 v1' L1' key hkey W (T6.out.old u) HPS.out.1 hl1')
        have HO2 := hid (fun (W : World) (u : Old w6 W) => over_any b1 b1 64 v1' L1' x y hx hy p q W (T6.out.old u) HPS.out.1 hl1')
        have HA3 := hid (fun (W : World) (u : Old w6 W) => at_any b1 b1 64 v1' L1' z.k HW.out W (T6.out.old u) HPS.out.1 hl1')
        generalize hA2 : atL (Fl.code key) L1' = A2 at *
        generalize hB2 : overT (hasB x y p q) L1' L1'.length = B2 at *
        have hlA : ¬ A2 < A := by have := HAC.out; omega
        have hlB : ¬ B2 < B := by have := HOC.out; omega
        clear HD HT25 T5 C6 N6 B5 hb5 hb6 HP HT1 hobk U5 HAC HOC
        by_cases hez : ec = 0
        · have HC3 := hid (HOK.out hez)
          generalize atL (Fl.code z.k) L1' = C3 at *
          have hlC : ¬ C3 < z.n := by have := HC3.out; omega
          clear HOK
          subst hez
          refine wp_region_noPanic ?_
          refine wp_region_held_drew (S := SpO sb x y p q ob z) (by kernel_rfl) ?_ (fun hHeld => ?_)
          · exact SpO.old ((Old.refl _).drew) S6.out
          (try simp only [Act.put]); (try simp only [List.setIfInBounds_toArray]); (try simp only [List.set_cons_succ]); (try simp only [List.set_cons_zero])
          clear hHeld
          refine wpAnyH_take (i := 0) (oi := { dst := some 51, op := Op.move (Operand.tmp 7), type := 26, pos := "law.go:107", after := #[], guard := none }) (v := ?vk1) rfl (by kernel_rfl) (by kernel_rfl) (by kernel_rfl) (fun _ _ _ h => h) (Or.inl ⟨by rfl, ?hk1⟩) (SpO.old ((Old.refl w6).drew) S6.out) ?rk1
          case hk1 => (intro wz hSw; (try dsimp only at hSw); go_simp; try with_reducible rfl)
          (try simp only [Act.put]); (try simp only [List.setIfInBounds_toArray]); (try simp only [List.set_cons_succ]); (try simp only [List.set_cons_zero])
          refine wpAnyH_take (i := 1) (oi := { dst := some 52, op := Op.move (Operand.tmp 1), type := 23, pos := "law.go:107", after := #[], guard := none }) (v := ?vk2) rfl (by kernel_rfl) (by kernel_rfl) (by kernel_rfl) (fun _ _ _ h => h) (Or.inl ⟨by rfl, ?hk2⟩) (SpO.old ((Old.refl w6).drew) S6.out) ?rk2
          case hk2 => (intro wz hSw; (try dsimp only at hSw); go_simp; try with_reducible rfl)
          (try simp only [Act.put]); (try simp only [List.setIfInBounds_toArray]); (try simp only [List.set_cons_succ]); (try simp only [List.set_cons_zero])
          refine wpAnyH_take (i := 3) (oi := { dst := some 54, op := Op.move (Operand.tmp 11), type := 2, pos := "law.go:107", after := #[], guard := none }) (v := ?vk3) rfl (by kernel_rfl) (by kernel_rfl) (by kernel_rfl) (fun _ _ _ h => h) (Or.inl ⟨by rfl, ?hk3⟩) (SpO.old ((Old.refl w6).drew) S6.out) ?rk3
          case hk3 => (intro wz hSw; (try dsimp only at hSw); go_simp; try with_reducible rfl)
          (try simp only [Act.put]); (try simp only [List.setIfInBounds_toArray]); (try simp only [List.set_cons_succ]); (try simp only [List.set_cons_zero])
          refine wpAnyH_ready (rs := [2]) (by kernel_rfl) (by simp) ?_
          refine AllReadyH.cons (o := { dst := some 53, op := Op.call { callee := Callee.value (Operand.func 14), args := #[Operand.tmp 51, Operand.tmp 52], argTypes := #[26, 23] }, type := 2, pos := "law.go:107", after := #[{ on := 0, ground := Ground.data }, { on := 1, ground := Ground.data }], guard := none }) rfl (fun K hK => ?_) AllReadyH.nil
          refine wantCall2 ?_ 14 (.tmp 51) (.tmp 52) #[26, 23] ?_ (.pointer (some ⟨b1, 0, none⟩)) (.float .f64 key) ?_ ?_ ?_ (ent_at _ _) ?_
          · rfl
          · rfl
          · rfl
          · rfl
          · rfl
          refine (HA2.out _ ((Old.refl w6).drew)).mono ?_
          rintro o x4 ⟨rfl, b4⟩
          refine ⟨_, rfl, ?_⟩
          have U4 := ((Old.refl w6).drew).trans b4
          refine hK.out _ _ (SpO.old U4 S6.out) (fun _ => ?_)
          clear hK K
          (try simp only [Act.put]); (try simp only [List.setIfInBounds_toArray]); (try simp only [List.set_cons_succ]); (try simp only [List.set_cons_zero])
          refine wpAnyH_take (i := 4) (oi := { dst := some 55, op := Op.binOp BinOp.lss 2 (Operand.tmp 53) (Operand.tmp 54) 2, type := 4, pos := "law.go:107", after := #[{ on := 2, ground := Ground.data }, { on := 3, ground := Ground.data }], guard := none }) (v := ?vk5) rfl (by kernel_rfl) (by kernel_rfl) (by kernel_rfl) (fun _ _ _ h => h) (Or.inl ⟨by rfl, ?hk5⟩) (SpO.old U4 S6.out) ?rk5
          case hk5 => (intro wz hSw; (try dsimp only at hSw); go_simp; try with_reducible rfl)
          (try simp only [Act.put]); (try simp only [List.setIfInBounds_toArray]); (try simp only [List.set_cons_succ]); (try simp only [List.set_cons_zero])
          refine wpAnyH_take (i := 5) (oi := { dst := some 56, op := Op.move (Operand.tmp 55), type := 4, pos := "law.go:107", after := #[{ on := 4, ground := Ground.data }, { on := 2, ground := Ground.chain }], guard := none }) (v := ?vk6) rfl (by kernel_rfl) (by kernel_rfl) (by kernel_rfl) (fun _ _ _ h => h) (Or.inl ⟨by rfl, ?hk6⟩) (SpO.old U4 S6.out) ?rk6
          case hk6 => (intro wz hSw; (try dsimp only at hSw); go_simp; try with_reducible rfl)
          (try simp only [Act.put]); (try simp only [List.setIfInBounds_toArray]); (try simp only [List.set_cons_succ]); (try simp only [List.set_cons_zero])
          refine wpAnyH_take (i := 6) (oi := { dst := some 57, op := Op.move (Operand.tmp 7), type := 26, pos := "law.go:107", after := #[{ on := 5, ground := Ground.guard }], guard := some (5, false) }) (v := ?vk7) rfl (by kernel_rfl) (by kernel_rfl) (by kernel_rfl) (fun _ _ _ h => h) (Or.inl ⟨by rfl, ?hk7⟩) (SpO.old U4 S6.out) ?rk7
          case hk7 => (intro wz hSw; (try dsimp only at hSw); go_simp; try with_reducible rfl)
          (try simp only [Act.put]); (try simp only [List.setIfInBounds_toArray]); (try simp only [List.set_cons_succ]); (try simp only [List.set_cons_zero])
          refine wpAnyH_take (i := 7) (oi := { dst := some 58, op := Op.load 25 (Operand.tmp 5), type := 25, pos := "law.go:107", after := #[{ on := 5, ground := Ground.guard }], guard := some (5, false) }) (v := ?vk8) rfl (by kernel_rfl) (by kernel_rfl) (by kernel_rfl) (fun _ _ _ h => h) (Or.inl ⟨by rfl, ?hk8⟩) (SpO.old U4 S6.out) ?rk8
          case hk8 => (intro wz hSw; (try dsimp only at hSw); go_simp; try with_reducible rfl)
          (try simp only [Act.put]); (try simp only [List.setIfInBounds_toArray]); (try simp only [List.set_cons_succ]); (try simp only [List.set_cons_zero])
          refine wpAnyH_take (i := 9) (oi := { dst := some 60, op := Op.move (Operand.tmp 12), type := 2, pos := "law.go:107", after := #[{ on := 5, ground := Ground.guard }], guard := some (5, false) }) (v := ?vk9) rfl (by kernel_rfl) (by kernel_rfl) (by kernel_rfl) (fun _ _ _ h => h) (Or.inl ⟨by rfl, ?hk9⟩) (SpO.old U4 S6.out) ?rk9
          case hk9 => (intro wz hSw; (try dsimp only at hSw); go_simp; try with_reducible rfl)
          (try simp only [Act.put]); (try simp only [List.setIfInBounds_toArray]); (try simp only [List.set_cons_succ]); (try simp only [List.set_cons_zero])
          refine wpAnyH_ready (rs := [8]) (by kernel_rfl) (by simp) ?_
          refine AllReadyH.cons (o := { dst := some 59, op := Op.call { callee := Callee.value (Operand.func 20), args := #[Operand.tmp 57, Operand.tmp 58], argTypes := #[26, 25] }, type := 2, pos := "law.go:107", after := #[{ on := 6, ground := Ground.data }, { on := 7, ground := Ground.data }, { on := 5, ground := Ground.chain }, { on := 5, ground := Ground.guard }], guard := some (5, false) }) rfl (fun K hK => ?_) AllReadyH.nil
          refine wantCall2 ?_ 20 (.tmp 57) (.tmp 58) #[26, 25] ?_ (.pointer (some ⟨b1, 0, none⟩)) (.agg #[.float .f64 x, .float .f64 y, .bool p, .bool q]) ?_ ?_ ?_ (ent_over _ _) ?_
          · rfl
          · rfl
          · rfl
          · rfl
          · rfl
          refine (HO2.out _ U4).mono ?_
          rintro o x10 ⟨rfl, b10⟩
          refine ⟨_, rfl, ?_⟩
          have U10 := U4.trans b10
          refine hK.out _ _ (SpO.old U10 S6.out) (fun _ => ?_)
          clear hK K
          (try simp only [Act.put]); (try simp only [List.setIfInBounds_toArray]); (try simp only [List.set_cons_succ]); (try simp only [List.set_cons_zero])
          refine wpAnyH_take (i := 10) (oi := { dst := some 61, op := Op.binOp BinOp.lss 2 (Operand.tmp 59) (Operand.tmp 60) 2, type := 4, pos := "law.go:107", after := #[{ on := 8, ground := Ground.data }, { on := 9, ground := Ground.data }, { on := 5, ground := Ground.guard }], guard := some (5, false) }) (v := ?vk11) rfl (by kernel_rfl) (by kernel_rfl) (by kernel_rfl) (fun _ _ _ h => h) (Or.inl ⟨by rfl, ?hk11⟩) (SpO.old U10 S6.out) ?rk11
          case hk11 => (intro wz hSw; (try dsimp only at hSw); go_simp; try with_reducible rfl)
          (try simp only [Act.put]); (try simp only [List.setIfInBounds_toArray]); (try simp only [List.set_cons_succ]); (try simp only [List.set_cons_zero])
          refine wpAnyH_take (i := 11) (oi := { dst := some 62, op := Op.pick (Operand.tmp 56) (Operand.const (Value.bool true)) (Operand.tmp 61), type := 4, pos := "law.go:107", after := #[{ on := 5, ground := Ground.data }, { on := 10, ground := Ground.data }], guard := none }) (v := ?vk12) rfl (by kernel_rfl) (by kernel_rfl) (by kernel_rfl) (fun _ _ _ h => h) (Or.inl ⟨by rfl, ?hk12⟩) (SpO.old U10 S6.out) ?rk12
          case hk12 => (intro wz hSw; (try dsimp only at hSw); go_simp; try with_reducible rfl)
          (try simp only [Act.put]); (try simp only [List.setIfInBounds_toArray]); (try simp only [List.set_cons_succ]); (try simp only [List.set_cons_zero])
          refine wpAnyH_take (i := 12) (oi := { dst := some 63, op := Op.move (Operand.tmp 62), type := 4, pos := "law.go:107", after := #[{ on := 11, ground := Ground.data }, { on := 8, ground := Ground.chain }], guard := none }) (v := ?vk13) rfl (by kernel_rfl) (by kernel_rfl) (by kernel_rfl) (fun _ _ _ h => h) (Or.inl ⟨by rfl, ?hk13⟩) (SpO.old U10 S6.out) ?rk13
          case hk13 => (intro wz hSw; (try dsimp only at hSw); go_simp; try with_reducible rfl)
          (try simp only [Act.put]); (try simp only [List.setIfInBounds_toArray]); (try simp only [List.set_cons_succ]); (try simp only [List.set_cons_zero])
          refine wpAnyH_take (i := 13) (oi := { dst := some 64, op := Op.move (Operand.tmp 13), type := 35, pos := "law.go:107", after := #[{ on := 12, ground := Ground.guard }], guard := some (12, false) }) (v := ?vk14) rfl (by kernel_rfl) (by kernel_rfl) (by kernel_rfl) (fun _ _ _ h => h) (Or.inl ⟨by rfl, ?hk14⟩) (SpO.old U10 S6.out) ?rk14
          case hk14 => (intro wz hSw; (try dsimp only at hSw); go_simp; try with_reducible rfl)
          (try simp only [Act.put]); (try simp only [List.setIfInBounds_toArray]); (try simp only [List.set_cons_succ]); (try simp only [List.set_cons_zero])
          refine wpAnyH_take (i := 14) (oi := { dst := some 65, op := Op.binOp BinOp.eql 35 (Operand.tmp 64) (Operand.const (Value.int IntKind.i64 0)) 35, type := 4, pos := "law.go:107", after := #[{ on := 13, ground := Ground.data }, { on := 12, ground := Ground.guard }], guard := some (12, false) }) (v := ?vk15) rfl (by kernel_rfl) (by kernel_rfl) (by kernel_rfl) (fun _ _ _ h => h) (Or.inl ⟨by rfl, ?hk15⟩) (SpO.old U10 S6.out) ?rk15
          case hk15 => (intro wz hSw; (try dsimp only at hSw); go_simp; try with_reducible rfl)
          (try simp only [Act.put]); (try simp only [List.setIfInBounds_toArray]); (try simp only [List.set_cons_succ]); (try simp only [List.set_cons_zero])
          refine wpAnyH_take (i := 15) (oi := { dst := some 66, op := Op.move (Operand.tmp 65), type := 4, pos := "law.go:107", after := #[{ on := 14, ground := Ground.data }, { on := 12, ground := Ground.chain }, { on := 12, ground := Ground.guard }], guard := some (12, false) }) (v := ?vk16) rfl (by kernel_rfl) (by kernel_rfl) (by kernel_rfl) (fun _ _ _ h => h) (Or.inl ⟨by rfl, ?hk16⟩) (SpO.old U10 S6.out) ?rk16
          case hk16 => (intro wz hSw; (try dsimp only at hSw); go_simp; try with_reducible rfl)
          (try simp only [Act.put]); (try simp only [List.setIfInBounds_toArray]); (try simp only [List.set_cons_succ]); (try simp only [List.set_cons_zero])
          refine wpAnyH_take (i := 16) (oi := { dst := some 67, op := Op.move (Operand.tmp 7), type := 26, pos := "law.go:107", after := #[{ on := 15, ground := Ground.guard }], guard := some (15, true) }) (v := ?vk17) rfl (by kernel_rfl) (by kernel_rfl) (by kernel_rfl) (fun _ _ _ h => h) (Or.inl ⟨by rfl, ?hk17⟩) (SpO.old U10 S6.out) ?rk17
          case hk17 => (intro wz hSw; (try dsimp only at hSw); go_simp; try with_reducible rfl)
          (try simp only [Act.put]); (try simp only [List.setIfInBounds_toArray]); (try simp only [List.set_cons_succ]); (try simp only [List.set_cons_zero])
          refine wpAnyH_take (i := 17) (oi := { dst := some 68, op := Op.fieldAddr 34 (Operand.tmp 10) 1, type := 0, pos := "law.go:107", after := #[{ on := 15, ground := Ground.guard }], guard := some (15, true) }) (v := ?vk18) rfl (by kernel_rfl) (by kernel_rfl) (by kernel_rfl) (fun _ _ _ h => h) (Or.inl ⟨by rfl, ?hk18⟩) (SpO.old U10 S6.out) ?rk18
          case hk18 => (intro wz hSw; (try dsimp only at hSw); go_simp; try with_reducible rfl)
          (try simp only [Act.put]); (try simp only [List.setIfInBounds_toArray]); (try simp only [List.set_cons_succ]); (try simp only [List.set_cons_zero])
          refine wpAnyH_take (i := 18) (oi := { dst := some 69, op := Op.load 23 (Operand.tmp 68), type := 23, pos := "law.go:107", after := #[{ on := 17, ground := Ground.data }, { on := 15, ground := Ground.guard }], guard := some (15, true) }) (v := ?vk19) rfl (by kernel_rfl) (by kernel_rfl) (by kernel_rfl) (fun _ _ _ h => h) (Or.inl ⟨by rfl, ?hk19⟩) (SpO.old U10 S6.out) ?rk19
          case hk19 => (intro wz hSw; (try dsimp only at hSw); go_simp; try with_reducible rfl)
          (try simp only [Act.put]); (try simp only [List.setIfInBounds_toArray]); (try simp only [List.set_cons_succ]); (try simp only [List.set_cons_zero])
          refine wpAnyH_take (i := 20) (oi := { dst := some 71, op := Op.fieldAddr 34 (Operand.tmp 10) 2, type := 0, pos := "law.go:107", after := #[{ on := 15, ground := Ground.guard }], guard := some (15, true) }) (v := ?vk20) rfl (by kernel_rfl) (by kernel_rfl) (by kernel_rfl) (fun _ _ _ h => h) (Or.inl ⟨by rfl, ?hk20⟩) (SpO.old U10 S6.out) ?rk20
          case hk20 => (intro wz hSw; (try dsimp only at hSw); go_simp; try with_reducible rfl)
          (try simp only [Act.put]); (try simp only [List.setIfInBounds_toArray]); (try simp only [List.set_cons_succ]); (try simp only [List.set_cons_zero])
          refine wpAnyH_take (i := 21) (oi := { dst := some 72, op := Op.load 2 (Operand.tmp 71), type := 2, pos := "law.go:107", after := #[{ on := 20, ground := Ground.data }, { on := 15, ground := Ground.guard }], guard := some (15, true) }) (v := ?vk21) rfl (by kernel_rfl) (by kernel_rfl) (by kernel_rfl) (fun _ _ _ h => h) (Or.inl ⟨by rfl, ?hk21⟩) (SpO.old U10 S6.out) ?rk21
          case hk21 => (intro wz hSw; (try dsimp only at hSw); go_simp; try with_reducible rfl)
          (try simp only [Act.put]); (try simp only [List.setIfInBounds_toArray]); (try simp only [List.set_cons_succ]); (try simp only [List.set_cons_zero])
          refine wpAnyH_ready (rs := [19]) (by kernel_rfl) (by simp) ?_
          refine AllReadyH.cons (o := { dst := some 70, op := Op.call { callee := Callee.value (Operand.func 14), args := #[Operand.tmp 67, Operand.tmp 69], argTypes := #[26, 23] }, type := 2, pos := "law.go:107", after := #[{ on := 16, ground := Ground.data }, { on := 18, ground := Ground.data }, { on := 15, ground := Ground.chain }, { on := 15, ground := Ground.guard }], guard := some (15, true) }) rfl (fun K hK => ?_) AllReadyH.nil
          refine wantCall2 ?_ 14 (.tmp 67) (.tmp 69) #[26, 23] ?_ (.pointer (some ⟨b1, 0, none⟩)) (.float .f64 z.k) ?_ ?_ ?_ (ent_at _ _) ?_
          · rfl
          · rfl
          · rfl
          · rfl
          · rfl
          refine (HA3.out _ U10).mono ?_
          rintro o x22 ⟨rfl, b22⟩
          refine ⟨_, rfl, ?_⟩
          have U22 := U10.trans b22
          refine hK.out _ _ (SpO.old U22 S6.out) (fun _ => ?_)
          clear hK K
          (try simp only [Act.put]); (try simp only [List.setIfInBounds_toArray]); (try simp only [List.set_cons_succ]); (try simp only [List.set_cons_zero])
          refine wpAnyH_take (i := 22) (oi := { dst := some 73, op := Op.binOp BinOp.lss 2 (Operand.tmp 70) (Operand.tmp 72) 2, type := 4, pos := "law.go:107", after := #[{ on := 19, ground := Ground.data }, { on := 21, ground := Ground.data }, { on := 15, ground := Ground.guard }], guard := some (15, true) }) (v := ?vk23) rfl (by kernel_rfl) (by kernel_rfl) (by kernel_rfl) (fun _ _ _ h => h) (Or.inl ⟨by rfl, ?hk23⟩) (SpO.old U22 S6.out) ?rk23
          case hk23 => (intro wz hSw; (try dsimp only at hSw); go_simp; try with_reducible rfl)
          (try simp only [Act.put]); (try simp only [List.setIfInBounds_toArray]); (try simp only [List.set_cons_succ]); (try simp only [List.set_cons_zero])
          refine wpAnyH_take (i := 23) (oi := { dst := some 74, op := Op.pick (Operand.tmp 66) (Operand.tmp 73) (Operand.const (Value.bool false)), type := 4, pos := "law.go:107", after := #[{ on := 15, ground := Ground.data }, { on := 22, ground := Ground.data }, { on := 12, ground := Ground.guard }], guard := some (12, false) }) (v := ?vk24) rfl (by kernel_rfl) (by kernel_rfl) (by kernel_rfl) (fun _ _ _ h => h) (Or.inl ⟨by rfl, ?hk24⟩) (SpO.old U22 S6.out) ?rk24
          case hk24 => (intro wz hSw; (try dsimp only at hSw); go_simp; try with_reducible rfl)
          (try simp only [Act.put]); (try simp only [List.setIfInBounds_toArray]); (try simp only [List.set_cons_succ]); (try simp only [List.set_cons_zero])
          refine wpAnyH_take (i := 24) (oi := { dst := some 75, op := Op.pick (Operand.tmp 63) (Operand.const (Value.bool true)) (Operand.tmp 74), type := 4, pos := "law.go:107", after := #[{ on := 12, ground := Ground.data }, { on := 23, ground := Ground.data }], guard := none }) (v := ?vk25) rfl (by kernel_rfl) (by kernel_rfl) (by kernel_rfl) (fun _ _ _ h => h) (Or.inl ⟨by rfl, ?hk25⟩) (SpO.old U22 S6.out) ?rk25
          case hk25 => (intro wz hSw; (try dsimp only at hSw); go_simp; try with_reducible rfl)
          (try simp only [Act.put]); (try simp only [List.setIfInBounds_toArray]); (try simp only [List.set_cons_succ]); (try simp only [List.set_cons_zero])
          refine wpAnyH_done (by kernel_rfl) ?_ _
          refine NoPanic.normal ?_
          have U9 := hid U22
          have T7 := hid (T6.out.old U9.out)
          have HT27 := hid (HT26.out.old U9.out)
          have U7 := hid (U6.out.trans U9.out)
          clear HA2 HO2 S6 T6 HT26
          generalize x22 = w7 at *
          obtain ⟨d, hd⟩ : ∃ d : Nat, d + k + 1 = N := ⟨N - 1 - k, by omega⟩
          have hdI : (N : Int) - 1 - (k : Int) = (d : Int) := by omega
          have HDK := hid hd
          skip
          obtain ⟨_, a9, c9, e9, _, hc9⟩ := HO.out.old U7.out
          obtain ⟨b9, off9, hsa9, hW9, p0, p1, p2⟩ := hc9 d (by omega)
          simp only [Value.slice.injEq] at e9
          obtain ⟨e91, _, rfl⟩ := e9
          rw [← e91] at hsa9
          simp only [Option.some.injEq, Addr.mk.injEq] at hsa9
          obtain ⟨rfl, rfl, _⟩ := hsa9
          have l3 : (0 : Int) ≤ (d : Int) := by omega
          have l4 : (d : Int) < (N : Int) := by omega
          have l5 : d < N := by omega
          clear hc9 hd e91
          have HPB := hid (put_step f d hW9 (fun i => (i < N ∧ N < i + k + 1) ∧ okO (f i)) (fun i => (i < N ∧ N < i + (k + 1) + 1) ∧ okO (f i)) (fun i => by
            have hd := HDK.out
            constructor
            · rintro ⟨⟨a, b⟩, c⟩
              by_cases e : i = d
              · subst e; exact .inr ⟨rfl, c⟩
              · exact .inl ⟨⟨a, by omega⟩, c⟩
            · rintro (⟨⟨a, b⟩, c⟩ | ⟨rfl, c⟩)
              · exact ⟨⟨a, by omega⟩, c⟩
              · exact ⟨⟨by omega, by omega⟩, c⟩) L2 HG2.out (by have := HN2.out; omega) HH2.out)
          have HW9 := hid hW9
          clear hW9
          generalize hfd : f d = y9 at *
          go_upto_region 14 with fail
          have B8 := hid (op_new w7 y9 _ rfl)
          have U8 := hid ((Old.refl w7).alloc (.cells #[.int .i64 y9.kd, .float .f64 y9.k, .int .i64 y9.n] 34))
          have T8 := hid (T7.out.old U8.out)
          have T28 := hid (HT27.out.old U8.out)
          clear p0 p1 p2
          generalize w7.alloc (.cells #[.int .i64 y9.kd, .float .f64 y9.k, .int .i64 y9.n] 34) = w8 at *
          obtain ⟨p0, p1, p2⟩ := B8.out
          have HP2 := hid (put_any b1 b2 64 y9.n v2 L2 y9.k HW9.out w8 T28.out HG2.out (by have := HN2.out; omega))
          go_wp2_with (go_at_call 12; refine HP2.out.mono ?_; rintro e w9 ⟨v2', rfl, t9, c9, n9⟩; have T9 := hid t9; have C9 := hid c9; have N9 := hid n9; clear t9 c9 n9)
          go_roundw
          case rel =>
            refine ⟨k + 1, hlt, by go_num, v1', L1', v2', _, ⟨T8.out.chg C9.out (fun e => HD6.out _ (mem_blks.2 (.inl rfl)) e) (fun g hg e => HD6.out _ (mem_blks.2 (.inr hg)) e), HPS.out.1, by have := HPS.out.2.1; have := HN1.out; omega, HPS.out.2.2.1⟩, ⟨T9.out, HPB.out.1, by have := HPB.out.2.1; have := HN2.out; omega, HPB.out.2.2.1⟩, fun g hg hg2 => ?_, (U7.out.trans U8.out).below (Below.mono (T28.out.below C9.out) (Nat.le_of_eq hwb))⟩
            have q1 := (T8.out.blk g hg).2
            rcases mem_blks.1 hg2 with e | e
            · exact HD6.out g hg (mem_blks.2 (.inl e))
            · rcases N9.out g e with r | r
              · exact HD6.out g hg (mem_blks.2 (.inr r))
              · omega
          case measure => simp [intOf]; omega
        · have hez2 : (ec == 0) = false := by rw [beq_eq_false_iff_ne]; exact hez
          clear HOK HA3
          refine wp_region_noPanic ?_
          refine wp_region_held_drew (S := SpO sb x y p q ob z) (by kernel_rfl) ?_ (fun hHeld => ?_)
          · exact SpO.old ((Old.refl _).drew) S6.out
          (try simp only [Act.put]); (try simp only [List.setIfInBounds_toArray]); (try simp only [List.set_cons_succ]); (try simp only [List.set_cons_zero])
          clear hHeld
          refine wpAnyH_take (i := 0) (oi := { dst := some 51, op := Op.move (Operand.tmp 7), type := 26, pos := "law.go:107", after := #[], guard := none }) (v := ?vk26) rfl (by kernel_rfl) (by kernel_rfl) (by kernel_rfl) (fun _ _ _ h => h) (Or.inl ⟨by rfl, ?hk26⟩) (SpO.old ((Old.refl w6).drew) S6.out) ?rk26
          case hk26 => (intro wz hSw; (try dsimp only at hSw); go_simp; try with_reducible rfl)
          (try simp only [Act.put]); (try simp only [List.setIfInBounds_toArray]); (try simp only [List.set_cons_succ]); (try simp only [List.set_cons_zero])
          refine wpAnyH_take (i := 1) (oi := { dst := some 52, op := Op.move (Operand.tmp 1), type := 23, pos := "law.go:107", after := #[], guard := none }) (v := ?vk27) rfl (by kernel_rfl) (by kernel_rfl) (by kernel_rfl) (fun _ _ _ h => h) (Or.inl ⟨by rfl, ?hk27⟩) (SpO.old ((Old.refl w6).drew) S6.out) ?rk27
          case hk27 => (intro wz hSw; (try dsimp only at hSw); go_simp; try with_reducible rfl)
          (try simp only [Act.put]); (try simp only [List.setIfInBounds_toArray]); (try simp only [List.set_cons_succ]); (try simp only [List.set_cons_zero])
          refine wpAnyH_take (i := 3) (oi := { dst := some 54, op := Op.move (Operand.tmp 11), type := 2, pos := "law.go:107", after := #[], guard := none }) (v := ?vk28) rfl (by kernel_rfl) (by kernel_rfl) (by kernel_rfl) (fun _ _ _ h => h) (Or.inl ⟨by rfl, ?hk28⟩) (SpO.old ((Old.refl w6).drew) S6.out) ?rk28
          case hk28 => (intro wz hSw; (try dsimp only at hSw); go_simp; try with_reducible rfl)
          (try simp only [Act.put]); (try simp only [List.setIfInBounds_toArray]); (try simp only [List.set_cons_succ]); (try simp only [List.set_cons_zero])
          refine wpAnyH_ready (rs := [2]) (by kernel_rfl) (by simp) ?_
          refine AllReadyH.cons (o := { dst := some 53, op := Op.call { callee := Callee.value (Operand.func 14), args := #[Operand.tmp 51, Operand.tmp 52], argTypes := #[26, 23] }, type := 2, pos := "law.go:107", after := #[{ on := 0, ground := Ground.data }, { on := 1, ground := Ground.data }], guard := none }) rfl (fun K hK => ?_) AllReadyH.nil
          refine wantCall2 ?_ 14 (.tmp 51) (.tmp 52) #[26, 23] ?_ (.pointer (some ⟨b1, 0, none⟩)) (.float .f64 key) ?_ ?_ ?_ (ent_at _ _) ?_
          · rfl
          · rfl
          · rfl
          · rfl
          · rfl
          refine (HA2.out _ ((Old.refl w6).drew)).mono ?_
          rintro o x29 ⟨rfl, b29⟩
          refine ⟨_, rfl, ?_⟩
          have U29 := ((Old.refl w6).drew).trans b29
          refine hK.out _ _ (SpO.old U29 S6.out) (fun _ => ?_)
          clear hK K
          (try simp only [Act.put]); (try simp only [List.setIfInBounds_toArray]); (try simp only [List.set_cons_succ]); (try simp only [List.set_cons_zero])
          refine wpAnyH_take (i := 4) (oi := { dst := some 55, op := Op.binOp BinOp.lss 2 (Operand.tmp 53) (Operand.tmp 54) 2, type := 4, pos := "law.go:107", after := #[{ on := 2, ground := Ground.data }, { on := 3, ground := Ground.data }], guard := none }) (v := ?vk30) rfl (by kernel_rfl) (by kernel_rfl) (by kernel_rfl) (fun _ _ _ h => h) (Or.inl ⟨by rfl, ?hk30⟩) (SpO.old U29 S6.out) ?rk30
          case hk30 => (intro wz hSw; (try dsimp only at hSw); go_simp; try with_reducible rfl)
          (try simp only [Act.put]); (try simp only [List.setIfInBounds_toArray]); (try simp only [List.set_cons_succ]); (try simp only [List.set_cons_zero])
          refine wpAnyH_take (i := 5) (oi := { dst := some 56, op := Op.move (Operand.tmp 55), type := 4, pos := "law.go:107", after := #[{ on := 4, ground := Ground.data }, { on := 2, ground := Ground.chain }], guard := none }) (v := ?vk31) rfl (by kernel_rfl) (by kernel_rfl) (by kernel_rfl) (fun _ _ _ h => h) (Or.inl ⟨by rfl, ?hk31⟩) (SpO.old U29 S6.out) ?rk31
          case hk31 => (intro wz hSw; (try dsimp only at hSw); go_simp; try with_reducible rfl)
          (try simp only [Act.put]); (try simp only [List.setIfInBounds_toArray]); (try simp only [List.set_cons_succ]); (try simp only [List.set_cons_zero])
          refine wpAnyH_take (i := 6) (oi := { dst := some 57, op := Op.move (Operand.tmp 7), type := 26, pos := "law.go:107", after := #[{ on := 5, ground := Ground.guard }], guard := some (5, false) }) (v := ?vk32) rfl (by kernel_rfl) (by kernel_rfl) (by kernel_rfl) (fun _ _ _ h => h) (Or.inl ⟨by rfl, ?hk32⟩) (SpO.old U29 S6.out) ?rk32
          case hk32 => (intro wz hSw; (try dsimp only at hSw); go_simp; try with_reducible rfl)
          (try simp only [Act.put]); (try simp only [List.setIfInBounds_toArray]); (try simp only [List.set_cons_succ]); (try simp only [List.set_cons_zero])
          refine wpAnyH_take (i := 7) (oi := { dst := some 58, op := Op.load 25 (Operand.tmp 5), type := 25, pos := "law.go:107", after := #[{ on := 5, ground := Ground.guard }], guard := some (5, false) }) (v := ?vk33) rfl (by kernel_rfl) (by kernel_rfl) (by kernel_rfl) (fun _ _ _ h => h) (Or.inl ⟨by rfl, ?hk33⟩) (SpO.old U29 S6.out) ?rk33
          case hk33 => (intro wz hSw; (try dsimp only at hSw); go_simp; try with_reducible rfl)
          (try simp only [Act.put]); (try simp only [List.setIfInBounds_toArray]); (try simp only [List.set_cons_succ]); (try simp only [List.set_cons_zero])
          refine wpAnyH_take (i := 9) (oi := { dst := some 60, op := Op.move (Operand.tmp 12), type := 2, pos := "law.go:107", after := #[{ on := 5, ground := Ground.guard }], guard := some (5, false) }) (v := ?vk34) rfl (by kernel_rfl) (by kernel_rfl) (by kernel_rfl) (fun _ _ _ h => h) (Or.inl ⟨by rfl, ?hk34⟩) (SpO.old U29 S6.out) ?rk34
          case hk34 => (intro wz hSw; (try dsimp only at hSw); go_simp; try with_reducible rfl)
          (try simp only [Act.put]); (try simp only [List.setIfInBounds_toArray]); (try simp only [List.set_cons_succ]); (try simp only [List.set_cons_zero])
          refine wpAnyH_ready (rs := [8]) (by kernel_rfl) (by simp) ?_
          refine AllReadyH.cons (o := { dst := some 59, op := Op.call { callee := Callee.value (Operand.func 20), args := #[Operand.tmp 57, Operand.tmp 58], argTypes := #[26, 25] }, type := 2, pos := "law.go:107", after := #[{ on := 6, ground := Ground.data }, { on := 7, ground := Ground.data }, { on := 5, ground := Ground.chain }, { on := 5, ground := Ground.guard }], guard := some (5, false) }) rfl (fun K hK => ?_) AllReadyH.nil
          refine wantCall2 ?_ 20 (.tmp 57) (.tmp 58) #[26, 25] ?_ (.pointer (some ⟨b1, 0, none⟩)) (.agg #[.float .f64 x, .float .f64 y, .bool p, .bool q]) ?_ ?_ ?_ (ent_over _ _) ?_
          · rfl
          · rfl
          · rfl
          · rfl
          · rfl
          refine (HO2.out _ U29).mono ?_
          rintro o x35 ⟨rfl, b35⟩
          refine ⟨_, rfl, ?_⟩
          have U35 := U29.trans b35
          refine hK.out _ _ (SpO.old U35 S6.out) (fun _ => ?_)
          clear hK K
          (try simp only [Act.put]); (try simp only [List.setIfInBounds_toArray]); (try simp only [List.set_cons_succ]); (try simp only [List.set_cons_zero])
          refine wpAnyH_take (i := 10) (oi := { dst := some 61, op := Op.binOp BinOp.lss 2 (Operand.tmp 59) (Operand.tmp 60) 2, type := 4, pos := "law.go:107", after := #[{ on := 8, ground := Ground.data }, { on := 9, ground := Ground.data }, { on := 5, ground := Ground.guard }], guard := some (5, false) }) (v := ?vk36) rfl (by kernel_rfl) (by kernel_rfl) (by kernel_rfl) (fun _ _ _ h => h) (Or.inl ⟨by rfl, ?hk36⟩) (SpO.old U35 S6.out) ?rk36
          case hk36 => (intro wz hSw; (try dsimp only at hSw); go_simp; try with_reducible rfl)
          (try simp only [Act.put]); (try simp only [List.setIfInBounds_toArray]); (try simp only [List.set_cons_succ]); (try simp only [List.set_cons_zero])
          refine wpAnyH_take (i := 11) (oi := { dst := some 62, op := Op.pick (Operand.tmp 56) (Operand.const (Value.bool true)) (Operand.tmp 61), type := 4, pos := "law.go:107", after := #[{ on := 5, ground := Ground.data }, { on := 10, ground := Ground.data }], guard := none }) (v := ?vk37) rfl (by kernel_rfl) (by kernel_rfl) (by kernel_rfl) (fun _ _ _ h => h) (Or.inl ⟨by rfl, ?hk37⟩) (SpO.old U35 S6.out) ?rk37
          case hk37 => (intro wz hSw; (try dsimp only at hSw); go_simp; try with_reducible rfl)
          (try simp only [Act.put]); (try simp only [List.setIfInBounds_toArray]); (try simp only [List.set_cons_succ]); (try simp only [List.set_cons_zero])
          refine wpAnyH_take (i := 12) (oi := { dst := some 63, op := Op.move (Operand.tmp 62), type := 4, pos := "law.go:107", after := #[{ on := 11, ground := Ground.data }, { on := 8, ground := Ground.chain }], guard := none }) (v := ?vk38) rfl (by kernel_rfl) (by kernel_rfl) (by kernel_rfl) (fun _ _ _ h => h) (Or.inl ⟨by rfl, ?hk38⟩) (SpO.old U35 S6.out) ?rk38
          case hk38 => (intro wz hSw; (try dsimp only at hSw); go_simp; try with_reducible rfl)
          (try simp only [Act.put]); (try simp only [List.setIfInBounds_toArray]); (try simp only [List.set_cons_succ]); (try simp only [List.set_cons_zero])
          refine wpAnyH_take (i := 13) (oi := { dst := some 64, op := Op.move (Operand.tmp 13), type := 35, pos := "law.go:107", after := #[{ on := 12, ground := Ground.guard }], guard := some (12, false) }) (v := ?vk39) rfl (by kernel_rfl) (by kernel_rfl) (by kernel_rfl) (fun _ _ _ h => h) (Or.inl ⟨by rfl, ?hk39⟩) (SpO.old U35 S6.out) ?rk39
          case hk39 => (intro wz hSw; (try dsimp only at hSw); go_simp; try with_reducible rfl)
          (try simp only [Act.put]); (try simp only [List.setIfInBounds_toArray]); (try simp only [List.set_cons_succ]); (try simp only [List.set_cons_zero])
          refine wpAnyH_take (i := 14) (oi := { dst := some 65, op := Op.binOp BinOp.eql 35 (Operand.tmp 64) (Operand.const (Value.int IntKind.i64 0)) 35, type := 4, pos := "law.go:107", after := #[{ on := 13, ground := Ground.data }, { on := 12, ground := Ground.guard }], guard := some (12, false) }) (v := ?vk40) rfl (by kernel_rfl) (by kernel_rfl) (by kernel_rfl) (fun _ _ _ h => h) (Or.inl ⟨by rfl, ?hk40⟩) (SpO.old U35 S6.out) ?rk40
          case hk40 => (intro wz hSw; (try dsimp only at hSw); go_simp; try with_reducible rfl)
          (try simp only [Act.put]); (try simp only [List.setIfInBounds_toArray]); (try simp only [List.set_cons_succ]); (try simp only [List.set_cons_zero])
          refine wpAnyH_take (i := 15) (oi := { dst := some 66, op := Op.move (Operand.tmp 65), type := 4, pos := "law.go:107", after := #[{ on := 14, ground := Ground.data }, { on := 12, ground := Ground.chain }, { on := 12, ground := Ground.guard }], guard := some (12, false) }) (v := ?vk41) rfl (by kernel_rfl) (by kernel_rfl) (by kernel_rfl) (fun _ _ _ h => h) (Or.inl ⟨by rfl, ?hk41⟩) (SpO.old U35 S6.out) ?rk41
          case hk41 => (intro wz hSw; (try dsimp only at hSw); go_simp; try with_reducible rfl)
          (try simp only [Act.put]); (try simp only [List.setIfInBounds_toArray]); (try simp only [List.set_cons_succ]); (try simp only [List.set_cons_zero])
          refine wpAnyH_take (i := 16) (oi := { dst := some 67, op := Op.move (Operand.tmp 7), type := 26, pos := "law.go:107", after := #[{ on := 15, ground := Ground.guard }], guard := some (15, true) }) (v := undef) rfl (by kernel_rfl) (by kernel_rfl) (by kernel_rfl) (fun _ _ _ h => h) (Or.inr ⟨by rfl, rfl⟩) (SpO.old U35 S6.out) ?_
          (try simp only [Act.put]); (try simp only [List.setIfInBounds_toArray]); (try simp only [List.set_cons_succ]); (try simp only [List.set_cons_zero])
          refine wpAnyH_take (i := 17) (oi := { dst := some 68, op := Op.fieldAddr 34 (Operand.tmp 10) 1, type := 0, pos := "law.go:107", after := #[{ on := 15, ground := Ground.guard }], guard := some (15, true) }) (v := undef) rfl (by kernel_rfl) (by kernel_rfl) (by kernel_rfl) (fun _ _ _ h => h) (Or.inr ⟨by rfl, rfl⟩) (SpO.old U35 S6.out) ?_
          (try simp only [Act.put]); (try simp only [List.setIfInBounds_toArray]); (try simp only [List.set_cons_succ]); (try simp only [List.set_cons_zero])
          refine wpAnyH_take (i := 18) (oi := { dst := some 69, op := Op.load 23 (Operand.tmp 68), type := 23, pos := "law.go:107", after := #[{ on := 17, ground := Ground.data }, { on := 15, ground := Ground.guard }], guard := some (15, true) }) (v := undef) rfl (by kernel_rfl) (by kernel_rfl) (by kernel_rfl) (fun _ _ _ h => h) (Or.inr ⟨by rfl, rfl⟩) (SpO.old U35 S6.out) ?_
          (try simp only [Act.put]); (try simp only [List.setIfInBounds_toArray]); (try simp only [List.set_cons_succ]); (try simp only [List.set_cons_zero])
          refine wpAnyH_take (i := 19) (oi := { dst := some 70, op := Op.call { callee := Callee.value (Operand.func 14), args := #[Operand.tmp 67, Operand.tmp 69], argTypes := #[26, 23] }, type := 2, pos := "law.go:107", after := #[{ on := 16, ground := Ground.data }, { on := 18, ground := Ground.data }, { on := 15, ground := Ground.chain }, { on := 15, ground := Ground.guard }], guard := some (15, true) }) (v := undef) rfl (by kernel_rfl) (by kernel_rfl) (by kernel_rfl) (fun _ _ _ h => h) (Or.inr ⟨by rfl, rfl⟩) (SpO.old U35 S6.out) ?_
          (try simp only [Act.put]); (try simp only [List.setIfInBounds_toArray]); (try simp only [List.set_cons_succ]); (try simp only [List.set_cons_zero])
          refine wpAnyH_take (i := 20) (oi := { dst := some 71, op := Op.fieldAddr 34 (Operand.tmp 10) 2, type := 0, pos := "law.go:107", after := #[{ on := 15, ground := Ground.guard }], guard := some (15, true) }) (v := undef) rfl (by kernel_rfl) (by kernel_rfl) (by kernel_rfl) (fun _ _ _ h => h) (Or.inr ⟨by rfl, rfl⟩) (SpO.old U35 S6.out) ?_
          (try simp only [Act.put]); (try simp only [List.setIfInBounds_toArray]); (try simp only [List.set_cons_succ]); (try simp only [List.set_cons_zero])
          refine wpAnyH_take (i := 21) (oi := { dst := some 72, op := Op.load 2 (Operand.tmp 71), type := 2, pos := "law.go:107", after := #[{ on := 20, ground := Ground.data }, { on := 15, ground := Ground.guard }], guard := some (15, true) }) (v := undef) rfl (by kernel_rfl) (by kernel_rfl) (by kernel_rfl) (fun _ _ _ h => h) (Or.inr ⟨by rfl, rfl⟩) (SpO.old U35 S6.out) ?_
          (try simp only [Act.put]); (try simp only [List.setIfInBounds_toArray]); (try simp only [List.set_cons_succ]); (try simp only [List.set_cons_zero])
          refine wpAnyH_take (i := 22) (oi := { dst := some 73, op := Op.binOp BinOp.lss 2 (Operand.tmp 70) (Operand.tmp 72) 2, type := 4, pos := "law.go:107", after := #[{ on := 19, ground := Ground.data }, { on := 21, ground := Ground.data }, { on := 15, ground := Ground.guard }], guard := some (15, true) }) (v := undef) rfl (by kernel_rfl) (by kernel_rfl) (by kernel_rfl) (fun _ _ _ h => h) (Or.inr ⟨by rfl, rfl⟩) (SpO.old U35 S6.out) ?_
          (try simp only [Act.put]); (try simp only [List.setIfInBounds_toArray]); (try simp only [List.set_cons_succ]); (try simp only [List.set_cons_zero])
          refine wpAnyH_take (i := 23) (oi := { dst := some 74, op := Op.pick (Operand.tmp 66) (Operand.tmp 73) (Operand.const (Value.bool false)), type := 4, pos := "law.go:107", after := #[{ on := 15, ground := Ground.data }, { on := 22, ground := Ground.data }, { on := 12, ground := Ground.guard }], guard := some (12, false) }) (v := ?vk42) rfl (by kernel_rfl) (by kernel_rfl) (by kernel_rfl) (fun _ _ _ h => h) (Or.inl ⟨by rfl, ?hk42⟩) (SpO.old U35 S6.out) ?rk42
          case hk42 => (intro wz hSw; (try dsimp only at hSw); go_simp; try with_reducible rfl)
          (try simp only [Act.put]); (try simp only [List.setIfInBounds_toArray]); (try simp only [List.set_cons_succ]); (try simp only [List.set_cons_zero])
          refine wpAnyH_take (i := 24) (oi := { dst := some 75, op := Op.pick (Operand.tmp 63) (Operand.const (Value.bool true)) (Operand.tmp 74), type := 4, pos := "law.go:107", after := #[{ on := 12, ground := Ground.data }, { on := 23, ground := Ground.data }], guard := none }) (v := ?vk43) rfl (by kernel_rfl) (by kernel_rfl) (by kernel_rfl) (fun _ _ _ h => h) (Or.inl ⟨by rfl, ?hk43⟩) (SpO.old U35 S6.out) ?rk43
          case hk43 => (intro wz hSw; (try dsimp only at hSw); go_simp; try with_reducible rfl)
          (try simp only [Act.put]); (try simp only [List.setIfInBounds_toArray]); (try simp only [List.set_cons_succ]); (try simp only [List.set_cons_zero])
          refine wpAnyH_done (by kernel_rfl) ?_ _
          refine NoPanic.normal ?_
          have U9 := hid U35
          have T7 := hid (T6.out.old U9.out)
          have HT27 := hid (HT26.out.old U9.out)
          have U7 := hid (U6.out.trans U9.out)
          clear HA2 HO2 S6 T6 HT26
          generalize x35 = w7 at *
          obtain ⟨d, hd⟩ : ∃ d : Nat, d + k + 1 = N := ⟨N - 1 - k, by omega⟩
          have hdI : (N : Int) - 1 - (k : Int) = (d : Int) := by omega
          have HDK := hid hd
          skip
          obtain ⟨_, a9, c9, e9, _, hc9⟩ := HO.out.old U7.out
          obtain ⟨b9, off9, hsa9, hW9, p0, p1, p2⟩ := hc9 d (by omega)
          simp only [Value.slice.injEq] at e9
          obtain ⟨e91, _, rfl⟩ := e9
          rw [← e91] at hsa9
          simp only [Option.some.injEq, Addr.mk.injEq] at hsa9
          obtain ⟨rfl, rfl, _⟩ := hsa9
          have l3 : (0 : Int) ≤ (d : Int) := by omega
          have l4 : (d : Int) < (N : Int) := by omega
          have l5 : d < N := by omega
          clear hc9 hd e91
          have HPB := hid (put_step f d hW9 (fun i => (i < N ∧ N < i + k + 1) ∧ okO (f i)) (fun i => (i < N ∧ N < i + (k + 1) + 1) ∧ okO (f i)) (fun i => by
            have hd := HDK.out
            constructor
            · rintro ⟨⟨a, b⟩, c⟩
              by_cases e : i = d
              · subst e; exact .inr ⟨rfl, c⟩
              · exact .inl ⟨⟨a, by omega⟩, c⟩
            · rintro (⟨⟨a, b⟩, c⟩ | ⟨rfl, c⟩)
              · exact ⟨⟨a, by omega⟩, c⟩
              · exact ⟨⟨by omega, by omega⟩, c⟩) L2 HG2.out (by have := HN2.out; omega) HH2.out)
          have HW9 := hid hW9
          clear hW9
          generalize hfd : f d = y9 at *
          go_upto_region 14 with fail
          have B8 := hid (op_new w7 y9 _ rfl)
          have U8 := hid ((Old.refl w7).alloc (.cells #[.int .i64 y9.kd, .float .f64 y9.k, .int .i64 y9.n] 34))
          have T8 := hid (T7.out.old U8.out)
          have T28 := hid (HT27.out.old U8.out)
          clear p0 p1 p2
          generalize w7.alloc (.cells #[.int .i64 y9.kd, .float .f64 y9.k, .int .i64 y9.n] 34) = w8 at *
          obtain ⟨p0, p1, p2⟩ := B8.out
          have HP2 := hid (put_any b1 b2 64 y9.n v2 L2 y9.k HW9.out w8 T28.out HG2.out (by have := HN2.out; omega))
          go_wp2_with (go_at_call 12; refine HP2.out.mono ?_; rintro e w9 ⟨v2', rfl, t9, c9, n9⟩; have T9 := hid t9; have C9 := hid c9; have N9 := hid n9; clear t9 c9 n9)
          go_roundw
          case rel =>
            refine ⟨k + 1, hlt, by go_num, v1', L1', v2', _, ⟨T8.out.chg C9.out (fun e => HD6.out _ (mem_blks.2 (.inl rfl)) e) (fun g hg e => HD6.out _ (mem_blks.2 (.inr hg)) e), HPS.out.1, by have := HPS.out.2.1; have := HN1.out; omega, HPS.out.2.2.1⟩, ⟨T9.out, HPB.out.1, by have := HPB.out.2.1; have := HN2.out; omega, HPB.out.2.2.1⟩, fun g hg hg2 => ?_, (U7.out.trans U8.out).below (Below.mono (T28.out.below C9.out) (Nat.le_of_eq hwb))⟩
            have q1 := (T8.out.blk g hg).2
            rcases mem_blks.1 hg2 with e | e
            · exact HD6.out g hg (mem_blks.2 (.inl e))
            · rcases N9.out g e with r | r
              · exact HD6.out g hg (mem_blks.2 (.inr r))
              · omega
          case measure => simp [intOf]; omega
      · obtain rfl : k = N := by omega
        have SW := hid (SpAt.old HU.out HS.out)
        have hLL : L1 = L2 := Two.same (w0 := w0) (w := w) (b0 := b1) (b1 := b1) (b2 := b2) (v1 := v1) (v2 := v2) (fun i hi => by obtain ⟨_, _, _, _, _, hc⟩ := HO.out; obtain ⟨_, _, _, q, _⟩ := hc i hi; exact q) HG1.out HG2.out HH1.out HH2.out
        subst hLL
        have hl1 : L1.length ≤ 1000000 := by have := HN1.out; omega
        have HA1 := hid (fun (W : World) (u : Old wr W) => at_any b1 b1 64 v1 L1 key hkey W (HT1.out.old u) HG1.out hl1)
        have HA2 := hid (fun (W : World) (u : Old wr W) => at_any b1 b2 64 v2 L1 key hkey W (HT2.out.old u) HG1.out hl1)
        have HO1 := hid (fun (W : World) (u : Old wr W) => over_any b1 b1 64 v1 L1 x y hx hy p q W (HT1.out.old u) HG1.out hl1)
        have HO2 := hid (fun (W : World) (u : Old wr W) => over_any b1 b2 64 v2 L1 x y hx hy p q W (HT2.out.old u) HG1.out hl1)
        have HL1 := hid (fun (W : World) (u : Old wr W) => (len_any b1 b1 64 v1 L1 W (HT1.out.old u)).mono fun e w' hh => (⟨hh.1, by rw [hh.2]; exact Old.refl _⟩ : _ ∧ Old W w'))
        have HL2 := hid (fun (W : World) (u : Old wr W) => (len_any b1 b2 64 v2 L1 W (HT2.out.old u)).mono fun e w' hh => (⟨hh.1, by rw [hh.2]; exact Old.refl _⟩ : _ ∧ Old W w'))
        generalize atL (Fl.code key) L1 = A at *
        generalize overT (hasB x y p q) L1 L1.length = B at *
        generalize L1.length = LL at *
        go_upto_region 16 with fail
        refine wp_region_noPanic ?_
        refine wp_region_held_drew (S := SpAt sb x y p q) (by kernel_rfl) ?_ (fun hHeld => ?_)
        · exact SpAt.old ((Old.refl _).drew) SW.out
        (try simp only [Act.put]); (try simp only [List.setIfInBounds_toArray]); (try simp only [List.set_cons_succ]); (try simp only [List.set_cons_zero])
        clear hHeld
        refine wpAnyH_take (i := 0) (oi := { dst := some 91, op := Op.move (Operand.tmp 7), type := 26, pos := "law.go:113", after := #[], guard := none }) (v := ?vk50) rfl (by kernel_rfl) (by kernel_rfl) (by kernel_rfl) (fun _ _ _ h => h) (Or.inl ⟨by rfl, ?hk50⟩) (SpAt.old ((Old.refl wr).drew) SW.out) ?rk50
        case hk50 => (intro wz hSw; (try dsimp only at hSw); go_simp; try with_reducible rfl)
        (try simp only [Act.put]); (try simp only [List.setIfInBounds_toArray]); (try simp only [List.set_cons_succ]); (try simp only [List.set_cons_zero])
        refine wpAnyH_take (i := 1) (oi := { dst := some 92, op := Op.move (Operand.tmp 1), type := 23, pos := "law.go:113", after := #[], guard := none }) (v := ?vk51) rfl (by kernel_rfl) (by kernel_rfl) (by kernel_rfl) (fun _ _ _ h => h) (Or.inl ⟨by rfl, ?hk51⟩) (SpAt.old ((Old.refl wr).drew) SW.out) ?rk51
        case hk51 => (intro wz hSw; (try dsimp only at hSw); go_simp; try with_reducible rfl)
        (try simp only [Act.put]); (try simp only [List.setIfInBounds_toArray]); (try simp only [List.set_cons_succ]); (try simp only [List.set_cons_zero])
        refine wpAnyH_take (i := 3) (oi := { dst := some 94, op := Op.move (Operand.tmp 8), type := 26, pos := "law.go:113", after := #[], guard := none }) (v := ?vk52) rfl (by kernel_rfl) (by kernel_rfl) (by kernel_rfl) (fun _ _ _ h => h) (Or.inl ⟨by rfl, ?hk52⟩) (SpAt.old ((Old.refl wr).drew) SW.out) ?rk52
        case hk52 => (intro wz hSw; (try dsimp only at hSw); go_simp; try with_reducible rfl)
        (try simp only [Act.put]); (try simp only [List.setIfInBounds_toArray]); (try simp only [List.set_cons_succ]); (try simp only [List.set_cons_zero])
        refine wpAnyH_take (i := 4) (oi := { dst := some 95, op := Op.move (Operand.tmp 1), type := 23, pos := "law.go:113", after := #[], guard := none }) (v := ?vk53) rfl (by kernel_rfl) (by kernel_rfl) (by kernel_rfl) (fun _ _ _ h => h) (Or.inl ⟨by rfl, ?hk53⟩) (SpAt.old ((Old.refl wr).drew) SW.out) ?rk53
        case hk53 => (intro wz hSw; (try dsimp only at hSw); go_simp; try with_reducible rfl)
        (try simp only [Act.put]); (try simp only [List.setIfInBounds_toArray]); (try simp only [List.set_cons_succ]); (try simp only [List.set_cons_zero])
        refine wpAnyH_ready (rs := [2]) (by kernel_rfl) (by simp) ?_
        refine AllReadyH.cons (o := { dst := some 93, op := Op.call { callee := Callee.value (Operand.func 14), args := #[Operand.tmp 91, Operand.tmp 92], argTypes := #[26, 23] }, type := 2, pos := "law.go:113", after := #[{ on := 0, ground := Ground.data }, { on := 1, ground := Ground.data }], guard := none }) rfl (fun K hK => ?_) AllReadyH.nil
        refine wantCall2 ?_ 14 (.tmp 91) (.tmp 92) #[26, 23] ?_ (.pointer (some ⟨b1, 0, none⟩)) (.float .f64 key) ?_ ?_ ?_ (ent_at _ _) ?_
        · rfl
        · rfl
        · rfl
        · rfl
        · rfl
        refine (HA1.out _ ((Old.refl wr).drew)).mono ?_
        rintro o x54 ⟨rfl, b54⟩
        refine ⟨_, rfl, ?_⟩
        have U54 := ((Old.refl wr).drew).trans b54
        refine hK.out _ _ (SpAt.old U54 SW.out) (fun _ => ?_)
        clear hK K
        (try simp only [Act.put]); (try simp only [List.setIfInBounds_toArray]); (try simp only [List.set_cons_succ]); (try simp only [List.set_cons_zero])
        refine wpAnyH_ready (rs := [5]) (by kernel_rfl) (by simp) ?_
        refine AllReadyH.cons (o := { dst := some 96, op := Op.call { callee := Callee.value (Operand.func 14), args := #[Operand.tmp 94, Operand.tmp 95], argTypes := #[26, 23] }, type := 2, pos := "law.go:113", after := #[{ on := 3, ground := Ground.data }, { on := 4, ground := Ground.data }, { on := 2, ground := Ground.chain }], guard := none }) rfl (fun K hK => ?_) AllReadyH.nil
        refine wantCall2 ?_ 14 (.tmp 94) (.tmp 95) #[26, 23] ?_ (.pointer (some ⟨b2, 0, none⟩)) (.float .f64 key) ?_ ?_ ?_ (ent_at _ _) ?_
        · rfl
        · rfl
        · rfl
        · rfl
        · rfl
        refine (HA2.out _ U54).mono ?_
        rintro o x55 ⟨rfl, b55⟩
        refine ⟨_, rfl, ?_⟩
        have U55 := U54.trans b55
        refine hK.out _ _ (SpAt.old U55 SW.out) (fun _ => ?_)
        clear hK K
        (try simp only [Act.put]); (try simp only [List.setIfInBounds_toArray]); (try simp only [List.set_cons_succ]); (try simp only [List.set_cons_zero])
        refine wpAnyH_take (i := 6) (oi := { dst := some 97, op := Op.binOp BinOp.eql 2 (Operand.tmp 93) (Operand.tmp 96) 2, type := 4, pos := "law.go:113", after := #[{ on := 2, ground := Ground.data }, { on := 5, ground := Ground.data }], guard := none }) (v := ?vk56) rfl (by kernel_rfl) (by kernel_rfl) (by kernel_rfl) (fun _ _ _ h => h) (Or.inl ⟨by rfl, ?hk56⟩) (SpAt.old U55 SW.out) ?rk56
        case hk56 => (intro wz hSw; (try dsimp only at hSw); go_simp; try with_reducible rfl)
        (try simp only [Act.put]); (try simp only [List.setIfInBounds_toArray]); (try simp only [List.set_cons_succ]); (try simp only [List.set_cons_zero])
        refine wpAnyH_take (i := 7) (oi := { dst := some 98, op := Op.move (Operand.tmp 97), type := 4, pos := "law.go:113", after := #[{ on := 6, ground := Ground.data }, { on := 5, ground := Ground.chain }], guard := none }) (v := ?vk57) rfl (by kernel_rfl) (by kernel_rfl) (by kernel_rfl) (fun _ _ _ h => h) (Or.inl ⟨by rfl, ?hk57⟩) (SpAt.old U55 SW.out) ?rk57
        case hk57 => (intro wz hSw; (try dsimp only at hSw); go_simp; try with_reducible rfl)
        (try simp only [Act.put]); (try simp only [List.setIfInBounds_toArray]); (try simp only [List.set_cons_succ]); (try simp only [List.set_cons_zero])
        refine wpAnyH_take (i := 8) (oi := { dst := some 99, op := Op.move (Operand.tmp 7), type := 26, pos := "law.go:113", after := #[{ on := 7, ground := Ground.guard }], guard := some (7, true) }) (v := ?vk58) rfl (by kernel_rfl) (by kernel_rfl) (by kernel_rfl) (fun _ _ _ h => h) (Or.inl ⟨by rfl, ?hk58⟩) (SpAt.old U55 SW.out) ?rk58
        case hk58 => (intro wz hSw; (try dsimp only at hSw); go_simp; try with_reducible rfl)
        (try simp only [Act.put]); (try simp only [List.setIfInBounds_toArray]); (try simp only [List.set_cons_succ]); (try simp only [List.set_cons_zero])
        refine wpAnyH_take (i := 9) (oi := { dst := some 100, op := Op.load 25 (Operand.tmp 5), type := 25, pos := "law.go:113", after := #[{ on := 7, ground := Ground.guard }], guard := some (7, true) }) (v := ?vk59) rfl (by kernel_rfl) (by kernel_rfl) (by kernel_rfl) (fun _ _ _ h => h) (Or.inl ⟨by rfl, ?hk59⟩) (SpAt.old U55 SW.out) ?rk59
        case hk59 => (intro wz hSw; (try dsimp only at hSw); go_simp; try with_reducible rfl)
        (try simp only [Act.put]); (try simp only [List.setIfInBounds_toArray]); (try simp only [List.set_cons_succ]); (try simp only [List.set_cons_zero])
        refine wpAnyH_take (i := 11) (oi := { dst := some 102, op := Op.move (Operand.tmp 8), type := 26, pos := "law.go:113", after := #[{ on := 7, ground := Ground.guard }], guard := some (7, true) }) (v := ?vk60) rfl (by kernel_rfl) (by kernel_rfl) (by kernel_rfl) (fun _ _ _ h => h) (Or.inl ⟨by rfl, ?hk60⟩) (SpAt.old U55 SW.out) ?rk60
        case hk60 => (intro wz hSw; (try dsimp only at hSw); go_simp; try with_reducible rfl)
        (try simp only [Act.put]); (try simp only [List.setIfInBounds_toArray]); (try simp only [List.set_cons_succ]); (try simp only [List.set_cons_zero])
        refine wpAnyH_take (i := 12) (oi := { dst := some 103, op := Op.load 25 (Operand.tmp 5), type := 25, pos := "law.go:113", after := #[{ on := 7, ground := Ground.guard }], guard := some (7, true) }) (v := ?vk61) rfl (by kernel_rfl) (by kernel_rfl) (by kernel_rfl) (fun _ _ _ h => h) (Or.inl ⟨by rfl, ?hk61⟩) (SpAt.old U55 SW.out) ?rk61
        case hk61 => (intro wz hSw; (try dsimp only at hSw); go_simp; try with_reducible rfl)
        (try simp only [Act.put]); (try simp only [List.setIfInBounds_toArray]); (try simp only [List.set_cons_succ]); (try simp only [List.set_cons_zero])
        refine wpAnyH_ready (rs := [10]) (by kernel_rfl) (by simp) ?_
        refine AllReadyH.cons (o := { dst := some 101, op := Op.call { callee := Callee.value (Operand.func 20), args := #[Operand.tmp 99, Operand.tmp 100], argTypes := #[26, 25] }, type := 2, pos := "law.go:113", after := #[{ on := 8, ground := Ground.data }, { on := 9, ground := Ground.data }, { on := 7, ground := Ground.chain }, { on := 7, ground := Ground.guard }], guard := some (7, true) }) rfl (fun K hK => ?_) AllReadyH.nil
        refine wantCall2 ?_ 20 (.tmp 99) (.tmp 100) #[26, 25] ?_ (.pointer (some ⟨b1, 0, none⟩)) (.agg #[.float .f64 x, .float .f64 y, .bool p, .bool q]) ?_ ?_ ?_ (ent_over _ _) ?_
        · rfl
        · rfl
        · rfl
        · rfl
        · rfl
        refine (HO1.out _ U55).mono ?_
        rintro o x62 ⟨rfl, b62⟩
        refine ⟨_, rfl, ?_⟩
        have U62 := U55.trans b62
        refine hK.out _ _ (SpAt.old U62 SW.out) (fun _ => ?_)
        clear hK K
        (try simp only [Act.put]); (try simp only [List.setIfInBounds_toArray]); (try simp only [List.set_cons_succ]); (try simp only [List.set_cons_zero])
        refine wpAnyH_ready (rs := [13]) (by kernel_rfl) (by simp) ?_
        refine AllReadyH.cons (o := { dst := some 104, op := Op.call { callee := Callee.value (Operand.func 20), args := #[Operand.tmp 102, Operand.tmp 103], argTypes := #[26, 25] }, type := 2, pos := "law.go:113", after := #[{ on := 11, ground := Ground.data }, { on := 12, ground := Ground.data }, { on := 10, ground := Ground.chain }, { on := 7, ground := Ground.guard }], guard := some (7, true) }) rfl (fun K hK => ?_) AllReadyH.nil
        refine wantCall2 ?_ 20 (.tmp 102) (.tmp 103) #[26, 25] ?_ (.pointer (some ⟨b2, 0, none⟩)) (.agg #[.float .f64 x, .float .f64 y, .bool p, .bool q]) ?_ ?_ ?_ (ent_over _ _) ?_
        · rfl
        · rfl
        · rfl
        · rfl
        · rfl
        refine (HO2.out _ U62).mono ?_
        rintro o x63 ⟨rfl, b63⟩
        refine ⟨_, rfl, ?_⟩
        have U63 := U62.trans b63
        refine hK.out _ _ (SpAt.old U63 SW.out) (fun _ => ?_)
        clear hK K
        (try simp only [Act.put]); (try simp only [List.setIfInBounds_toArray]); (try simp only [List.set_cons_succ]); (try simp only [List.set_cons_zero])
        refine wpAnyH_take (i := 14) (oi := { dst := some 105, op := Op.binOp BinOp.eql 2 (Operand.tmp 101) (Operand.tmp 104) 2, type := 4, pos := "law.go:113", after := #[{ on := 10, ground := Ground.data }, { on := 13, ground := Ground.data }, { on := 7, ground := Ground.guard }], guard := some (7, true) }) (v := ?vk64) rfl (by kernel_rfl) (by kernel_rfl) (by kernel_rfl) (fun _ _ _ h => h) (Or.inl ⟨by rfl, ?hk64⟩) (SpAt.old U63 SW.out) ?rk64
        case hk64 => (intro wz hSw; (try dsimp only at hSw); go_simp; try with_reducible rfl)
        (try simp only [Act.put]); (try simp only [List.setIfInBounds_toArray]); (try simp only [List.set_cons_succ]); (try simp only [List.set_cons_zero])
        refine wpAnyH_take (i := 15) (oi := { dst := some 106, op := Op.pick (Operand.tmp 98) (Operand.tmp 105) (Operand.const (Value.bool false)), type := 4, pos := "law.go:113", after := #[{ on := 7, ground := Ground.data }, { on := 14, ground := Ground.data }], guard := none }) (v := ?vk65) rfl (by kernel_rfl) (by kernel_rfl) (by kernel_rfl) (fun _ _ _ h => h) (Or.inl ⟨by rfl, ?hk65⟩) (SpAt.old U63 SW.out) ?rk65
        case hk65 => (intro wz hSw; (try dsimp only at hSw); go_simp; try with_reducible rfl)
        (try simp only [Act.put]); (try simp only [List.setIfInBounds_toArray]); (try simp only [List.set_cons_succ]); (try simp only [List.set_cons_zero])
        refine wpAnyH_take (i := 16) (oi := { dst := some 107, op := Op.move (Operand.tmp 106), type := 4, pos := "law.go:113", after := #[{ on := 15, ground := Ground.data }, { on := 13, ground := Ground.chain }], guard := none }) (v := ?vk66) rfl (by kernel_rfl) (by kernel_rfl) (by kernel_rfl) (fun _ _ _ h => h) (Or.inl ⟨by rfl, ?hk66⟩) (SpAt.old U63 SW.out) ?rk66
        case hk66 => (intro wz hSw; (try dsimp only at hSw); go_simp; try with_reducible rfl)
        (try simp only [Act.put]); (try simp only [List.setIfInBounds_toArray]); (try simp only [List.set_cons_succ]); (try simp only [List.set_cons_zero])
        refine wpAnyH_take (i := 17) (oi := { dst := some 108, op := Op.move (Operand.tmp 7), type := 26, pos := "law.go:113", after := #[{ on := 16, ground := Ground.guard }], guard := some (16, true) }) (v := ?vk67) rfl (by kernel_rfl) (by kernel_rfl) (by kernel_rfl) (fun _ _ _ h => h) (Or.inl ⟨by rfl, ?hk67⟩) (SpAt.old U63 SW.out) ?rk67
        case hk67 => (intro wz hSw; (try dsimp only at hSw); go_simp; try with_reducible rfl)
        (try simp only [Act.put]); (try simp only [List.setIfInBounds_toArray]); (try simp only [List.set_cons_succ]); (try simp only [List.set_cons_zero])
        refine wpAnyH_take (i := 19) (oi := { dst := some 110, op := Op.move (Operand.tmp 8), type := 26, pos := "law.go:113", after := #[{ on := 16, ground := Ground.guard }], guard := some (16, true) }) (v := ?vk68) rfl (by kernel_rfl) (by kernel_rfl) (by kernel_rfl) (fun _ _ _ h => h) (Or.inl ⟨by rfl, ?hk68⟩) (SpAt.old U63 SW.out) ?rk68
        case hk68 => (intro wz hSw; (try dsimp only at hSw); go_simp; try with_reducible rfl)
        (try simp only [Act.put]); (try simp only [List.setIfInBounds_toArray]); (try simp only [List.set_cons_succ]); (try simp only [List.set_cons_zero])
        refine wpAnyH_ready (rs := [18]) (by kernel_rfl) (by simp) ?_
        refine AllReadyH.cons (o := { dst := some 109, op := Op.call { callee := Callee.value (Operand.func 19), args := #[Operand.tmp 108], argTypes := #[26] }, type := 3, pos := "law.go:113", after := #[{ on := 17, ground := Ground.data }, { on := 16, ground := Ground.chain }, { on := 16, ground := Ground.guard }], guard := some (16, true) }) rfl (fun K hK => ?_) AllReadyH.nil
        refine wantCall1 ?_ 19 (.tmp 108) #[26] ?_ (.pointer (some ⟨b1, 0, none⟩)) ?_ ?_ (ent_len _ _) ?_
        · rfl
        · rfl
        · rfl
        · rfl
        refine (HL1.out _ U63).mono ?_
        rintro o x69 ⟨rfl, b69⟩
        refine ⟨_, rfl, ?_⟩
        have U69 := U63.trans b69
        refine hK.out _ _ (SpAt.old U69 SW.out) (fun _ => ?_)
        clear hK K
        (try simp only [Act.put]); (try simp only [List.setIfInBounds_toArray]); (try simp only [List.set_cons_succ]); (try simp only [List.set_cons_zero])
        refine wpAnyH_ready (rs := [20]) (by kernel_rfl) (by simp) ?_
        refine AllReadyH.cons (o := { dst := some 111, op := Op.call { callee := Callee.value (Operand.func 19), args := #[Operand.tmp 110], argTypes := #[26] }, type := 3, pos := "law.go:113", after := #[{ on := 19, ground := Ground.data }, { on := 18, ground := Ground.chain }, { on := 16, ground := Ground.guard }], guard := some (16, true) }) rfl (fun K hK => ?_) AllReadyH.nil
        refine wantCall1 ?_ 19 (.tmp 110) #[26] ?_ (.pointer (some ⟨b2, 0, none⟩)) ?_ ?_ (ent_len _ _) ?_
        · rfl
        · rfl
        · rfl
        · rfl
        refine (HL2.out _ U69).mono ?_
        rintro o x70 ⟨rfl, b70⟩
        refine ⟨_, rfl, ?_⟩
        have U70 := U69.trans b70
        refine hK.out _ _ (SpAt.old U70 SW.out) (fun _ => ?_)
        clear hK K
        (try simp only [Act.put]); (try simp only [List.setIfInBounds_toArray]); (try simp only [List.set_cons_succ]); (try simp only [List.set_cons_zero])
        refine wpAnyH_take (i := 21) (oi := { dst := some 112, op := Op.binOp BinOp.eql 3 (Operand.tmp 109) (Operand.tmp 111) 3, type := 4, pos := "law.go:113", after := #[{ on := 18, ground := Ground.data }, { on := 20, ground := Ground.data }, { on := 16, ground := Ground.guard }], guard := some (16, true) }) (v := ?vk71) rfl (by kernel_rfl) (by kernel_rfl) (by kernel_rfl) (fun _ _ _ h => h) (Or.inl ⟨by rfl, ?hk71⟩) (SpAt.old U70 SW.out) ?rk71
        case hk71 => (intro wz hSw; (try dsimp only at hSw); go_simp; try with_reducible rfl)
        (try simp only [Act.put]); (try simp only [List.setIfInBounds_toArray]); (try simp only [List.set_cons_succ]); (try simp only [List.set_cons_zero])
        refine wpAnyH_take (i := 22) (oi := { dst := some 113, op := Op.pick (Operand.tmp 107) (Operand.tmp 112) (Operand.const (Value.bool false)), type := 4, pos := "law.go:113", after := #[{ on := 16, ground := Ground.data }, { on := 21, ground := Ground.data }], guard := none }) (v := ?vk72) rfl (by kernel_rfl) (by kernel_rfl) (by kernel_rfl) (fun _ _ _ h => h) (Or.inl ⟨by rfl, ?hk72⟩) (SpAt.old U70 SW.out) ?rk72
        case hk72 => (intro wz hSw; (try dsimp only at hSw); go_simp; try with_reducible rfl)
        (try simp only [Act.put]); (try simp only [List.setIfInBounds_toArray]); (try simp only [List.set_cons_succ]); (try simp only [List.set_cons_zero])
        refine wpAnyH_ready (rs := [23]) (by kernel_rfl) (by simp) ?_
        refine AllReadyH.cons (o := { dst := some 6, op := Op.assign (Operand.tmp 113), type := 4, pos := "law.go:113", after := #[{ on := 22, ground := Ground.data }, { on := 20, ground := Ground.chain }, { on := 0, ground := Ground.phase }, { on := 1, ground := Ground.phase }, { on := 2, ground := Ground.phase }, { on := 3, ground := Ground.phase }, { on := 4, ground := Ground.phase }, { on := 5, ground := Ground.phase }, { on := 6, ground := Ground.phase }, { on := 7, ground := Ground.phase }, { on := 8, ground := Ground.phase }, { on := 9, ground := Ground.phase }, { on := 10, ground := Ground.phase }, { on := 11, ground := Ground.phase }, { on := 12, ground := Ground.phase }, { on := 13, ground := Ground.phase }, { on := 14, ground := Ground.phase }, { on := 15, ground := Ground.phase }, { on := 16, ground := Ground.phase }, { on := 17, ground := Ground.phase }, { on := 18, ground := Ground.phase }, { on := 19, ground := Ground.phase }, { on := 20, ground := Ground.phase }, { on := 21, ground := Ground.phase }, { on := 22, ground := Ground.phase }], guard := none }) rfl (fun K hK => ?_) AllReadyH.nil
        go_simp
        refine hK.out _ _ (SpAt.old U70 SW.out) (fun _ => ?_)
        clear hK K
        (try simp only [Act.put]); (try simp only [List.setIfInBounds_toArray]); (try simp only [List.set_cons_succ]); (try simp only [List.set_cons_zero])
        refine wpAnyH_done (by kernel_rfl) ?_ _
        refine NoPanic.normal ?_
        have U9 := hid U70
        go_wp2
        go_ret
        exact ⟨rfl, (hV.out.trans HU.out).trans U9.out⟩

end Go.Proofs.Ytbjikfcegiagjaa
