/- The law PredsOrder at every row of calls; no condition. -/
import Derived.Test.YtpmjlphimdhiiaaYn
import Derived.Test.YtpmjlphimdhiiaaRg
namespace Go.Proofs.Ytpmjlphimdhiiaa
open Go.RowKit Go.Lib
set_option linter.unusedVariables false
set_option linter.unusedSimpArgs false
set_option maxRecDepth 20000
theorem ent_cmpS (args : Array Value) (w : World) : (callFunc 15 args).run Try.prog w = .ok (.enter 15 args) w := by kernel_rfl
theorem ent_canS (args : Array Value) (w : World) : (callFunc 17 args).run Try.prog w = .ok (.enter 17 args) w := by kernel_rfl
theorem ent_sameS (args : Array Value) (w : World) : (callFunc 16 args).run Try.prog w = .ok (.enter 16 args) w := by kernel_rfl
/-- The greatest number with which the first calls put a span's form. -/
def mostO (f : Nat → Opv) (x : It) : Nat → Int
  | 0 => 0
  | i + 1 => if 1 ≤ (f i).n ∧ (f i).n ≤ 1099511627776 ∧ cmpP (f i).a (f i).b (f i).p (f i).q x = 0 then max (mostO f x i) (f i).n else mostO f x i
theorem mostO_le (f : Nat → Opv) (x : It) (B : Int) (hB : 0 ≤ B) : ∀ N, (∀ i, i < N → 1 ≤ (f i).n ∧ (f i).n ≤ 1099511627776 ∧ cmpP (f i).a (f i).b (f i).p (f i).q x = 0 → (f i).n ≤ B) → mostO f x N ≤ B
  | 0, _ => hB
  | N + 1, h => by
    have := mostO_le f x B hB N fun i hi => h i (by omega)
    unfold mostO
    split
    · rename_i hk; have := h N (by omega) hk; omega
    · exact this
theorem mostO_ge (f : Nat → Opv) (x : It) : ∀ N i, i < N → 1 ≤ (f i).n ∧ (f i).n ≤ 1099511627776 ∧ cmpP (f i).a (f i).b (f i).p (f i).q x = 0 → (f i).n ≤ mostO f x N
  | 0, i, hi, _ => by omega
  | N + 1, i, hi, hc => by
    unfold mostO
    by_cases e : i = N
    · subst e; rw [if_pos hc]; omega
    · have := mostO_ge f x N i (by omega) hc
      split <;> omega
theorem kc_pos {x : It} (hx : Okp x) : 0 < kc x := by
  have hf := hx.1
  have n1 := Fl.code_pos x.a hf.1 (hf.2.2.2 rfl).2.2.1
  unfold kc
  omega
theorem skc_of {z : Opv} (h : Fl.csE z.a z.b z.p z.q = false) : skc z.a z.b z.p z.q = 18446744073709551616 * Fl.code (Fl.csU z.a z.b z.p z.q) + Fl.code (Fl.csV z.a z.b z.p z.q) := by
  unfold skc
  rw [h, if_neg (by simp)]
theorem most_at (f : Nat → Opv) (N : Nat) (hW : ∀ i, i < N → Fl.W (f i).a ∧ Fl.W (f i).b) (L : List It) (hG : Good L) (hH : Holds (itO f) (fun i => i < N ∧ okO (f i)) L) (x : It) (hx : x ∈ L) : mostO f x N = x.n := by
  have ok := hG.2 x hx
  have h1 : mostO f x N ≤ x.n := by
    refine mostO_le f x _ (by have := ok.2.2.2.1; omega) N fun i hi hc => ?_
    have e := (cmpP_kc _ _ (hW i hi).1 (hW i hi).2 (f i).p (f i).q x ok).2.1 hc.2.2
    have p := kc_pos ok
    have hE : Fl.csE (f i).a (f i).b (f i).p (f i).q = false := by
      cases h : Fl.csE (f i).a (f i).b (f i).p (f i).q
      · rfl
      · unfold skc at e; rw [h, if_pos rfl] at e; omega
    obtain ⟨y, hy, hk, hn⟩ := hH.2 i ⟨hi, hE, by omega⟩
    have : y = x := asc_one hG.1 y hy x hx (by rw [hk, e, skc_of hE]; rfl)
    subst this
    exact hn
  obtain ⟨i, ⟨hi, ho⟩, rfl⟩ := hH.1 x hx
  have h2 := mostO_ge f (itO f i) N i hi ⟨by have := ho.2; omega, by have := ho.2; omega, (cmpP_kc _ _ (hW i hi).1 (hW i hi).2 (f i).p (f i).q _ ok).2.2 (by rw [skc_of ho.1]; rfl)⟩
  have h3 : (itO f i).n = (f i).n := rfl
  omega
theorem cmp_asc {x y : It} (hx : Okp x) (hy : Okp y) (h : kc x < kc y) : cmpP x.a x.b x.p x.q y = -1 := by
  have hf := hx.1
  have c1 := Fl.code_le x.b hf.2.1
  have c2 := Fl.code_le y.b hy.1.2.1
  obtain ⟨e1, e2, e3⟩ := Fl.cs_of_form _ _ _ hf
  unfold kc at h
  unfold cmpP
  rw [hx.2.1, hx.2.2.1, e1, e2, e3]
  unfold Fl.fc
  rw [if_neg (by simp), if_neg (by simp)]
  by_cases h1 : Fl.code x.a < Fl.code y.a
  · rw [if_pos h1]
  · rw [if_neg h1, if_neg (by omega), if_pos (by omega)]
abbrev BxJ (m : Nat) (x : It) (g o : Nat) (y : It) (w : World) : Prop := SpAt m x.a x.b x.p x.q w ∧ w.cell? ⟨g, o, none⟩ = some (.float .f64 y.a) ∧ w.cell? ⟨g, o + 1, none⟩ = some (.float .f64 y.b) ∧ w.cell? ⟨g, o + 2, none⟩ = some (.bool y.p) ∧ w.cell? ⟨g, o + 3, none⟩ = some (.bool y.q)
theorem BxJ.old {m : Nat} {x : It} {g o : Nat} {y : It} {w w' : World} (u : Old w w') (h : BxJ m x g o y w) : BxJ m x g o y w' := ⟨SpAt.old u h.1, u.keep h.2.1, u.keep h.2.2.1, u.keep h.2.2.2.1, u.keep h.2.2.2.2⟩
abbrev BxN (m : Nat) (x : It) (w : World) : Prop := SpAt m x.a x.b x.p x.q w ∧ w.cell? ⟨m, 4, none⟩ = some (.int .i64 x.n)
theorem BxN.old {m : Nat} {x : It} {w w' : World} (u : Old w w') (h : BxN m x w) : BxN m x w' := ⟨SpAt.old u h.1, u.keep h.2⟩
theorem canI_old {x : It} (hx : Okp x) (w : World) : Calls Try.prog 17 #[.agg #[.float .f64 x.a, .float .f64 x.b, .bool x.p, .bool x.q]] w fun e w' => e = .returned (.agg #[.float .f64 x.a, .float .f64 x.b, .bool x.p, .bool x.q]) ∧ Old w w' := by
  rw [hx.2.1, hx.2.2.1]
  exact (canon_form x.a x.b false hx.1 w).mono fun e w' h => ⟨h.1, h.2.old⟩
theorem sameI_old (x : It) (w : World) : Calls Try.prog 16 #[.agg #[.float .f64 x.a, .float .f64 x.b, .bool x.p, .bool x.q], .agg #[.float .f64 x.a, .float .f64 x.b, .bool x.p, .bool x.q]] w fun e w' => e = .returned (.bool true) ∧ Old w w' :=
  (sameSpan_any x.a x.b x.a x.b x.p x.q x.p x.q w).mono fun e w' h => ⟨by rw [h.1]; simp, h.2.old⟩
/-- The table in the middle of the rounds. -/
def One1 (f : Nat → Opv) (b1 : Nat) (w0 : World) (k : Nat) (w : World) : Prop := ∃ v L, TabAt b1 w b1 64 v L ∧ Good L ∧ L.length ≤ k ∧ Holds (itO f) (fun i => i < k ∧ okO (f i)) L ∧ Old w0 w
attribute [local go_sem] run_bits run_frombits run_store_float
set_option maxHeartbeats 8000000 in
set_option maxRecDepth 20000 in
theorem orderLaw (vs : Value) (N0 : Nat) (f : Nat → Opv) (w : World) (h : ORow w vs N0 f) :
    Calls Try.prog 4 #[vs] w fun e w' => e = .returned (.bool true) ∧ Old w w' := by
  have HO0 := hid h
  obtain ⟨hbN, sa, sc, hvs, hsc, _⟩ := h
  subst hvs
  go_enter Try.func4, Try.ntmps4
  go_upto_region 4 with (first | (go_at_call 7; refine (new_any 64 _).mono ?_; rintro e w1 ⟨rfl, t1, u1⟩; have T1 := hid t1; have U1 := hid u1; clear t1 u1) | (go_at_call 8; refine (alive_any _).mono ?_; rintro e w2 ⟨rfl, u2⟩; have T2 := hid (T1.out.old u2); have U2 := hid (U1.out.trans u2); clear u2))
  have hm64 : mostC 64 = 64 := by kernel_rfl
  rw [hm64] at T2
  have HI0 := hid (show One1 f w.heap.size w 0 w2 from ⟨_, [], T2.out, good0, Nat.le_refl _, Holds.nil _ _ (fun i hi => by omega), U2.out⟩)
  clear T1 T2 U1 U2 hm64
  generalize hwb : w.heap.size = b1 at *
  by_cases hN6 : 60 < N0
  · have HO := hid (show ORow w (.slice sa 60 sc) 60 f from by
      obtain ⟨h1, a, c, e, h4, h5⟩ := HO0.out
      simp only [Value.slice.injEq] at e
      obtain ⟨rfl, _, rfl⟩ := e
      exact ⟨by omega, _, _, rfl, by omega, fun i hi => h5 i (by omega)⟩)
    have l60 : (60 : Int) < (N0 : Int) := by omega
    have l61 : (60 : Int) ≤ (sc : Int) := by omega
    have l62 : 60 ≤ sc := by omega
    go_upto_region 6 with fail
    clear HO0 l60 l61 l62 hN6 hsc hbN
    go_wp2
    go_loopw [26] (fun i wr => ∃ k : Nat, k ≤ 60 ∧ i = .int .i64 (k : Nat) ∧ One1 f b1 w k wr) (fun i _ => 60 - (intOf i).toNat)
    case atStart => exact ⟨0, Nat.zero_le _, rfl, HI0.out⟩
    case round =>
      obtain ⟨k, hk, rfl, v1, L1, t1, g1, n1, h1, hu⟩ := hrel
      have HT1 := hid t1
      have HG1 := hid g1
      have HH1 := hid h1
      have HU := hid hu
      have HN1 := hid n1
      clear t1 g1 h1 hu HI0 n1
      by_cases hlt : k < 60
      · obtain ⟨_, a', c', e', _, hc⟩ := HO.out.old HU.out
        obtain ⟨b', off, hsa, hW1, hW2, o0, o1, o2, o3, o4, o5⟩ := hc k hlt
        simp only [Value.slice.injEq] at e'
        obtain ⟨rfl, _, rfl⟩ := e'
        subst hsa
        have l1 : (0 : Int) ≤ (k : Int) := by omega
        have l2 : (k : Int) < (60 : Int) := by omega
        clear hc
        have hW := And.intro hW1 hW2
        have HW := hid hW
        have HPS := hid (put_step f k hW (fun i => i < k ∧ okO (f i)) (fun i => i < k + 1 ∧ okO (f i)) (fun i => by
          constructor
          · rintro ⟨a, b⟩
            by_cases e : i = k
            · subst e; exact .inr ⟨rfl, b⟩
            · exact .inl ⟨by omega, b⟩
          · rintro (⟨a, b⟩ | ⟨rfl, b⟩)
            · exact ⟨by omega, b⟩
            · exact ⟨by omega, b⟩) L1 HG1.out (by have := HN1.out; omega) HH1.out)
        generalize hfk : f k = z at *
        go_upto_region 9 with fail
        have B4 := hid (op_new wr z _ rfl)
        have U4 := hid ((Old.refl wr).alloc (.cells #[.int .i64 z.kd, .float .f64 z.a, .float .f64 z.b, .bool z.p, .bool z.q, .int .i64 z.n] 30))
        have T4 := hid (HT1.out.old U4.out)
        clear o0 o1 o2 o3 o4 o5
        generalize wr.alloc (.cells #[.int .i64 z.kd, .float .f64 z.a, .float .f64 z.b, .bool z.p, .bool z.q, .int .i64 z.n] 30) = w4 at *
        obtain ⟨o0, o1, o2, o3, o4, o5⟩ := B4.out
        have HP := hid (put_any b1 b1 64 z.n v1 L1 z.a z.b z.p z.q HW.out.1 HW.out.2 w4 T4.out HG1.out (by have := HN1.out; omega))
        go_wp2_with (go_at_call 9; refine HP.out.mono ?_; rintro e w5 ⟨v5, rfl, t5, c5, n5⟩; have T5 := hid t5; have U5 := hid ((HU.out.trans U4.out).below (Below.mono (T4.out.below c5) (Nat.le_of_eq hwb))); clear t5 c5 n5)
        go_roundw
        case rel => exact ⟨k + 1, hlt, by go_num, v5, _, T5.out, HPS.out.1, by have := HPS.out.2.1; have := HN1.out; omega, HPS.out.2.2.1, U5.out⟩
        case measure => simp [intOf]; omega
      · obtain rfl : 60 = k := by omega
        have hl1 : L1.length ≤ 1000000 := by have := HN1.out; omega
        go_upto_region 11 with fail
        have HAll := hid (all_any b1 b1 64 v1 L1 wr hl1 HT1.out)
        go_upto_region 12 with (go_at_call 10; refine HAll.out.mono ?_; rintro e w7 ⟨v6, rfl, o6, u6⟩; obtain ⟨a6, c6, hv6⟩ := o6.len; subst hv6; have O6 := hid o6; have U7 := hid (HU.out.trans u6); clear o6 u6)
        have HSh := hid (fun (e : 0 < L1.length) => O6.out.shape e)
        have HMem := hid (fun j (hj : j < L1.length) => HG1.out.at j hj)
        have HAs := hid (fun j (h1 : 0 < j) (h2 : j < L1.length) => cmp_asc (HG1.out.at (j - 1) (by omega)) (HG1.out.at j h2) (by
          have hp := List.pairwise_iff_getElem.1 HG1.out.1 (j - 1) j (by omega) h2 (by omega)
          rw [atI_get L1 _ (by omega), atI_get L1 j h2]
          exact hp))
        have HMo := hid (fun j (hj : j < L1.length) => most_at f _ (fun i hi => by obtain ⟨_, _, _, _, _, hc⟩ := HO.out; obtain ⟨_, _, _, q1, q2, _⟩ := hc i hi; exact ⟨q1, q2⟩) L1 HG1.out HH1.out (atI L1 j) (mem_atI L1 j hj))
        have HO7 := hid (HO.out.old U7.out)
        clear O6 HAll HH1 HT1 HN1 HG1 HU HO
        generalize hM : L1.length = M at *
        have HMz := hid hM
        clear hM
        go_wp2
        go_loopw [41] (fun i wq => ∃ j : Nat, j ≤ M ∧ i = .int .i64 (j : Nat) ∧ Old w7 wq) (fun i _ => M - (intOf i).toNat)
        case atStart => exact ⟨0, Nat.zero_le _, rfl, Old.refl _⟩
        case round =>
          obtain ⟨j, hj, rfl, hu⟩ := hrel
          have HV := hid hu
          clear hu
          by_cases hjt : j < M
          · obtain ⟨g, cap, he, hgb, hgl, hi, hfz⟩ := HSh.out (by omega)
            simp only [Value.slice.injEq] at he
            obtain ⟨rfl, _, rfl⟩ := he
            obtain ⟨c0, c1, c2, c3, c4⟩ := (hi j hjt).old HV.out
            have l1 : (0 : Int) ≤ (j : Int) := by omega
            have l2 : (j : Int) < (M : Int) := by omega
            have HIt := hid (fun i (h : i < M) => (hi i h).old HV.out)
            clear hi hfz
            have HMj := hid (HMem.out j hjt)
            have HMoj := hid (HMo.out j hjt)
            go_upto_region 15 with fail
            have B4 := hid (item_new wr (atI L1 j) _ rfl)
            have U4 := hid ((Old.refl wr).alloc (.cells (itc (atI L1 j)).toArray 37))
            have hwe : wr.alloc (.cells #[.float .f64 (atI L1 j).a, .float .f64 (atI L1 j).b, .bool (atI L1 j).p, .bool (atI L1 j).q, .int .i64 (atI L1 j).n] 37) = wr.alloc (.cells (itc (atI L1 j)).toArray 37) := rfl
            rw [hwe]
            clear hwe c0 c1 c2 c3 c4
            have HIt8 := hid (fun i (h : i < M) => (HIt.out i h).old U4.out)
            clear HIt
            generalize wr.alloc (.cells (itc (atI L1 j)).toArray 37) = w8 at *
            obtain ⟨d0, d1, d2, d3, d4⟩ := B4.out
            generalize wr.heap.size = xb at *
            have HU8 := hid (HV.out.trans U4.out)
            have HBN := hid (show BxN xb (atI L1 j) w8 from ⟨⟨d0, d1, d2, d3⟩, d4⟩)
            have HCn := hid (fun (W : World) (u : Old w8 W) => canI_old HMj.out W)
            have HSm := hid (fun (W : World) (u : Old w8 W) => sameI_old (atI L1 j) W)
            clear B4 d0 d1 d2 d3 d4
            by_cases hj0 : j = 0
            · have hz : ¬ (0 < j) := by omega
              have hz2 : ¬ ((0 : Int) < (j : Int)) := by omega
              have HB := hid HBN.out.1
              clear HIt8 HAs hj0
              generalize hxx : atI L1 j = x at *
              refine wp_region_noPanic ?_
              refine wp_region_held_drew (S := SpAt xb x.a x.b x.p x.q) (by kernel_rfl) ?_ (fun hHeld => ?_)
              · exact SpAt.old ((Old.refl _).drew) HB.out
              (try simp only [Act.put]); (try simp only [List.setIfInBounds_toArray]); (try simp only [List.set_cons_succ]); (try simp only [List.set_cons_zero])
              clear hHeld
              refine wpAnyH_take (i := 0) (oi := { dst := some 46, op := Op.move (Operand.tmp 7), type := 3, pos := "law.go:135", after := #[], guard := none }) (v := ?vk37) rfl (by kernel_rfl) (by kernel_rfl) (by kernel_rfl) (fun _ _ _ h => h) (Or.inl ⟨by rfl, ?hk37⟩) (SpAt.old ((Old.refl w8).drew) HB.out) ?rk37
              case hk37 => (intro wz hSw; (try dsimp only at hSw); go_simp; try with_reducible rfl)
              (try simp only [Act.put]); (try simp only [List.setIfInBounds_toArray]); (try simp only [List.set_cons_succ]); (try simp only [List.set_cons_zero])
              refine wpAnyH_take (i := 1) (oi := { dst := some 47, op := Op.binOp BinOp.gtr 3 (Operand.tmp 46) (Operand.const (Value.int IntKind.i64 0)) 3, type := 4, pos := "law.go:135", after := #[{ on := 0, ground := Ground.data }], guard := none }) (v := ?vk38) rfl (by kernel_rfl) (by kernel_rfl) (by kernel_rfl) (fun _ _ _ h => h) (Or.inl ⟨by rfl, ?hk38⟩) (SpAt.old ((Old.refl w8).drew) HB.out) ?rk38
              case hk38 => (intro wz hSw; (try dsimp only at hSw); go_simp; try with_reducible rfl)
              (try simp only [Act.put]); (try simp only [List.setIfInBounds_toArray]); (try simp only [List.set_cons_succ]); (try simp only [List.set_cons_zero])
              refine wpAnyH_take (i := 2) (oi := { dst := some 48, op := Op.move (Operand.tmp 47), type := 4, pos := "law.go:135", after := #[{ on := 1, ground := Ground.data }], guard := none }) (v := ?vk39) rfl (by kernel_rfl) (by kernel_rfl) (by kernel_rfl) (fun _ _ _ h => h) (Or.inl ⟨by rfl, ?hk39⟩) (SpAt.old ((Old.refl w8).drew) HB.out) ?rk39
              case hk39 => (intro wz hSw; (try dsimp only at hSw); go_simp; try with_reducible rfl)
              (try simp only [Act.put]); (try simp only [List.setIfInBounds_toArray]); (try simp only [List.set_cons_succ]); (try simp only [List.set_cons_zero])
              refine wpAnyH_take (i := 3) (oi := { dst := some 49, op := Op.move (Operand.tmp 6), type := 33, pos := "law.go:135", after := #[{ on := 2, ground := Ground.guard }], guard := some (2, true) }) (v := undef) rfl (by kernel_rfl) (by kernel_rfl) (by kernel_rfl) (fun _ _ _ h => h) (Or.inr ⟨by rfl, rfl⟩) (SpAt.old ((Old.refl w8).drew) HB.out) ?_
              (try simp only [Act.put]); (try simp only [List.setIfInBounds_toArray]); (try simp only [List.set_cons_succ]); (try simp only [List.set_cons_zero])
              refine wpAnyH_take (i := 4) (oi := { dst := some 50, op := Op.move (Operand.tmp 7), type := 3, pos := "law.go:135", after := #[{ on := 2, ground := Ground.guard }], guard := some (2, true) }) (v := undef) rfl (by kernel_rfl) (by kernel_rfl) (by kernel_rfl) (fun _ _ _ h => h) (Or.inr ⟨by rfl, rfl⟩) (SpAt.old ((Old.refl w8).drew) HB.out) ?_
              (try simp only [Act.put]); (try simp only [List.setIfInBounds_toArray]); (try simp only [List.set_cons_succ]); (try simp only [List.set_cons_zero])
              refine wpAnyH_take (i := 5) (oi := { dst := some 51, op := Op.binOp BinOp.sub 3 (Operand.tmp 50) (Operand.const (Value.int IntKind.i64 1)) 3, type := 3, pos := "law.go:135", after := #[{ on := 4, ground := Ground.data }, { on := 2, ground := Ground.guard }], guard := some (2, true) }) (v := undef) rfl (by kernel_rfl) (by kernel_rfl) (by kernel_rfl) (fun _ _ _ h => h) (Or.inr ⟨by rfl, rfl⟩) (SpAt.old ((Old.refl w8).drew) HB.out) ?_
              (try simp only [Act.put]); (try simp only [List.setIfInBounds_toArray]); (try simp only [List.set_cons_succ]); (try simp only [List.set_cons_zero])
              refine wpAnyH_take (i := 6) (oi := { dst := some 52, op := Op.indexAddr 33 (Operand.tmp 49) (Operand.tmp 51), type := 0, pos := "law.go:135", after := #[{ on := 3, ground := Ground.data }, { on := 5, ground := Ground.data }, { on := 2, ground := Ground.guard }], guard := some (2, true) }) (v := undef) rfl (by kernel_rfl) (by kernel_rfl) (by kernel_rfl) (fun _ _ _ h => h) (Or.inr ⟨by rfl, rfl⟩) (SpAt.old ((Old.refl w8).drew) HB.out) ?_
              (try simp only [Act.put]); (try simp only [List.setIfInBounds_toArray]); (try simp only [List.set_cons_succ]); (try simp only [List.set_cons_zero])
              refine wpAnyH_take (i := 7) (oi := { dst := some 53, op := Op.fieldAddr 37 (Operand.tmp 52) 0, type := 0, pos := "law.go:135", after := #[{ on := 6, ground := Ground.data }, { on := 2, ground := Ground.guard }], guard := some (2, true) }) (v := undef) rfl (by kernel_rfl) (by kernel_rfl) (by kernel_rfl) (fun _ _ _ h => h) (Or.inr ⟨by rfl, rfl⟩) (SpAt.old ((Old.refl w8).drew) HB.out) ?_
              (try simp only [Act.put]); (try simp only [List.setIfInBounds_toArray]); (try simp only [List.set_cons_succ]); (try simp only [List.set_cons_zero])
              refine wpAnyH_take (i := 8) (oi := { dst := some 54, op := Op.load 28 (Operand.tmp 53), type := 28, pos := "law.go:135", after := #[{ on := 7, ground := Ground.data }, { on := 2, ground := Ground.guard }], guard := some (2, true) }) (v := undef) rfl (by kernel_rfl) (by kernel_rfl) (by kernel_rfl) (fun _ _ _ h => h) (Or.inr ⟨by rfl, rfl⟩) (SpAt.old ((Old.refl w8).drew) HB.out) ?_
              (try simp only [Act.put]); (try simp only [List.setIfInBounds_toArray]); (try simp only [List.set_cons_succ]); (try simp only [List.set_cons_zero])
              refine wpAnyH_take (i := 9) (oi := { dst := some 55, op := Op.fieldAddr 37 (Operand.tmp 8) 0, type := 0, pos := "law.go:135", after := #[{ on := 2, ground := Ground.guard }], guard := some (2, true) }) (v := undef) rfl (by kernel_rfl) (by kernel_rfl) (by kernel_rfl) (fun _ _ _ h => h) (Or.inr ⟨by rfl, rfl⟩) (SpAt.old ((Old.refl w8).drew) HB.out) ?_
              (try simp only [Act.put]); (try simp only [List.setIfInBounds_toArray]); (try simp only [List.set_cons_succ]); (try simp only [List.set_cons_zero])
              refine wpAnyH_take (i := 10) (oi := { dst := some 56, op := Op.load 28 (Operand.tmp 55), type := 28, pos := "law.go:135", after := #[{ on := 9, ground := Ground.data }, { on := 2, ground := Ground.guard }], guard := some (2, true) }) (v := undef) rfl (by kernel_rfl) (by kernel_rfl) (by kernel_rfl) (fun _ _ _ h => h) (Or.inr ⟨by rfl, rfl⟩) (SpAt.old ((Old.refl w8).drew) HB.out) ?_
              (try simp only [Act.put]); (try simp only [List.setIfInBounds_toArray]); (try simp only [List.set_cons_succ]); (try simp only [List.set_cons_zero])
              refine wpAnyH_take (i := 11) (oi := { dst := some 57, op := Op.call { callee := Callee.value (Operand.func 15), args := #[Operand.tmp 54, Operand.tmp 56], argTypes := #[28, 28] }, type := 3, pos := "law.go:135", after := #[{ on := 8, ground := Ground.data }, { on := 10, ground := Ground.data }, { on := 2, ground := Ground.chain }, { on := 2, ground := Ground.guard }], guard := some (2, true) }) (v := undef) rfl (by kernel_rfl) (by kernel_rfl) (by kernel_rfl) (fun _ _ _ h => h) (Or.inr ⟨by rfl, rfl⟩) (SpAt.old ((Old.refl w8).drew) HB.out) ?_
              (try simp only [Act.put]); (try simp only [List.setIfInBounds_toArray]); (try simp only [List.set_cons_succ]); (try simp only [List.set_cons_zero])
              refine wpAnyH_take (i := 12) (oi := { dst := some 58, op := Op.binOp BinOp.geq 3 (Operand.tmp 57) (Operand.const (Value.int IntKind.i64 0)) 3, type := 4, pos := "law.go:135", after := #[{ on := 11, ground := Ground.data }, { on := 2, ground := Ground.guard }], guard := some (2, true) }) (v := undef) rfl (by kernel_rfl) (by kernel_rfl) (by kernel_rfl) (fun _ _ _ h => h) (Or.inr ⟨by rfl, rfl⟩) (SpAt.old ((Old.refl w8).drew) HB.out) ?_
              (try simp only [Act.put]); (try simp only [List.setIfInBounds_toArray]); (try simp only [List.set_cons_succ]); (try simp only [List.set_cons_zero])
              refine wpAnyH_take (i := 13) (oi := { dst := some 59, op := Op.pick (Operand.tmp 48) (Operand.tmp 58) (Operand.const (Value.bool false)), type := 4, pos := "law.go:135", after := #[{ on := 2, ground := Ground.data }, { on := 12, ground := Ground.data }], guard := none }) (v := ?vk40) rfl (by kernel_rfl) (by kernel_rfl) (by kernel_rfl) (fun _ _ _ h => h) (Or.inl ⟨by rfl, ?hk40⟩) (SpAt.old ((Old.refl w8).drew) HB.out) ?rk40
              case hk40 => (intro wz hSw; (try dsimp only at hSw); go_simp; try with_reducible rfl)
              (try simp only [Act.put]); (try simp only [List.setIfInBounds_toArray]); (try simp only [List.set_cons_succ]); (try simp only [List.set_cons_zero])
              refine wpAnyH_take (i := 14) (oi := { dst := some 60, op := Op.move (Operand.tmp 59), type := 4, pos := "law.go:135", after := #[{ on := 13, ground := Ground.data }, { on := 11, ground := Ground.chain }], guard := none }) (v := ?vk41) rfl (by kernel_rfl) (by kernel_rfl) (by kernel_rfl) (fun _ _ _ h => h) (Or.inl ⟨by rfl, ?hk41⟩) (SpAt.old ((Old.refl w8).drew) HB.out) ?rk41
              case hk41 => (intro wz hSw; (try dsimp only at hSw); go_simp; try with_reducible rfl)
              (try simp only [Act.put]); (try simp only [List.setIfInBounds_toArray]); (try simp only [List.set_cons_succ]); (try simp only [List.set_cons_zero])
              refine wpAnyH_take (i := 15) (oi := { dst := some 61, op := Op.fieldAddr 37 (Operand.tmp 8) 0, type := 0, pos := "law.go:135", after := #[{ on := 14, ground := Ground.guard }], guard := some (14, false) }) (v := ?vk42) rfl (by kernel_rfl) (by kernel_rfl) (by kernel_rfl) (fun _ _ _ h => h) (Or.inl ⟨by rfl, ?hk42⟩) (SpAt.old ((Old.refl w8).drew) HB.out) ?rk42
              case hk42 => (intro wz hSw; (try dsimp only at hSw); go_simp; try with_reducible rfl)
              (try simp only [Act.put]); (try simp only [List.setIfInBounds_toArray]); (try simp only [List.set_cons_succ]); (try simp only [List.set_cons_zero])
              refine wpAnyH_take (i := 16) (oi := { dst := some 62, op := Op.load 28 (Operand.tmp 61), type := 28, pos := "law.go:135", after := #[{ on := 15, ground := Ground.data }, { on := 14, ground := Ground.guard }], guard := some (14, false) }) (v := ?vk43) rfl (by kernel_rfl) (by kernel_rfl) (by kernel_rfl) (fun _ _ _ h => h) (Or.inl ⟨by rfl, ?hk43⟩) (SpAt.old ((Old.refl w8).drew) HB.out) ?rk43
              case hk43 => (intro wz hSw; (try dsimp only at hSw); go_simp; try with_reducible rfl)
              (try simp only [Act.put]); (try simp only [List.setIfInBounds_toArray]); (try simp only [List.set_cons_succ]); (try simp only [List.set_cons_zero])
              refine wpAnyH_take (i := 18) (oi := { dst := some 64, op := Op.fieldAddr 37 (Operand.tmp 8) 0, type := 0, pos := "law.go:135", after := #[{ on := 14, ground := Ground.guard }], guard := some (14, false) }) (v := ?vk44) rfl (by kernel_rfl) (by kernel_rfl) (by kernel_rfl) (fun _ _ _ h => h) (Or.inl ⟨by rfl, ?hk44⟩) (SpAt.old ((Old.refl w8).drew) HB.out) ?rk44
              case hk44 => (intro wz hSw; (try dsimp only at hSw); go_simp; try with_reducible rfl)
              (try simp only [Act.put]); (try simp only [List.setIfInBounds_toArray]); (try simp only [List.set_cons_succ]); (try simp only [List.set_cons_zero])
              refine wpAnyH_take (i := 19) (oi := { dst := some 65, op := Op.load 28 (Operand.tmp 64), type := 28, pos := "law.go:135", after := #[{ on := 18, ground := Ground.data }, { on := 14, ground := Ground.guard }], guard := some (14, false) }) (v := ?vk45) rfl (by kernel_rfl) (by kernel_rfl) (by kernel_rfl) (fun _ _ _ h => h) (Or.inl ⟨by rfl, ?hk45⟩) (SpAt.old ((Old.refl w8).drew) HB.out) ?rk45
              case hk45 => (intro wz hSw; (try dsimp only at hSw); go_simp; try with_reducible rfl)
              (try simp only [Act.put]); (try simp only [List.setIfInBounds_toArray]); (try simp only [List.set_cons_succ]); (try simp only [List.set_cons_zero])
              refine wpAnyH_ready (rs := [17]) (by kernel_rfl) (by simp) ?_
              refine AllReadyH.cons (o := { dst := some 63, op := Op.call { callee := Callee.value (Operand.func 17), args := #[Operand.tmp 62], argTypes := #[28] }, type := 28, pos := "law.go:135", after := #[{ on := 16, ground := Ground.data }, { on := 14, ground := Ground.chain }, { on := 14, ground := Ground.guard }], guard := some (14, false) }) rfl (fun K hK => ?_) AllReadyH.nil
              refine wantCall1 ?_ 17 (.tmp 62) #[28] ?_ (.agg #[.float .f64 x.a, .float .f64 x.b, .bool x.p, .bool x.q]) ?_ ?_ (ent_canS _ _) ?_
              · rfl
              · rfl
              · rfl
              · rfl
              refine (HCn.out _ ((Old.refl w8).drew)).mono ?_
              rintro o x46 ⟨rfl, b46⟩
              refine ⟨_, rfl, ?_⟩
              have U46 := ((Old.refl w8).drew).trans b46
              refine hK.out _ _ (SpAt.old U46 HB.out) (fun _ => ?_)
              clear hK K
              (try simp only [Act.put]); (try simp only [List.setIfInBounds_toArray]); (try simp only [List.set_cons_succ]); (try simp only [List.set_cons_zero])
              refine wpAnyH_ready (rs := [20]) (by kernel_rfl) (by simp) ?_
              refine AllReadyH.cons (o := { dst := some 66, op := Op.call { callee := Callee.value (Operand.func 16), args := #[Operand.tmp 63, Operand.tmp 65], argTypes := #[28, 28] }, type := 4, pos := "law.go:135", after := #[{ on := 17, ground := Ground.data }, { on := 19, ground := Ground.data }, { on := 17, ground := Ground.chain }, { on := 14, ground := Ground.guard }], guard := some (14, false) }) rfl (fun K hK => ?_) AllReadyH.nil
              refine wantCall2 ?_ 16 (.tmp 63) (.tmp 65) #[28, 28] ?_ (.agg #[.float .f64 x.a, .float .f64 x.b, .bool x.p, .bool x.q]) (.agg #[.float .f64 x.a, .float .f64 x.b, .bool x.p, .bool x.q]) ?_ ?_ ?_ (ent_sameS _ _) ?_
              · rfl
              · rfl
              · rfl
              · rfl
              · rfl
              refine (HSm.out _ U46).mono ?_
              rintro o x47 ⟨rfl, b47⟩
              refine ⟨_, rfl, ?_⟩
              have U47 := U46.trans b47
              refine hK.out _ _ (SpAt.old U47 HB.out) (fun _ => ?_)
              clear hK K
              (try simp only [Act.put]); (try simp only [List.setIfInBounds_toArray]); (try simp only [List.set_cons_succ]); (try simp only [List.set_cons_zero])
              refine wpAnyH_take (i := 21) (oi := { dst := some 67, op := Op.unOp UnOp.not 4 (Operand.tmp 66), type := 4, pos := "law.go:135", after := #[{ on := 20, ground := Ground.data }, { on := 14, ground := Ground.guard }], guard := some (14, false) }) (v := ?vk48) rfl (by kernel_rfl) (by kernel_rfl) (by kernel_rfl) (fun _ _ _ h => h) (Or.inl ⟨by rfl, ?hk48⟩) (SpAt.old U47 HB.out) ?rk48
              case hk48 => (intro wz hSw; (try dsimp only at hSw); go_simp; try with_reducible rfl)
              (try simp only [Act.put]); (try simp only [List.setIfInBounds_toArray]); (try simp only [List.set_cons_succ]); (try simp only [List.set_cons_zero])
              refine wpAnyH_take (i := 22) (oi := { dst := some 68, op := Op.pick (Operand.tmp 60) (Operand.const (Value.bool true)) (Operand.tmp 67), type := 4, pos := "law.go:135", after := #[{ on := 14, ground := Ground.data }, { on := 21, ground := Ground.data }], guard := none }) (v := ?vk49) rfl (by kernel_rfl) (by kernel_rfl) (by kernel_rfl) (fun _ _ _ h => h) (Or.inl ⟨by rfl, ?hk49⟩) (SpAt.old U47 HB.out) ?rk49
              case hk49 => (intro wz hSw; (try dsimp only at hSw); go_simp; try with_reducible rfl)
              (try simp only [Act.put]); (try simp only [List.setIfInBounds_toArray]); (try simp only [List.set_cons_succ]); (try simp only [List.set_cons_zero])
              refine wpAnyH_done (by kernel_rfl) ?_ _
              refine NoPanic.normal ?_
              have U9 := hid U47
              have HBN9 := hid (BxN.old U9.out HBN.out)
              have HO9 := hid (HO7.out.old (HU8.out.trans U9.out))
              have HU9 := hid (HU8.out.trans U9.out)
              clear HB HCn HSm HBN hxx
              generalize x47 = w10 at *
              go_wp2
              go_loopw [9, 71] (fun r i wq => ∃ t : Nat, t ≤ 60 ∧ i = .int .i64 (t : Nat) ∧ r = .int .i64 (mostO f x t) ∧ Old w10 wq) (fun r i _ => 60 - (intOf i).toNat)
              case atStart => exact ⟨0, Nat.zero_le _, rfl, rfl, Old.refl _⟩
              case round =>
                obtain ⟨t, ht, rfl, rfl, hu⟩ := hrel
                have HQ := hid hu
                clear hu
                by_cases htt : t < 60
                · obtain ⟨_, a', c', e', _, hc⟩ := HO9.out.old HQ.out
                  obtain ⟨b', off, hsa, hW1, hW2, o0, o1, o2, o3, o4, o5⟩ := hc t htt
                  simp only [Value.slice.injEq] at e'
                  obtain ⟨rfl, _, rfl⟩ := e'
                  subst hsa
                  have m1 : (0 : Int) ≤ (t : Int) := by omega
                  have m2 : (t : Int) < (60 : Int) := by omega
                  clear hc
                  have HST := hid (show mostO f x (t + 1) = if 1 ≤ (f t).n ∧ (f t).n ≤ 1099511627776 ∧ cmpP (f t).a (f t).b (f t).p (f t).q x = 0 then max (mostO f x t) (f t).n else mostO f x t from rfl)
                  generalize mostO f x t = r at *
                  have HCc := hid (fun W => cmpS_old (f t).a (f t).b hW1 hW2 (f t).p (f t).q x HMj.out W)
                  generalize f t = z at *
                  generalize cmpP z.a z.b z.p z.q x = cc at *
                  go_upto_region 21 with fail
                  have B5 := hid (op_new wr z _ rfl)
                  have U5 := hid ((Old.refl wr).alloc (.cells #[.int .i64 z.kd, .float .f64 z.a, .float .f64 z.b, .bool z.p, .bool z.q, .int .i64 z.n] 30))
                  clear o0 o1 o2 o3 o4 o5
                  generalize wr.alloc (.cells #[.int .i64 z.kd, .float .f64 z.a, .float .f64 z.b, .bool z.p, .bool z.q, .int .i64 z.n] 30) = w11 at *
                  obtain ⟨o0, o1, o2, o3, o4, o5⟩ := B5.out
                  have HU11 := hid (HQ.out.trans U5.out)
                  obtain ⟨⟨d0, d1, d2, d3⟩, d4⟩ := BxN.old HU11.out HBN9.out
                  clear B5 hW1 hW2
                  by_cases k1 : 1 ≤ z.n
                  · by_cases k2 : z.n ≤ 1099511627776
                    · by_cases k3 : cc = 0
                      · have HST2 := hid (HST.out.trans (if_pos ⟨k1, k2, k3⟩))
                        clear HST
                        subst k3
                        go_upto_region 22 with (go_at_call 15; refine (HCc.out _).mono ?_; rintro e w12 ⟨rfl, u12⟩; have U12 := hid u12; clear u12)
                        have o5' := U12.out.keep o5
                        go_wp2
                        go_roundw
                        case rel => exact ⟨t + 1, htt, by go_num, by rw [HST2.out]; congr 1; omega, HU11.out.trans U12.out⟩
                        case measure => simp [intOf]; omega
                      · have HST2 := hid (HST.out.trans (if_neg (fun q => k3 q.2.2)))
                        have k4 : (cc == 0) = false := by rw [beq_eq_false_iff_ne]; exact k3
                        clear HST
                        go_wp2_with (go_at_call 15; refine (HCc.out _).mono ?_; rintro e w12 ⟨rfl, u12⟩; have U12 := hid u12; clear u12)
                        go_roundw
                        case rel => exact ⟨t + 1, htt, by go_num, by rw [HST2.out], HU11.out.trans U12.out⟩
                        case measure => simp [intOf]; omega
                    · have HST2 := hid (HST.out.trans (if_neg (fun q => k2 q.2.1)))
                      clear HST
                      go_wp2
                      go_roundw
                      case rel => exact ⟨t + 1, htt, by go_num, by rw [HST2.out], HU11.out⟩
                      case measure => simp [intOf]; omega
                  · have HST2 := hid (HST.out.trans (if_neg (fun q => k1 q.1)))
                    clear HST
                    go_wp2
                    go_roundw
                    case rel => exact ⟨t + 1, htt, by go_num, by rw [HST2.out], HU11.out⟩
                    case measure => simp [intOf]; omega
                · obtain rfl : 60 = t := by omega
                  have hmo := HMoj.out
                  obtain ⟨⟨d0, d1, d2, d3⟩, d4⟩ := BxN.old HQ.out HBN9.out
                  have HQ2 := hid (HU9.out.trans HQ.out)
                  rw [hmo]
                  clear hmo HMoj
                  go_wp2
                  go_roundw
                  case rel => exact ⟨j + 1, hjt, by go_num, HQ2.out⟩
                  case measure => simp [intOf]; omega
            · have hz : (0 : Int) < (j : Int) := by omega
              have hz2 : 0 < j := by omega
              have HB := hid (show BxJ xb (atI L1 j) g ((j - 1) * 5) (atI L1 (j - 1)) w8 from by
                obtain ⟨q0, q1, q2, q3, _⟩ := HIt8.out (j - 1) (by omega)
                exact ⟨HBN.out.1, q0, q1, q2, q3⟩)
              have HCm := hid (fun (W : World) (u : Old w8 W) => cmpS_old (atI L1 (j - 1)).a (atI L1 (j - 1)).b (HMem.out (j - 1) (by omega)).1.1 (HMem.out (j - 1) (by omega)).1.2.1 (atI L1 (j - 1)).p (atI L1 (j - 1)).q (atI L1 j) HMj.out W)
              rw [HAs.out j (by omega) hjt] at HCm
              have hw1 : IntKind.i64.wrap ((j : Int) - 1) = ((j - 1 : Nat) : Int) := by rw [IntKind.wrap_i64]; omega
              have hl3 : ((j - 1 : Nat) : Int) < (M : Int) := by omega
              clear HIt8 HAs hj0
              generalize hxx : atI L1 j = x at *
              generalize hyy : atI L1 (j - 1) = y at *
              refine wp_region_noPanic ?_
              refine wp_region_held_drew (S := BxJ xb x g ((j - 1) * 5) y) (by kernel_rfl) ?_ (fun hHeld => ?_)
              · exact BxJ.old ((Old.refl _).drew) HB.out
              (try simp only [Act.put]); (try simp only [List.setIfInBounds_toArray]); (try simp only [List.set_cons_succ]); (try simp only [List.set_cons_zero])
              clear hHeld
              refine wpAnyH_take (i := 0) (oi := { dst := some 46, op := Op.move (Operand.tmp 7), type := 3, pos := "law.go:135", after := #[], guard := none }) (v := ?vk50) rfl (by kernel_rfl) (by kernel_rfl) (by kernel_rfl) (fun _ _ _ h => h) (Or.inl ⟨by rfl, ?hk50⟩) (BxJ.old ((Old.refl w8).drew) HB.out) ?rk50
              case hk50 => (intro wz hSw; (try dsimp only at hSw); go_simp; try with_reducible rfl)
              (try simp only [Act.put]); (try simp only [List.setIfInBounds_toArray]); (try simp only [List.set_cons_succ]); (try simp only [List.set_cons_zero])
              refine wpAnyH_take (i := 1) (oi := { dst := some 47, op := Op.binOp BinOp.gtr 3 (Operand.tmp 46) (Operand.const (Value.int IntKind.i64 0)) 3, type := 4, pos := "law.go:135", after := #[{ on := 0, ground := Ground.data }], guard := none }) (v := ?vk51) rfl (by kernel_rfl) (by kernel_rfl) (by kernel_rfl) (fun _ _ _ h => h) (Or.inl ⟨by rfl, ?hk51⟩) (BxJ.old ((Old.refl w8).drew) HB.out) ?rk51
              case hk51 => (intro wz hSw; (try dsimp only at hSw); go_simp; try with_reducible rfl)
              (try simp only [Act.put]); (try simp only [List.setIfInBounds_toArray]); (try simp only [List.set_cons_succ]); (try simp only [List.set_cons_zero])
              refine wpAnyH_take (i := 2) (oi := { dst := some 48, op := Op.move (Operand.tmp 47), type := 4, pos := "law.go:135", after := #[{ on := 1, ground := Ground.data }], guard := none }) (v := ?vk52) rfl (by kernel_rfl) (by kernel_rfl) (by kernel_rfl) (fun _ _ _ h => h) (Or.inl ⟨by rfl, ?hk52⟩) (BxJ.old ((Old.refl w8).drew) HB.out) ?rk52
              case hk52 => (intro wz hSw; (try dsimp only at hSw); go_simp; try with_reducible rfl)
              (try simp only [Act.put]); (try simp only [List.setIfInBounds_toArray]); (try simp only [List.set_cons_succ]); (try simp only [List.set_cons_zero])
              refine wpAnyH_take (i := 3) (oi := { dst := some 49, op := Op.move (Operand.tmp 6), type := 33, pos := "law.go:135", after := #[{ on := 2, ground := Ground.guard }], guard := some (2, true) }) (v := ?vk53) rfl (by kernel_rfl) (by kernel_rfl) (by kernel_rfl) (fun _ _ _ h => h) (Or.inl ⟨by rfl, ?hk53⟩) (BxJ.old ((Old.refl w8).drew) HB.out) ?rk53
              case hk53 => (intro wz hSw; (try dsimp only at hSw); go_simp; try with_reducible rfl)
              (try simp only [Act.put]); (try simp only [List.setIfInBounds_toArray]); (try simp only [List.set_cons_succ]); (try simp only [List.set_cons_zero])
              refine wpAnyH_take (i := 4) (oi := { dst := some 50, op := Op.move (Operand.tmp 7), type := 3, pos := "law.go:135", after := #[{ on := 2, ground := Ground.guard }], guard := some (2, true) }) (v := ?vk54) rfl (by kernel_rfl) (by kernel_rfl) (by kernel_rfl) (fun _ _ _ h => h) (Or.inl ⟨by rfl, ?hk54⟩) (BxJ.old ((Old.refl w8).drew) HB.out) ?rk54
              case hk54 => (intro wz hSw; (try dsimp only at hSw); go_simp; try with_reducible rfl)
              (try simp only [Act.put]); (try simp only [List.setIfInBounds_toArray]); (try simp only [List.set_cons_succ]); (try simp only [List.set_cons_zero])
              refine wpAnyH_take (i := 5) (oi := { dst := some 51, op := Op.binOp BinOp.sub 3 (Operand.tmp 50) (Operand.const (Value.int IntKind.i64 1)) 3, type := 3, pos := "law.go:135", after := #[{ on := 4, ground := Ground.data }, { on := 2, ground := Ground.guard }], guard := some (2, true) }) (v := ?vk55) rfl (by kernel_rfl) (by kernel_rfl) (by kernel_rfl) (fun _ _ _ h => h) (Or.inl ⟨by rfl, ?hk55⟩) (BxJ.old ((Old.refl w8).drew) HB.out) ?rk55
              case hk55 => (intro wz hSw; (try dsimp only at hSw); go_simp; try with_reducible rfl)
              (try simp only [Act.put]); (try simp only [List.setIfInBounds_toArray]); (try simp only [List.set_cons_succ]); (try simp only [List.set_cons_zero])
              refine wpAnyH_take (i := 6) (oi := { dst := some 52, op := Op.indexAddr 33 (Operand.tmp 49) (Operand.tmp 51), type := 0, pos := "law.go:135", after := #[{ on := 3, ground := Ground.data }, { on := 5, ground := Ground.data }, { on := 2, ground := Ground.guard }], guard := some (2, true) }) (v := ?vk56) rfl (by kernel_rfl) (by kernel_rfl) (by kernel_rfl) (fun _ _ _ h => h) (Or.inl ⟨by rfl, ?hk56⟩) (BxJ.old ((Old.refl w8).drew) HB.out) ?rk56
              case hk56 => (intro wz hSw; (try dsimp only at hSw); go_simp; try with_reducible rfl)
              (try simp only [Act.put]); (try simp only [List.setIfInBounds_toArray]); (try simp only [List.set_cons_succ]); (try simp only [List.set_cons_zero])
              refine wpAnyH_take (i := 7) (oi := { dst := some 53, op := Op.fieldAddr 37 (Operand.tmp 52) 0, type := 0, pos := "law.go:135", after := #[{ on := 6, ground := Ground.data }, { on := 2, ground := Ground.guard }], guard := some (2, true) }) (v := ?vk57) rfl (by kernel_rfl) (by kernel_rfl) (by kernel_rfl) (fun _ _ _ h => h) (Or.inl ⟨by rfl, ?hk57⟩) (BxJ.old ((Old.refl w8).drew) HB.out) ?rk57
              case hk57 => (intro wz hSw; (try dsimp only at hSw); go_simp; try with_reducible rfl)
              (try simp only [Act.put]); (try simp only [List.setIfInBounds_toArray]); (try simp only [List.set_cons_succ]); (try simp only [List.set_cons_zero])
              refine wpAnyH_take (i := 8) (oi := { dst := some 54, op := Op.load 28 (Operand.tmp 53), type := 28, pos := "law.go:135", after := #[{ on := 7, ground := Ground.data }, { on := 2, ground := Ground.guard }], guard := some (2, true) }) (v := ?vk58) rfl (by kernel_rfl) (by kernel_rfl) (by kernel_rfl) (fun _ _ _ h => h) (Or.inl ⟨by rfl, ?hk58⟩) (BxJ.old ((Old.refl w8).drew) HB.out) ?rk58
              case hk58 => (intro wz hSw; (try dsimp only at hSw); go_simp; try with_reducible rfl)
              (try simp only [Act.put]); (try simp only [List.setIfInBounds_toArray]); (try simp only [List.set_cons_succ]); (try simp only [List.set_cons_zero])
              refine wpAnyH_take (i := 9) (oi := { dst := some 55, op := Op.fieldAddr 37 (Operand.tmp 8) 0, type := 0, pos := "law.go:135", after := #[{ on := 2, ground := Ground.guard }], guard := some (2, true) }) (v := ?vk59) rfl (by kernel_rfl) (by kernel_rfl) (by kernel_rfl) (fun _ _ _ h => h) (Or.inl ⟨by rfl, ?hk59⟩) (BxJ.old ((Old.refl w8).drew) HB.out) ?rk59
              case hk59 => (intro wz hSw; (try dsimp only at hSw); go_simp; try with_reducible rfl)
              (try simp only [Act.put]); (try simp only [List.setIfInBounds_toArray]); (try simp only [List.set_cons_succ]); (try simp only [List.set_cons_zero])
              refine wpAnyH_take (i := 10) (oi := { dst := some 56, op := Op.load 28 (Operand.tmp 55), type := 28, pos := "law.go:135", after := #[{ on := 9, ground := Ground.data }, { on := 2, ground := Ground.guard }], guard := some (2, true) }) (v := ?vk60) rfl (by kernel_rfl) (by kernel_rfl) (by kernel_rfl) (fun _ _ _ h => h) (Or.inl ⟨by rfl, ?hk60⟩) (BxJ.old ((Old.refl w8).drew) HB.out) ?rk60
              case hk60 => (intro wz hSw; (try dsimp only at hSw); go_simp; try with_reducible rfl)
              (try simp only [Act.put]); (try simp only [List.setIfInBounds_toArray]); (try simp only [List.set_cons_succ]); (try simp only [List.set_cons_zero])
              refine wpAnyH_ready (rs := [11]) (by kernel_rfl) (by simp) ?_
              refine AllReadyH.cons (o := { dst := some 57, op := Op.call { callee := Callee.value (Operand.func 15), args := #[Operand.tmp 54, Operand.tmp 56], argTypes := #[28, 28] }, type := 3, pos := "law.go:135", after := #[{ on := 8, ground := Ground.data }, { on := 10, ground := Ground.data }, { on := 2, ground := Ground.chain }, { on := 2, ground := Ground.guard }], guard := some (2, true) }) rfl (fun K hK => ?_) AllReadyH.nil
              refine wantCall2 ?_ 15 (.tmp 54) (.tmp 56) #[28, 28] ?_ (.agg #[.float .f64 y.a, .float .f64 y.b, .bool y.p, .bool y.q]) (.agg #[.float .f64 x.a, .float .f64 x.b, .bool x.p, .bool x.q]) ?_ ?_ ?_ (ent_cmpS _ _) ?_
              · rfl
              · rfl
              · rfl
              · rfl
              · rfl
              refine (HCm.out _ ((Old.refl w8).drew)).mono ?_
              rintro o x61 ⟨rfl, b61⟩
              refine ⟨_, rfl, ?_⟩
              have U61 := ((Old.refl w8).drew).trans b61
              refine hK.out _ _ (BxJ.old U61 HB.out) (fun _ => ?_)
              clear hK K
              (try simp only [Act.put]); (try simp only [List.setIfInBounds_toArray]); (try simp only [List.set_cons_succ]); (try simp only [List.set_cons_zero])
              refine wpAnyH_take (i := 12) (oi := { dst := some 58, op := Op.binOp BinOp.geq 3 (Operand.tmp 57) (Operand.const (Value.int IntKind.i64 0)) 3, type := 4, pos := "law.go:135", after := #[{ on := 11, ground := Ground.data }, { on := 2, ground := Ground.guard }], guard := some (2, true) }) (v := ?vk62) rfl (by kernel_rfl) (by kernel_rfl) (by kernel_rfl) (fun _ _ _ h => h) (Or.inl ⟨by rfl, ?hk62⟩) (BxJ.old U61 HB.out) ?rk62
              case hk62 => (intro wz hSw; (try dsimp only at hSw); go_simp; try with_reducible rfl)
              (try simp only [Act.put]); (try simp only [List.setIfInBounds_toArray]); (try simp only [List.set_cons_succ]); (try simp only [List.set_cons_zero])
              refine wpAnyH_take (i := 13) (oi := { dst := some 59, op := Op.pick (Operand.tmp 48) (Operand.tmp 58) (Operand.const (Value.bool false)), type := 4, pos := "law.go:135", after := #[{ on := 2, ground := Ground.data }, { on := 12, ground := Ground.data }], guard := none }) (v := ?vk63) rfl (by kernel_rfl) (by kernel_rfl) (by kernel_rfl) (fun _ _ _ h => h) (Or.inl ⟨by rfl, ?hk63⟩) (BxJ.old U61 HB.out) ?rk63
              case hk63 => (intro wz hSw; (try dsimp only at hSw); go_simp; try with_reducible rfl)
              (try simp only [Act.put]); (try simp only [List.setIfInBounds_toArray]); (try simp only [List.set_cons_succ]); (try simp only [List.set_cons_zero])
              refine wpAnyH_take (i := 14) (oi := { dst := some 60, op := Op.move (Operand.tmp 59), type := 4, pos := "law.go:135", after := #[{ on := 13, ground := Ground.data }, { on := 11, ground := Ground.chain }], guard := none }) (v := ?vk64) rfl (by kernel_rfl) (by kernel_rfl) (by kernel_rfl) (fun _ _ _ h => h) (Or.inl ⟨by rfl, ?hk64⟩) (BxJ.old U61 HB.out) ?rk64
              case hk64 => (intro wz hSw; (try dsimp only at hSw); go_simp; try with_reducible rfl)
              (try simp only [Act.put]); (try simp only [List.setIfInBounds_toArray]); (try simp only [List.set_cons_succ]); (try simp only [List.set_cons_zero])
              refine wpAnyH_take (i := 15) (oi := { dst := some 61, op := Op.fieldAddr 37 (Operand.tmp 8) 0, type := 0, pos := "law.go:135", after := #[{ on := 14, ground := Ground.guard }], guard := some (14, false) }) (v := ?vk65) rfl (by kernel_rfl) (by kernel_rfl) (by kernel_rfl) (fun _ _ _ h => h) (Or.inl ⟨by rfl, ?hk65⟩) (BxJ.old U61 HB.out) ?rk65
              case hk65 => (intro wz hSw; (try dsimp only at hSw); go_simp; try with_reducible rfl)
              (try simp only [Act.put]); (try simp only [List.setIfInBounds_toArray]); (try simp only [List.set_cons_succ]); (try simp only [List.set_cons_zero])
              refine wpAnyH_take (i := 16) (oi := { dst := some 62, op := Op.load 28 (Operand.tmp 61), type := 28, pos := "law.go:135", after := #[{ on := 15, ground := Ground.data }, { on := 14, ground := Ground.guard }], guard := some (14, false) }) (v := ?vk66) rfl (by kernel_rfl) (by kernel_rfl) (by kernel_rfl) (fun _ _ _ h => h) (Or.inl ⟨by rfl, ?hk66⟩) (BxJ.old U61 HB.out) ?rk66
              case hk66 => (intro wz hSw; (try dsimp only at hSw); go_simp; try with_reducible rfl)
              (try simp only [Act.put]); (try simp only [List.setIfInBounds_toArray]); (try simp only [List.set_cons_succ]); (try simp only [List.set_cons_zero])
              refine wpAnyH_take (i := 18) (oi := { dst := some 64, op := Op.fieldAddr 37 (Operand.tmp 8) 0, type := 0, pos := "law.go:135", after := #[{ on := 14, ground := Ground.guard }], guard := some (14, false) }) (v := ?vk67) rfl (by kernel_rfl) (by kernel_rfl) (by kernel_rfl) (fun _ _ _ h => h) (Or.inl ⟨by rfl, ?hk67⟩) (BxJ.old U61 HB.out) ?rk67
              case hk67 => (intro wz hSw; (try dsimp only at hSw); go_simp; try with_reducible rfl)
              (try simp only [Act.put]); (try simp only [List.setIfInBounds_toArray]); (try simp only [List.set_cons_succ]); (try simp only [List.set_cons_zero])
              refine wpAnyH_take (i := 19) (oi := { dst := some 65, op := Op.load 28 (Operand.tmp 64), type := 28, pos := "law.go:135", after := #[{ on := 18, ground := Ground.data }, { on := 14, ground := Ground.guard }], guard := some (14, false) }) (v := ?vk68) rfl (by kernel_rfl) (by kernel_rfl) (by kernel_rfl) (fun _ _ _ h => h) (Or.inl ⟨by rfl, ?hk68⟩) (BxJ.old U61 HB.out) ?rk68
              case hk68 => (intro wz hSw; (try dsimp only at hSw); go_simp; try with_reducible rfl)
              (try simp only [Act.put]); (try simp only [List.setIfInBounds_toArray]); (try simp only [List.set_cons_succ]); (try simp only [List.set_cons_zero])
              refine wpAnyH_ready (rs := [17]) (by kernel_rfl) (by simp) ?_
              refine AllReadyH.cons (o := { dst := some 63, op := Op.call { callee := Callee.value (Operand.func 17), args := #[Operand.tmp 62], argTypes := #[28] }, type := 28, pos := "law.go:135", after := #[{ on := 16, ground := Ground.data }, { on := 14, ground := Ground.chain }, { on := 14, ground := Ground.guard }], guard := some (14, false) }) rfl (fun K hK => ?_) AllReadyH.nil
              refine wantCall1 ?_ 17 (.tmp 62) #[28] ?_ (.agg #[.float .f64 x.a, .float .f64 x.b, .bool x.p, .bool x.q]) ?_ ?_ (ent_canS _ _) ?_
              · rfl
              · rfl
              · rfl
              · rfl
              refine (HCn.out _ U61).mono ?_
              rintro o x69 ⟨rfl, b69⟩
              refine ⟨_, rfl, ?_⟩
              have U69 := U61.trans b69
              refine hK.out _ _ (BxJ.old U69 HB.out) (fun _ => ?_)
              clear hK K
              (try simp only [Act.put]); (try simp only [List.setIfInBounds_toArray]); (try simp only [List.set_cons_succ]); (try simp only [List.set_cons_zero])
              refine wpAnyH_ready (rs := [20]) (by kernel_rfl) (by simp) ?_
              refine AllReadyH.cons (o := { dst := some 66, op := Op.call { callee := Callee.value (Operand.func 16), args := #[Operand.tmp 63, Operand.tmp 65], argTypes := #[28, 28] }, type := 4, pos := "law.go:135", after := #[{ on := 17, ground := Ground.data }, { on := 19, ground := Ground.data }, { on := 17, ground := Ground.chain }, { on := 14, ground := Ground.guard }], guard := some (14, false) }) rfl (fun K hK => ?_) AllReadyH.nil
              refine wantCall2 ?_ 16 (.tmp 63) (.tmp 65) #[28, 28] ?_ (.agg #[.float .f64 x.a, .float .f64 x.b, .bool x.p, .bool x.q]) (.agg #[.float .f64 x.a, .float .f64 x.b, .bool x.p, .bool x.q]) ?_ ?_ ?_ (ent_sameS _ _) ?_
              · rfl
              · rfl
              · rfl
              · rfl
              · rfl
              refine (HSm.out _ U69).mono ?_
              rintro o x70 ⟨rfl, b70⟩
              refine ⟨_, rfl, ?_⟩
              have U70 := U69.trans b70
              refine hK.out _ _ (BxJ.old U70 HB.out) (fun _ => ?_)
              clear hK K
              (try simp only [Act.put]); (try simp only [List.setIfInBounds_toArray]); (try simp only [List.set_cons_succ]); (try simp only [List.set_cons_zero])
              refine wpAnyH_take (i := 21) (oi := { dst := some 67, op := Op.unOp UnOp.not 4 (Operand.tmp 66), type := 4, pos := "law.go:135", after := #[{ on := 20, ground := Ground.data }, { on := 14, ground := Ground.guard }], guard := some (14, false) }) (v := ?vk71) rfl (by kernel_rfl) (by kernel_rfl) (by kernel_rfl) (fun _ _ _ h => h) (Or.inl ⟨by rfl, ?hk71⟩) (BxJ.old U70 HB.out) ?rk71
              case hk71 => (intro wz hSw; (try dsimp only at hSw); go_simp; try with_reducible rfl)
              (try simp only [Act.put]); (try simp only [List.setIfInBounds_toArray]); (try simp only [List.set_cons_succ]); (try simp only [List.set_cons_zero])
              refine wpAnyH_take (i := 22) (oi := { dst := some 68, op := Op.pick (Operand.tmp 60) (Operand.const (Value.bool true)) (Operand.tmp 67), type := 4, pos := "law.go:135", after := #[{ on := 14, ground := Ground.data }, { on := 21, ground := Ground.data }], guard := none }) (v := ?vk72) rfl (by kernel_rfl) (by kernel_rfl) (by kernel_rfl) (fun _ _ _ h => h) (Or.inl ⟨by rfl, ?hk72⟩) (BxJ.old U70 HB.out) ?rk72
              case hk72 => (intro wz hSw; (try dsimp only at hSw); go_simp; try with_reducible rfl)
              (try simp only [Act.put]); (try simp only [List.setIfInBounds_toArray]); (try simp only [List.set_cons_succ]); (try simp only [List.set_cons_zero])
              refine wpAnyH_done (by kernel_rfl) ?_ _
              refine NoPanic.normal ?_
              have U9 := hid U70
              have HBN9 := hid (BxN.old U9.out HBN.out)
              have HO9 := hid (HO7.out.old (HU8.out.trans U9.out))
              have HU9 := hid (HU8.out.trans U9.out)
              clear HB HCn HSm HBN hxx
              generalize x70 = w10 at *
              go_wp2
              go_loopw [9, 71] (fun r i wq => ∃ t : Nat, t ≤ 60 ∧ i = .int .i64 (t : Nat) ∧ r = .int .i64 (mostO f x t) ∧ Old w10 wq) (fun r i _ => 60 - (intOf i).toNat)
              case atStart => exact ⟨0, Nat.zero_le _, rfl, rfl, Old.refl _⟩
              case round =>
                obtain ⟨t, ht, rfl, rfl, hu⟩ := hrel
                have HQ := hid hu
                clear hu
                by_cases htt : t < 60
                · obtain ⟨_, a', c', e', _, hc⟩ := HO9.out.old HQ.out
                  obtain ⟨b', off, hsa, hW1, hW2, o0, o1, o2, o3, o4, o5⟩ := hc t htt
                  simp only [Value.slice.injEq] at e'
                  obtain ⟨rfl, _, rfl⟩ := e'
                  subst hsa
                  have m1 : (0 : Int) ≤ (t : Int) := by omega
                  have m2 : (t : Int) < (60 : Int) := by omega
                  clear hc
                  have HST := hid (show mostO f x (t + 1) = if 1 ≤ (f t).n ∧ (f t).n ≤ 1099511627776 ∧ cmpP (f t).a (f t).b (f t).p (f t).q x = 0 then max (mostO f x t) (f t).n else mostO f x t from rfl)
                  generalize mostO f x t = r at *
                  have HCc := hid (fun W => cmpS_old (f t).a (f t).b hW1 hW2 (f t).p (f t).q x HMj.out W)
                  generalize f t = z at *
                  generalize cmpP z.a z.b z.p z.q x = cc at *
                  go_upto_region 21 with fail
                  have B5 := hid (op_new wr z _ rfl)
                  have U5 := hid ((Old.refl wr).alloc (.cells #[.int .i64 z.kd, .float .f64 z.a, .float .f64 z.b, .bool z.p, .bool z.q, .int .i64 z.n] 30))
                  clear o0 o1 o2 o3 o4 o5
                  generalize wr.alloc (.cells #[.int .i64 z.kd, .float .f64 z.a, .float .f64 z.b, .bool z.p, .bool z.q, .int .i64 z.n] 30) = w11 at *
                  obtain ⟨o0, o1, o2, o3, o4, o5⟩ := B5.out
                  have HU11 := hid (HQ.out.trans U5.out)
                  obtain ⟨⟨d0, d1, d2, d3⟩, d4⟩ := BxN.old HU11.out HBN9.out
                  clear B5 hW1 hW2
                  by_cases k1 : 1 ≤ z.n
                  · by_cases k2 : z.n ≤ 1099511627776
                    · by_cases k3 : cc = 0
                      · have HST2 := hid (HST.out.trans (if_pos ⟨k1, k2, k3⟩))
                        clear HST
                        subst k3
                        go_upto_region 22 with (go_at_call 15; refine (HCc.out _).mono ?_; rintro e w12 ⟨rfl, u12⟩; have U12 := hid u12; clear u12)
                        have o5' := U12.out.keep o5
                        go_wp2
                        go_roundw
                        case rel => exact ⟨t + 1, htt, by go_num, by rw [HST2.out]; congr 1; omega, HU11.out.trans U12.out⟩
                        case measure => simp [intOf]; omega
                      · have HST2 := hid (HST.out.trans (if_neg (fun q => k3 q.2.2)))
                        have k4 : (cc == 0) = false := by rw [beq_eq_false_iff_ne]; exact k3
                        clear HST
                        go_wp2_with (go_at_call 15; refine (HCc.out _).mono ?_; rintro e w12 ⟨rfl, u12⟩; have U12 := hid u12; clear u12)
                        go_roundw
                        case rel => exact ⟨t + 1, htt, by go_num, by rw [HST2.out], HU11.out.trans U12.out⟩
                        case measure => simp [intOf]; omega
                    · have HST2 := hid (HST.out.trans (if_neg (fun q => k2 q.2.1)))
                      clear HST
                      go_wp2
                      go_roundw
                      case rel => exact ⟨t + 1, htt, by go_num, by rw [HST2.out], HU11.out⟩
                      case measure => simp [intOf]; omega
                  · have HST2 := hid (HST.out.trans (if_neg (fun q => k1 q.1)))
                    clear HST
                    go_wp2
                    go_roundw
                    case rel => exact ⟨t + 1, htt, by go_num, by rw [HST2.out], HU11.out⟩
                    case measure => simp [intOf]; omega
                · obtain rfl : 60 = t := by omega
                  have hmo := HMoj.out
                  obtain ⟨⟨d0, d1, d2, d3⟩, d4⟩ := BxN.old HQ.out HBN9.out
                  have HQ2 := hid (HU9.out.trans HQ.out)
                  rw [hmo]
                  clear hmo HMoj
                  go_wp2
                  go_roundw
                  case rel => exact ⟨j + 1, hjt, by go_num, HQ2.out⟩
                  case measure => simp [intOf]; omega
          · obtain rfl : j = M := by omega
            go_wp2
            go_ret
            exact ⟨rfl, U7.out.trans HV.out⟩

  · have HO := hid HO0.out
    have hN60 : N0 ≤ 60 := by omega
    have l60 : ¬ (60 : Int) < (N0 : Int) := by omega
    go_upto_region 6 with fail
    clear HO0 l60 hN6 hsc hbN
    generalize N0 = N at *
    go_wp2
    go_loopw [26] (fun i wr => ∃ k : Nat, k ≤ N ∧ i = .int .i64 (k : Nat) ∧ One1 f b1 w k wr) (fun i _ => N - (intOf i).toNat)
    case atStart => exact ⟨0, Nat.zero_le _, rfl, HI0.out⟩
    case round =>
      obtain ⟨k, hk, rfl, v1, L1, t1, g1, n1, h1, hu⟩ := hrel
      have HT1 := hid t1
      have HG1 := hid g1
      have HH1 := hid h1
      have HU := hid hu
      have HN1 := hid n1
      clear t1 g1 h1 hu HI0 n1
      by_cases hlt : k < N
      · obtain ⟨_, a', c', e', _, hc⟩ := HO.out.old HU.out
        obtain ⟨b', off, hsa, hW1, hW2, o0, o1, o2, o3, o4, o5⟩ := hc k hlt
        simp only [Value.slice.injEq] at e'
        obtain ⟨rfl, _, rfl⟩ := e'
        subst hsa
        have l1 : (0 : Int) ≤ (k : Int) := by omega
        have l2 : (k : Int) < (N : Int) := by omega
        clear hc
        have hW := And.intro hW1 hW2
        have HW := hid hW
        have HPS := hid (put_step f k hW (fun i => i < k ∧ okO (f i)) (fun i => i < k + 1 ∧ okO (f i)) (fun i => by
          constructor
          · rintro ⟨a, b⟩
            by_cases e : i = k
            · subst e; exact .inr ⟨rfl, b⟩
            · exact .inl ⟨by omega, b⟩
          · rintro (⟨a, b⟩ | ⟨rfl, b⟩)
            · exact ⟨by omega, b⟩
            · exact ⟨by omega, b⟩) L1 HG1.out (by have := HN1.out; omega) HH1.out)
        generalize hfk : f k = z at *
        go_upto_region 9 with fail
        have B4 := hid (op_new wr z _ rfl)
        have U4 := hid ((Old.refl wr).alloc (.cells #[.int .i64 z.kd, .float .f64 z.a, .float .f64 z.b, .bool z.p, .bool z.q, .int .i64 z.n] 30))
        have T4 := hid (HT1.out.old U4.out)
        clear o0 o1 o2 o3 o4 o5
        generalize wr.alloc (.cells #[.int .i64 z.kd, .float .f64 z.a, .float .f64 z.b, .bool z.p, .bool z.q, .int .i64 z.n] 30) = w4 at *
        obtain ⟨o0, o1, o2, o3, o4, o5⟩ := B4.out
        have HP := hid (put_any b1 b1 64 z.n v1 L1 z.a z.b z.p z.q HW.out.1 HW.out.2 w4 T4.out HG1.out (by have := HN1.out; omega))
        go_wp2_with (go_at_call 9; refine HP.out.mono ?_; rintro e w5 ⟨v5, rfl, t5, c5, n5⟩; have T5 := hid t5; have U5 := hid ((HU.out.trans U4.out).below (Below.mono (T4.out.below c5) (Nat.le_of_eq hwb))); clear t5 c5 n5)
        go_roundw
        case rel => exact ⟨k + 1, hlt, by go_num, v5, _, T5.out, HPS.out.1, by have := HPS.out.2.1; have := HN1.out; omega, HPS.out.2.2.1, U5.out⟩
        case measure => simp [intOf]; omega
      · obtain rfl : N = k := by omega
        have hl1 : L1.length ≤ 1000000 := by have := HN1.out; omega
        go_upto_region 11 with fail
        have HAll := hid (all_any b1 b1 64 v1 L1 wr hl1 HT1.out)
        go_upto_region 12 with (go_at_call 10; refine HAll.out.mono ?_; rintro e w7 ⟨v6, rfl, o6, u6⟩; obtain ⟨a6, c6, hv6⟩ := o6.len; subst hv6; have O6 := hid o6; have U7 := hid (HU.out.trans u6); clear o6 u6)
        have HSh := hid (fun (e : 0 < L1.length) => O6.out.shape e)
        have HMem := hid (fun j (hj : j < L1.length) => HG1.out.at j hj)
        have HAs := hid (fun j (h1 : 0 < j) (h2 : j < L1.length) => cmp_asc (HG1.out.at (j - 1) (by omega)) (HG1.out.at j h2) (by
          have hp := List.pairwise_iff_getElem.1 HG1.out.1 (j - 1) j (by omega) h2 (by omega)
          rw [atI_get L1 _ (by omega), atI_get L1 j h2]
          exact hp))
        have HMo := hid (fun j (hj : j < L1.length) => most_at f _ (fun i hi => by obtain ⟨_, _, _, _, _, hc⟩ := HO.out; obtain ⟨_, _, _, q1, q2, _⟩ := hc i hi; exact ⟨q1, q2⟩) L1 HG1.out HH1.out (atI L1 j) (mem_atI L1 j hj))
        have HO7 := hid (HO.out.old U7.out)
        clear O6 HAll HH1 HT1 HN1 HG1 HU HO
        generalize hM : L1.length = M at *
        have HMz := hid hM
        clear hM
        go_wp2
        go_loopw [41] (fun i wq => ∃ j : Nat, j ≤ M ∧ i = .int .i64 (j : Nat) ∧ Old w7 wq) (fun i _ => M - (intOf i).toNat)
        case atStart => exact ⟨0, Nat.zero_le _, rfl, Old.refl _⟩
        case round =>
          obtain ⟨j, hj, rfl, hu⟩ := hrel
          have HV := hid hu
          clear hu
          by_cases hjt : j < M
          · obtain ⟨g, cap, he, hgb, hgl, hi, hfz⟩ := HSh.out (by omega)
            simp only [Value.slice.injEq] at he
            obtain ⟨rfl, _, rfl⟩ := he
            obtain ⟨c0, c1, c2, c3, c4⟩ := (hi j hjt).old HV.out
            have l1 : (0 : Int) ≤ (j : Int) := by omega
            have l2 : (j : Int) < (M : Int) := by omega
            have HIt := hid (fun i (h : i < M) => (hi i h).old HV.out)
            clear hi hfz
            have HMj := hid (HMem.out j hjt)
            have HMoj := hid (HMo.out j hjt)
            go_upto_region 15 with fail
            have B4 := hid (item_new wr (atI L1 j) _ rfl)
            have U4 := hid ((Old.refl wr).alloc (.cells (itc (atI L1 j)).toArray 37))
            have hwe : wr.alloc (.cells #[.float .f64 (atI L1 j).a, .float .f64 (atI L1 j).b, .bool (atI L1 j).p, .bool (atI L1 j).q, .int .i64 (atI L1 j).n] 37) = wr.alloc (.cells (itc (atI L1 j)).toArray 37) := rfl
            rw [hwe]
            clear hwe c0 c1 c2 c3 c4
            have HIt8 := hid (fun i (h : i < M) => (HIt.out i h).old U4.out)
            clear HIt
            generalize wr.alloc (.cells (itc (atI L1 j)).toArray 37) = w8 at *
            obtain ⟨d0, d1, d2, d3, d4⟩ := B4.out
            generalize wr.heap.size = xb at *
            have HU8 := hid (HV.out.trans U4.out)
            have HBN := hid (show BxN xb (atI L1 j) w8 from ⟨⟨d0, d1, d2, d3⟩, d4⟩)
            have HCn := hid (fun (W : World) (u : Old w8 W) => canI_old HMj.out W)
            have HSm := hid (fun (W : World) (u : Old w8 W) => sameI_old (atI L1 j) W)
            clear B4 d0 d1 d2 d3 d4
            by_cases hj0 : j = 0
            · have hz : ¬ (0 < j) := by omega
              have hz2 : ¬ ((0 : Int) < (j : Int)) := by omega
              have HB := hid HBN.out.1
              clear HIt8 HAs hj0
              generalize hxx : atI L1 j = x at *
              refine wp_region_noPanic ?_
              refine wp_region_held_drew (S := SpAt xb x.a x.b x.p x.q) (by kernel_rfl) ?_ (fun hHeld => ?_)
              · exact SpAt.old ((Old.refl _).drew) HB.out
              (try simp only [Act.put]); (try simp only [List.setIfInBounds_toArray]); (try simp only [List.set_cons_succ]); (try simp only [List.set_cons_zero])
              clear hHeld
              refine wpAnyH_take (i := 0) (oi := { dst := some 46, op := Op.move (Operand.tmp 7), type := 3, pos := "law.go:135", after := #[], guard := none }) (v := ?vk1) rfl (by kernel_rfl) (by kernel_rfl) (by kernel_rfl) (fun _ _ _ h => h) (Or.inl ⟨by rfl, ?hk1⟩) (SpAt.old ((Old.refl w8).drew) HB.out) ?rk1
              case hk1 => (intro wz hSw; (try dsimp only at hSw); go_simp; try with_reducible rfl)
              (try simp only [Act.put]); (try simp only [List.setIfInBounds_toArray]); (try simp only [List.set_cons_succ]); (try simp only [List.set_cons_zero])
              refine wpAnyH_take (i := 1) (oi := { dst := some 47, op := Op.binOp BinOp.gtr 3 (Operand.tmp 46) (Operand.const (Value.int IntKind.i64 0)) 3, type := 4, pos := "law.go:135", after := #[{ on := 0, ground := Ground.data }], guard := none }) (v := ?vk2) rfl (by kernel_rfl) (by kernel_rfl) (by kernel_rfl) (fun _ _ _ h => h) (Or.inl ⟨by rfl, ?hk2⟩) (SpAt.old ((Old.refl w8).drew) HB.out) ?rk2
              case hk2 => (intro wz hSw; (try dsimp only at hSw); go_simp; try with_reducible rfl)
              (try simp only [Act.put]); (try simp only [List.setIfInBounds_toArray]); (try simp only [List.set_cons_succ]); (try simp only [List.set_cons_zero])
              refine wpAnyH_take (i := 2) (oi := { dst := some 48, op := Op.move (Operand.tmp 47), type := 4, pos := "law.go:135", after := #[{ on := 1, ground := Ground.data }], guard := none }) (v := ?vk3) rfl (by kernel_rfl) (by kernel_rfl) (by kernel_rfl) (fun _ _ _ h => h) (Or.inl ⟨by rfl, ?hk3⟩) (SpAt.old ((Old.refl w8).drew) HB.out) ?rk3
              case hk3 => (intro wz hSw; (try dsimp only at hSw); go_simp; try with_reducible rfl)
              (try simp only [Act.put]); (try simp only [List.setIfInBounds_toArray]); (try simp only [List.set_cons_succ]); (try simp only [List.set_cons_zero])
              refine wpAnyH_take (i := 3) (oi := { dst := some 49, op := Op.move (Operand.tmp 6), type := 33, pos := "law.go:135", after := #[{ on := 2, ground := Ground.guard }], guard := some (2, true) }) (v := undef) rfl (by kernel_rfl) (by kernel_rfl) (by kernel_rfl) (fun _ _ _ h => h) (Or.inr ⟨by rfl, rfl⟩) (SpAt.old ((Old.refl w8).drew) HB.out) ?_
              (try simp only [Act.put]); (try simp only [List.setIfInBounds_toArray]); (try simp only [List.set_cons_succ]); (try simp only [List.set_cons_zero])
              refine wpAnyH_take (i := 4) (oi := { dst := some 50, op := Op.move (Operand.tmp 7), type := 3, pos := "law.go:135", after := #[{ on := 2, ground := Ground.guard }], guard := some (2, true) }) (v := undef) rfl (by kernel_rfl) (by kernel_rfl) (by kernel_rfl) (fun _ _ _ h => h) (Or.inr ⟨by rfl, rfl⟩) (SpAt.old ((Old.refl w8).drew) HB.out) ?_
              (try simp only [Act.put]); (try simp only [List.setIfInBounds_toArray]); (try simp only [List.set_cons_succ]); (try simp only [List.set_cons_zero])
              refine wpAnyH_take (i := 5) (oi := { dst := some 51, op := Op.binOp BinOp.sub 3 (Operand.tmp 50) (Operand.const (Value.int IntKind.i64 1)) 3, type := 3, pos := "law.go:135", after := #[{ on := 4, ground := Ground.data }, { on := 2, ground := Ground.guard }], guard := some (2, true) }) (v := undef) rfl (by kernel_rfl) (by kernel_rfl) (by kernel_rfl) (fun _ _ _ h => h) (Or.inr ⟨by rfl, rfl⟩) (SpAt.old ((Old.refl w8).drew) HB.out) ?_
              (try simp only [Act.put]); (try simp only [List.setIfInBounds_toArray]); (try simp only [List.set_cons_succ]); (try simp only [List.set_cons_zero])
              refine wpAnyH_take (i := 6) (oi := { dst := some 52, op := Op.indexAddr 33 (Operand.tmp 49) (Operand.tmp 51), type := 0, pos := "law.go:135", after := #[{ on := 3, ground := Ground.data }, { on := 5, ground := Ground.data }, { on := 2, ground := Ground.guard }], guard := some (2, true) }) (v := undef) rfl (by kernel_rfl) (by kernel_rfl) (by kernel_rfl) (fun _ _ _ h => h) (Or.inr ⟨by rfl, rfl⟩) (SpAt.old ((Old.refl w8).drew) HB.out) ?_
              (try simp only [Act.put]); (try simp only [List.setIfInBounds_toArray]); (try simp only [List.set_cons_succ]); (try simp only [List.set_cons_zero])
              refine wpAnyH_take (i := 7) (oi := { dst := some 53, op := Op.fieldAddr 37 (Operand.tmp 52) 0, type := 0, pos := "law.go:135", after := #[{ on := 6, ground := Ground.data }, { on := 2, ground := Ground.guard }], guard := some (2, true) }) (v := undef) rfl (by kernel_rfl) (by kernel_rfl) (by kernel_rfl) (fun _ _ _ h => h) (Or.inr ⟨by rfl, rfl⟩) (SpAt.old ((Old.refl w8).drew) HB.out) ?_
              (try simp only [Act.put]); (try simp only [List.setIfInBounds_toArray]); (try simp only [List.set_cons_succ]); (try simp only [List.set_cons_zero])
              refine wpAnyH_take (i := 8) (oi := { dst := some 54, op := Op.load 28 (Operand.tmp 53), type := 28, pos := "law.go:135", after := #[{ on := 7, ground := Ground.data }, { on := 2, ground := Ground.guard }], guard := some (2, true) }) (v := undef) rfl (by kernel_rfl) (by kernel_rfl) (by kernel_rfl) (fun _ _ _ h => h) (Or.inr ⟨by rfl, rfl⟩) (SpAt.old ((Old.refl w8).drew) HB.out) ?_
              (try simp only [Act.put]); (try simp only [List.setIfInBounds_toArray]); (try simp only [List.set_cons_succ]); (try simp only [List.set_cons_zero])
              refine wpAnyH_take (i := 9) (oi := { dst := some 55, op := Op.fieldAddr 37 (Operand.tmp 8) 0, type := 0, pos := "law.go:135", after := #[{ on := 2, ground := Ground.guard }], guard := some (2, true) }) (v := undef) rfl (by kernel_rfl) (by kernel_rfl) (by kernel_rfl) (fun _ _ _ h => h) (Or.inr ⟨by rfl, rfl⟩) (SpAt.old ((Old.refl w8).drew) HB.out) ?_
              (try simp only [Act.put]); (try simp only [List.setIfInBounds_toArray]); (try simp only [List.set_cons_succ]); (try simp only [List.set_cons_zero])
              refine wpAnyH_take (i := 10) (oi := { dst := some 56, op := Op.load 28 (Operand.tmp 55), type := 28, pos := "law.go:135", after := #[{ on := 9, ground := Ground.data }, { on := 2, ground := Ground.guard }], guard := some (2, true) }) (v := undef) rfl (by kernel_rfl) (by kernel_rfl) (by kernel_rfl) (fun _ _ _ h => h) (Or.inr ⟨by rfl, rfl⟩) (SpAt.old ((Old.refl w8).drew) HB.out) ?_
              (try simp only [Act.put]); (try simp only [List.setIfInBounds_toArray]); (try simp only [List.set_cons_succ]); (try simp only [List.set_cons_zero])
              refine wpAnyH_take (i := 11) (oi := { dst := some 57, op := Op.call { callee := Callee.value (Operand.func 15), args := #[Operand.tmp 54, Operand.tmp 56], argTypes := #[28, 28] }, type := 3, pos := "law.go:135", after := #[{ on := 8, ground := Ground.data }, { on := 10, ground := Ground.data }, { on := 2, ground := Ground.chain }, { on := 2, ground := Ground.guard }], guard := some (2, true) }) (v := undef) rfl (by kernel_rfl) (by kernel_rfl) (by kernel_rfl) (fun _ _ _ h => h) (Or.inr ⟨by rfl, rfl⟩) (SpAt.old ((Old.refl w8).drew) HB.out) ?_
              (try simp only [Act.put]); (try simp only [List.setIfInBounds_toArray]); (try simp only [List.set_cons_succ]); (try simp only [List.set_cons_zero])
              refine wpAnyH_take (i := 12) (oi := { dst := some 58, op := Op.binOp BinOp.geq 3 (Operand.tmp 57) (Operand.const (Value.int IntKind.i64 0)) 3, type := 4, pos := "law.go:135", after := #[{ on := 11, ground := Ground.data }, { on := 2, ground := Ground.guard }], guard := some (2, true) }) (v := undef) rfl (by kernel_rfl) (by kernel_rfl) (by kernel_rfl) (fun _ _ _ h => h) (Or.inr ⟨by rfl, rfl⟩) (SpAt.old ((Old.refl w8).drew) HB.out) ?_
              (try simp only [Act.put]); (try simp only [List.setIfInBounds_toArray]); (try simp only [List.set_cons_succ]); (try simp only [List.set_cons_zero])
              refine wpAnyH_take (i := 13) (oi := { dst := some 59, op := Op.pick (Operand.tmp 48) (Operand.tmp 58) (Operand.const (Value.bool false)), type := 4, pos := "law.go:135", after := #[{ on := 2, ground := Ground.data }, { on := 12, ground := Ground.data }], guard := none }) (v := ?vk4) rfl (by kernel_rfl) (by kernel_rfl) (by kernel_rfl) (fun _ _ _ h => h) (Or.inl ⟨by rfl, ?hk4⟩) (SpAt.old ((Old.refl w8).drew) HB.out) ?rk4
              case hk4 => (intro wz hSw; (try dsimp only at hSw); go_simp; try with_reducible rfl)
              (try simp only [Act.put]); (try simp only [List.setIfInBounds_toArray]); (try simp only [List.set_cons_succ]); (try simp only [List.set_cons_zero])
              refine wpAnyH_take (i := 14) (oi := { dst := some 60, op := Op.move (Operand.tmp 59), type := 4, pos := "law.go:135", after := #[{ on := 13, ground := Ground.data }, { on := 11, ground := Ground.chain }], guard := none }) (v := ?vk5) rfl (by kernel_rfl) (by kernel_rfl) (by kernel_rfl) (fun _ _ _ h => h) (Or.inl ⟨by rfl, ?hk5⟩) (SpAt.old ((Old.refl w8).drew) HB.out) ?rk5
              case hk5 => (intro wz hSw; (try dsimp only at hSw); go_simp; try with_reducible rfl)
              (try simp only [Act.put]); (try simp only [List.setIfInBounds_toArray]); (try simp only [List.set_cons_succ]); (try simp only [List.set_cons_zero])
              refine wpAnyH_take (i := 15) (oi := { dst := some 61, op := Op.fieldAddr 37 (Operand.tmp 8) 0, type := 0, pos := "law.go:135", after := #[{ on := 14, ground := Ground.guard }], guard := some (14, false) }) (v := ?vk6) rfl (by kernel_rfl) (by kernel_rfl) (by kernel_rfl) (fun _ _ _ h => h) (Or.inl ⟨by rfl, ?hk6⟩) (SpAt.old ((Old.refl w8).drew) HB.out) ?rk6
              case hk6 => (intro wz hSw; (try dsimp only at hSw); go_simp; try with_reducible rfl)
              (try simp only [Act.put]); (try simp only [List.setIfInBounds_toArray]); (try simp only [List.set_cons_succ]); (try simp only [List.set_cons_zero])
              refine wpAnyH_take (i := 16) (oi := { dst := some 62, op := Op.load 28 (Operand.tmp 61), type := 28, pos := "law.go:135", after := #[{ on := 15, ground := Ground.data }, { on := 14, ground := Ground.guard }], guard := some (14, false) }) (v := ?vk7) rfl (by kernel_rfl) (by kernel_rfl) (by kernel_rfl) (fun _ _ _ h => h) (Or.inl ⟨by rfl, ?hk7⟩) (SpAt.old ((Old.refl w8).drew) HB.out) ?rk7
              case hk7 => (intro wz hSw; (try dsimp only at hSw); go_simp; try with_reducible rfl)
              (try simp only [Act.put]); (try simp only [List.setIfInBounds_toArray]); (try simp only [List.set_cons_succ]); (try simp only [List.set_cons_zero])
              refine wpAnyH_take (i := 18) (oi := { dst := some 64, op := Op.fieldAddr 37 (Operand.tmp 8) 0, type := 0, pos := "law.go:135", after := #[{ on := 14, ground := Ground.guard }], guard := some (14, false) }) (v := ?vk8) rfl (by kernel_rfl) (by kernel_rfl) (by kernel_rfl) (fun _ _ _ h => h) (Or.inl ⟨by rfl, ?hk8⟩) (SpAt.old ((Old.refl w8).drew) HB.out) ?rk8
              case hk8 => (intro wz hSw; (try dsimp only at hSw); go_simp; try with_reducible rfl)
              (try simp only [Act.put]); (try simp only [List.setIfInBounds_toArray]); (try simp only [List.set_cons_succ]); (try simp only [List.set_cons_zero])
              refine wpAnyH_take (i := 19) (oi := { dst := some 65, op := Op.load 28 (Operand.tmp 64), type := 28, pos := "law.go:135", after := #[{ on := 18, ground := Ground.data }, { on := 14, ground := Ground.guard }], guard := some (14, false) }) (v := ?vk9) rfl (by kernel_rfl) (by kernel_rfl) (by kernel_rfl) (fun _ _ _ h => h) (Or.inl ⟨by rfl, ?hk9⟩) (SpAt.old ((Old.refl w8).drew) HB.out) ?rk9
              case hk9 => (intro wz hSw; (try dsimp only at hSw); go_simp; try with_reducible rfl)
              (try simp only [Act.put]); (try simp only [List.setIfInBounds_toArray]); (try simp only [List.set_cons_succ]); (try simp only [List.set_cons_zero])
              refine wpAnyH_ready (rs := [17]) (by kernel_rfl) (by simp) ?_
              refine AllReadyH.cons (o := { dst := some 63, op := Op.call { callee := Callee.value (Operand.func 17), args := #[Operand.tmp 62], argTypes := #[28] }, type := 28, pos := "law.go:135", after := #[{ on := 16, ground := Ground.data }, { on := 14, ground := Ground.chain }, { on := 14, ground := Ground.guard }], guard := some (14, false) }) rfl (fun K hK => ?_) AllReadyH.nil
              refine wantCall1 ?_ 17 (.tmp 62) #[28] ?_ (.agg #[.float .f64 x.a, .float .f64 x.b, .bool x.p, .bool x.q]) ?_ ?_ (ent_canS _ _) ?_
              · rfl
              · rfl
              · rfl
              · rfl
              refine (HCn.out _ ((Old.refl w8).drew)).mono ?_
              rintro o x10 ⟨rfl, b10⟩
              refine ⟨_, rfl, ?_⟩
              have U10 := ((Old.refl w8).drew).trans b10
              refine hK.out _ _ (SpAt.old U10 HB.out) (fun _ => ?_)
              clear hK K
              (try simp only [Act.put]); (try simp only [List.setIfInBounds_toArray]); (try simp only [List.set_cons_succ]); (try simp only [List.set_cons_zero])
              refine wpAnyH_ready (rs := [20]) (by kernel_rfl) (by simp) ?_
              refine AllReadyH.cons (o := { dst := some 66, op := Op.call { callee := Callee.value (Operand.func 16), args := #[Operand.tmp 63, Operand.tmp 65], argTypes := #[28, 28] }, type := 4, pos := "law.go:135", after := #[{ on := 17, ground := Ground.data }, { on := 19, ground := Ground.data }, { on := 17, ground := Ground.chain }, { on := 14, ground := Ground.guard }], guard := some (14, false) }) rfl (fun K hK => ?_) AllReadyH.nil
              refine wantCall2 ?_ 16 (.tmp 63) (.tmp 65) #[28, 28] ?_ (.agg #[.float .f64 x.a, .float .f64 x.b, .bool x.p, .bool x.q]) (.agg #[.float .f64 x.a, .float .f64 x.b, .bool x.p, .bool x.q]) ?_ ?_ ?_ (ent_sameS _ _) ?_
              · rfl
              · rfl
              · rfl
              · rfl
              · rfl
              refine (HSm.out _ U10).mono ?_
              rintro o x11 ⟨rfl, b11⟩
              refine ⟨_, rfl, ?_⟩
              have U11 := U10.trans b11
              refine hK.out _ _ (SpAt.old U11 HB.out) (fun _ => ?_)
              clear hK K
              (try simp only [Act.put]); (try simp only [List.setIfInBounds_toArray]); (try simp only [List.set_cons_succ]); (try simp only [List.set_cons_zero])
              refine wpAnyH_take (i := 21) (oi := { dst := some 67, op := Op.unOp UnOp.not 4 (Operand.tmp 66), type := 4, pos := "law.go:135", after := #[{ on := 20, ground := Ground.data }, { on := 14, ground := Ground.guard }], guard := some (14, false) }) (v := ?vk12) rfl (by kernel_rfl) (by kernel_rfl) (by kernel_rfl) (fun _ _ _ h => h) (Or.inl ⟨by rfl, ?hk12⟩) (SpAt.old U11 HB.out) ?rk12
              case hk12 => (intro wz hSw; (try dsimp only at hSw); go_simp; try with_reducible rfl)
              (try simp only [Act.put]); (try simp only [List.setIfInBounds_toArray]); (try simp only [List.set_cons_succ]); (try simp only [List.set_cons_zero])
              refine wpAnyH_take (i := 22) (oi := { dst := some 68, op := Op.pick (Operand.tmp 60) (Operand.const (Value.bool true)) (Operand.tmp 67), type := 4, pos := "law.go:135", after := #[{ on := 14, ground := Ground.data }, { on := 21, ground := Ground.data }], guard := none }) (v := ?vk13) rfl (by kernel_rfl) (by kernel_rfl) (by kernel_rfl) (fun _ _ _ h => h) (Or.inl ⟨by rfl, ?hk13⟩) (SpAt.old U11 HB.out) ?rk13
              case hk13 => (intro wz hSw; (try dsimp only at hSw); go_simp; try with_reducible rfl)
              (try simp only [Act.put]); (try simp only [List.setIfInBounds_toArray]); (try simp only [List.set_cons_succ]); (try simp only [List.set_cons_zero])
              refine wpAnyH_done (by kernel_rfl) ?_ _
              refine NoPanic.normal ?_
              have U9 := hid U11
              have HBN9 := hid (BxN.old U9.out HBN.out)
              have HO9 := hid (HO7.out.old (HU8.out.trans U9.out))
              have HU9 := hid (HU8.out.trans U9.out)
              clear HB HCn HSm HBN hxx
              generalize x11 = w10 at *
              go_wp2
              go_loopw [9, 71] (fun r i wq => ∃ t : Nat, t ≤ N ∧ i = .int .i64 (t : Nat) ∧ r = .int .i64 (mostO f x t) ∧ Old w10 wq) (fun r i _ => N - (intOf i).toNat)
              case atStart => exact ⟨0, Nat.zero_le _, rfl, rfl, Old.refl _⟩
              case round =>
                obtain ⟨t, ht, rfl, rfl, hu⟩ := hrel
                have HQ := hid hu
                clear hu
                by_cases htt : t < N
                · obtain ⟨_, a', c', e', _, hc⟩ := HO9.out.old HQ.out
                  obtain ⟨b', off, hsa, hW1, hW2, o0, o1, o2, o3, o4, o5⟩ := hc t htt
                  simp only [Value.slice.injEq] at e'
                  obtain ⟨rfl, _, rfl⟩ := e'
                  subst hsa
                  have m1 : (0 : Int) ≤ (t : Int) := by omega
                  have m2 : (t : Int) < (N : Int) := by omega
                  clear hc
                  have HST := hid (show mostO f x (t + 1) = if 1 ≤ (f t).n ∧ (f t).n ≤ 1099511627776 ∧ cmpP (f t).a (f t).b (f t).p (f t).q x = 0 then max (mostO f x t) (f t).n else mostO f x t from rfl)
                  generalize mostO f x t = r at *
                  have HCc := hid (fun W => cmpS_old (f t).a (f t).b hW1 hW2 (f t).p (f t).q x HMj.out W)
                  generalize f t = z at *
                  generalize cmpP z.a z.b z.p z.q x = cc at *
                  go_upto_region 21 with fail
                  have B5 := hid (op_new wr z _ rfl)
                  have U5 := hid ((Old.refl wr).alloc (.cells #[.int .i64 z.kd, .float .f64 z.a, .float .f64 z.b, .bool z.p, .bool z.q, .int .i64 z.n] 30))
                  clear o0 o1 o2 o3 o4 o5
                  generalize wr.alloc (.cells #[.int .i64 z.kd, .float .f64 z.a, .float .f64 z.b, .bool z.p, .bool z.q, .int .i64 z.n] 30) = w11 at *
                  obtain ⟨o0, o1, o2, o3, o4, o5⟩ := B5.out
                  have HU11 := hid (HQ.out.trans U5.out)
                  obtain ⟨⟨d0, d1, d2, d3⟩, d4⟩ := BxN.old HU11.out HBN9.out
                  clear B5 hW1 hW2
                  by_cases k1 : 1 ≤ z.n
                  · by_cases k2 : z.n ≤ 1099511627776
                    · by_cases k3 : cc = 0
                      · have HST2 := hid (HST.out.trans (if_pos ⟨k1, k2, k3⟩))
                        clear HST
                        subst k3
                        go_upto_region 22 with (go_at_call 15; refine (HCc.out _).mono ?_; rintro e w12 ⟨rfl, u12⟩; have U12 := hid u12; clear u12)
                        have o5' := U12.out.keep o5
                        go_wp2
                        go_roundw
                        case rel => exact ⟨t + 1, htt, by go_num, by rw [HST2.out]; congr 1; omega, HU11.out.trans U12.out⟩
                        case measure => simp [intOf]; omega
                      · have HST2 := hid (HST.out.trans (if_neg (fun q => k3 q.2.2)))
                        have k4 : (cc == 0) = false := by rw [beq_eq_false_iff_ne]; exact k3
                        clear HST
                        go_wp2_with (go_at_call 15; refine (HCc.out _).mono ?_; rintro e w12 ⟨rfl, u12⟩; have U12 := hid u12; clear u12)
                        go_roundw
                        case rel => exact ⟨t + 1, htt, by go_num, by rw [HST2.out], HU11.out.trans U12.out⟩
                        case measure => simp [intOf]; omega
                    · have HST2 := hid (HST.out.trans (if_neg (fun q => k2 q.2.1)))
                      clear HST
                      go_wp2
                      go_roundw
                      case rel => exact ⟨t + 1, htt, by go_num, by rw [HST2.out], HU11.out⟩
                      case measure => simp [intOf]; omega
                  · have HST2 := hid (HST.out.trans (if_neg (fun q => k1 q.1)))
                    clear HST
                    go_wp2
                    go_roundw
                    case rel => exact ⟨t + 1, htt, by go_num, by rw [HST2.out], HU11.out⟩
                    case measure => simp [intOf]; omega
                · obtain rfl : N = t := by omega
                  have hmo := HMoj.out
                  obtain ⟨⟨d0, d1, d2, d3⟩, d4⟩ := BxN.old HQ.out HBN9.out
                  have HQ2 := hid (HU9.out.trans HQ.out)
                  rw [hmo]
                  clear hmo HMoj
                  go_wp2
                  go_roundw
                  case rel => exact ⟨j + 1, hjt, by go_num, HQ2.out⟩
                  case measure => simp [intOf]; omega
            · have hz : (0 : Int) < (j : Int) := by omega
              have hz2 : 0 < j := by omega
              have HB := hid (show BxJ xb (atI L1 j) g ((j - 1) * 5) (atI L1 (j - 1)) w8 from by
                obtain ⟨q0, q1, q2, q3, _⟩ := HIt8.out (j - 1) (by omega)
                exact ⟨HBN.out.1, q0, q1, q2, q3⟩)
              have HCm := hid (fun (W : World) (u : Old w8 W) => cmpS_old (atI L1 (j - 1)).a (atI L1 (j - 1)).b (HMem.out (j - 1) (by omega)).1.1 (HMem.out (j - 1) (by omega)).1.2.1 (atI L1 (j - 1)).p (atI L1 (j - 1)).q (atI L1 j) HMj.out W)
              rw [HAs.out j (by omega) hjt] at HCm
              have hw1 : IntKind.i64.wrap ((j : Int) - 1) = ((j - 1 : Nat) : Int) := by rw [IntKind.wrap_i64]; omega
              have hl3 : ((j - 1 : Nat) : Int) < (M : Int) := by omega
              clear HIt8 HAs hj0
              generalize hxx : atI L1 j = x at *
              generalize hyy : atI L1 (j - 1) = y at *
              refine wp_region_noPanic ?_
              refine wp_region_held_drew (S := BxJ xb x g ((j - 1) * 5) y) (by kernel_rfl) ?_ (fun hHeld => ?_)
              · exact BxJ.old ((Old.refl _).drew) HB.out
              (try simp only [Act.put]); (try simp only [List.setIfInBounds_toArray]); (try simp only [List.set_cons_succ]); (try simp only [List.set_cons_zero])
              clear hHeld
              refine wpAnyH_take (i := 0) (oi := { dst := some 46, op := Op.move (Operand.tmp 7), type := 3, pos := "law.go:135", after := #[], guard := none }) (v := ?vk14) rfl (by kernel_rfl) (by kernel_rfl) (by kernel_rfl) (fun _ _ _ h => h) (Or.inl ⟨by rfl, ?hk14⟩) (BxJ.old ((Old.refl w8).drew) HB.out) ?rk14
              case hk14 => (intro wz hSw; (try dsimp only at hSw); go_simp; try with_reducible rfl)
              (try simp only [Act.put]); (try simp only [List.setIfInBounds_toArray]); (try simp only [List.set_cons_succ]); (try simp only [List.set_cons_zero])
              refine wpAnyH_take (i := 1) (oi := { dst := some 47, op := Op.binOp BinOp.gtr 3 (Operand.tmp 46) (Operand.const (Value.int IntKind.i64 0)) 3, type := 4, pos := "law.go:135", after := #[{ on := 0, ground := Ground.data }], guard := none }) (v := ?vk15) rfl (by kernel_rfl) (by kernel_rfl) (by kernel_rfl) (fun _ _ _ h => h) (Or.inl ⟨by rfl, ?hk15⟩) (BxJ.old ((Old.refl w8).drew) HB.out) ?rk15
              case hk15 => (intro wz hSw; (try dsimp only at hSw); go_simp; try with_reducible rfl)
              (try simp only [Act.put]); (try simp only [List.setIfInBounds_toArray]); (try simp only [List.set_cons_succ]); (try simp only [List.set_cons_zero])
              refine wpAnyH_take (i := 2) (oi := { dst := some 48, op := Op.move (Operand.tmp 47), type := 4, pos := "law.go:135", after := #[{ on := 1, ground := Ground.data }], guard := none }) (v := ?vk16) rfl (by kernel_rfl) (by kernel_rfl) (by kernel_rfl) (fun _ _ _ h => h) (Or.inl ⟨by rfl, ?hk16⟩) (BxJ.old ((Old.refl w8).drew) HB.out) ?rk16
              case hk16 => (intro wz hSw; (try dsimp only at hSw); go_simp; try with_reducible rfl)
              (try simp only [Act.put]); (try simp only [List.setIfInBounds_toArray]); (try simp only [List.set_cons_succ]); (try simp only [List.set_cons_zero])
              refine wpAnyH_take (i := 3) (oi := { dst := some 49, op := Op.move (Operand.tmp 6), type := 33, pos := "law.go:135", after := #[{ on := 2, ground := Ground.guard }], guard := some (2, true) }) (v := ?vk17) rfl (by kernel_rfl) (by kernel_rfl) (by kernel_rfl) (fun _ _ _ h => h) (Or.inl ⟨by rfl, ?hk17⟩) (BxJ.old ((Old.refl w8).drew) HB.out) ?rk17
              case hk17 => (intro wz hSw; (try dsimp only at hSw); go_simp; try with_reducible rfl)
              (try simp only [Act.put]); (try simp only [List.setIfInBounds_toArray]); (try simp only [List.set_cons_succ]); (try simp only [List.set_cons_zero])
              refine wpAnyH_take (i := 4) (oi := { dst := some 50, op := Op.move (Operand.tmp 7), type := 3, pos := "law.go:135", after := #[{ on := 2, ground := Ground.guard }], guard := some (2, true) }) (v := ?vk18) rfl (by kernel_rfl) (by kernel_rfl) (by kernel_rfl) (fun _ _ _ h => h) (Or.inl ⟨by rfl, ?hk18⟩) (BxJ.old ((Old.refl w8).drew) HB.out) ?rk18
              case hk18 => (intro wz hSw; (try dsimp only at hSw); go_simp; try with_reducible rfl)
              (try simp only [Act.put]); (try simp only [List.setIfInBounds_toArray]); (try simp only [List.set_cons_succ]); (try simp only [List.set_cons_zero])
              refine wpAnyH_take (i := 5) (oi := { dst := some 51, op := Op.binOp BinOp.sub 3 (Operand.tmp 50) (Operand.const (Value.int IntKind.i64 1)) 3, type := 3, pos := "law.go:135", after := #[{ on := 4, ground := Ground.data }, { on := 2, ground := Ground.guard }], guard := some (2, true) }) (v := ?vk19) rfl (by kernel_rfl) (by kernel_rfl) (by kernel_rfl) (fun _ _ _ h => h) (Or.inl ⟨by rfl, ?hk19⟩) (BxJ.old ((Old.refl w8).drew) HB.out) ?rk19
              case hk19 => (intro wz hSw; (try dsimp only at hSw); go_simp; try with_reducible rfl)
              (try simp only [Act.put]); (try simp only [List.setIfInBounds_toArray]); (try simp only [List.set_cons_succ]); (try simp only [List.set_cons_zero])
              refine wpAnyH_take (i := 6) (oi := { dst := some 52, op := Op.indexAddr 33 (Operand.tmp 49) (Operand.tmp 51), type := 0, pos := "law.go:135", after := #[{ on := 3, ground := Ground.data }, { on := 5, ground := Ground.data }, { on := 2, ground := Ground.guard }], guard := some (2, true) }) (v := ?vk20) rfl (by kernel_rfl) (by kernel_rfl) (by kernel_rfl) (fun _ _ _ h => h) (Or.inl ⟨by rfl, ?hk20⟩) (BxJ.old ((Old.refl w8).drew) HB.out) ?rk20
              case hk20 => (intro wz hSw; (try dsimp only at hSw); go_simp; try with_reducible rfl)
              (try simp only [Act.put]); (try simp only [List.setIfInBounds_toArray]); (try simp only [List.set_cons_succ]); (try simp only [List.set_cons_zero])
              refine wpAnyH_take (i := 7) (oi := { dst := some 53, op := Op.fieldAddr 37 (Operand.tmp 52) 0, type := 0, pos := "law.go:135", after := #[{ on := 6, ground := Ground.data }, { on := 2, ground := Ground.guard }], guard := some (2, true) }) (v := ?vk21) rfl (by kernel_rfl) (by kernel_rfl) (by kernel_rfl) (fun _ _ _ h => h) (Or.inl ⟨by rfl, ?hk21⟩) (BxJ.old ((Old.refl w8).drew) HB.out) ?rk21
              case hk21 => (intro wz hSw; (try dsimp only at hSw); go_simp; try with_reducible rfl)
              (try simp only [Act.put]); (try simp only [List.setIfInBounds_toArray]); (try simp only [List.set_cons_succ]); (try simp only [List.set_cons_zero])
              refine wpAnyH_take (i := 8) (oi := { dst := some 54, op := Op.load 28 (Operand.tmp 53), type := 28, pos := "law.go:135", after := #[{ on := 7, ground := Ground.data }, { on := 2, ground := Ground.guard }], guard := some (2, true) }) (v := ?vk22) rfl (by kernel_rfl) (by kernel_rfl) (by kernel_rfl) (fun _ _ _ h => h) (Or.inl ⟨by rfl, ?hk22⟩) (BxJ.old ((Old.refl w8).drew) HB.out) ?rk22
              case hk22 => (intro wz hSw; (try dsimp only at hSw); go_simp; try with_reducible rfl)
              (try simp only [Act.put]); (try simp only [List.setIfInBounds_toArray]); (try simp only [List.set_cons_succ]); (try simp only [List.set_cons_zero])
              refine wpAnyH_take (i := 9) (oi := { dst := some 55, op := Op.fieldAddr 37 (Operand.tmp 8) 0, type := 0, pos := "law.go:135", after := #[{ on := 2, ground := Ground.guard }], guard := some (2, true) }) (v := ?vk23) rfl (by kernel_rfl) (by kernel_rfl) (by kernel_rfl) (fun _ _ _ h => h) (Or.inl ⟨by rfl, ?hk23⟩) (BxJ.old ((Old.refl w8).drew) HB.out) ?rk23
              case hk23 => (intro wz hSw; (try dsimp only at hSw); go_simp; try with_reducible rfl)
              (try simp only [Act.put]); (try simp only [List.setIfInBounds_toArray]); (try simp only [List.set_cons_succ]); (try simp only [List.set_cons_zero])
              refine wpAnyH_take (i := 10) (oi := { dst := some 56, op := Op.load 28 (Operand.tmp 55), type := 28, pos := "law.go:135", after := #[{ on := 9, ground := Ground.data }, { on := 2, ground := Ground.guard }], guard := some (2, true) }) (v := ?vk24) rfl (by kernel_rfl) (by kernel_rfl) (by kernel_rfl) (fun _ _ _ h => h) (Or.inl ⟨by rfl, ?hk24⟩) (BxJ.old ((Old.refl w8).drew) HB.out) ?rk24
              case hk24 => (intro wz hSw; (try dsimp only at hSw); go_simp; try with_reducible rfl)
              (try simp only [Act.put]); (try simp only [List.setIfInBounds_toArray]); (try simp only [List.set_cons_succ]); (try simp only [List.set_cons_zero])
              refine wpAnyH_ready (rs := [11]) (by kernel_rfl) (by simp) ?_
              refine AllReadyH.cons (o := { dst := some 57, op := Op.call { callee := Callee.value (Operand.func 15), args := #[Operand.tmp 54, Operand.tmp 56], argTypes := #[28, 28] }, type := 3, pos := "law.go:135", after := #[{ on := 8, ground := Ground.data }, { on := 10, ground := Ground.data }, { on := 2, ground := Ground.chain }, { on := 2, ground := Ground.guard }], guard := some (2, true) }) rfl (fun K hK => ?_) AllReadyH.nil
              refine wantCall2 ?_ 15 (.tmp 54) (.tmp 56) #[28, 28] ?_ (.agg #[.float .f64 y.a, .float .f64 y.b, .bool y.p, .bool y.q]) (.agg #[.float .f64 x.a, .float .f64 x.b, .bool x.p, .bool x.q]) ?_ ?_ ?_ (ent_cmpS _ _) ?_
              · rfl
              · rfl
              · rfl
              · rfl
              · rfl
              refine (HCm.out _ ((Old.refl w8).drew)).mono ?_
              rintro o x25 ⟨rfl, b25⟩
              refine ⟨_, rfl, ?_⟩
              have U25 := ((Old.refl w8).drew).trans b25
              refine hK.out _ _ (BxJ.old U25 HB.out) (fun _ => ?_)
              clear hK K
              (try simp only [Act.put]); (try simp only [List.setIfInBounds_toArray]); (try simp only [List.set_cons_succ]); (try simp only [List.set_cons_zero])
              refine wpAnyH_take (i := 12) (oi := { dst := some 58, op := Op.binOp BinOp.geq 3 (Operand.tmp 57) (Operand.const (Value.int IntKind.i64 0)) 3, type := 4, pos := "law.go:135", after := #[{ on := 11, ground := Ground.data }, { on := 2, ground := Ground.guard }], guard := some (2, true) }) (v := ?vk26) rfl (by kernel_rfl) (by kernel_rfl) (by kernel_rfl) (fun _ _ _ h => h) (Or.inl ⟨by rfl, ?hk26⟩) (BxJ.old U25 HB.out) ?rk26
              case hk26 => (intro wz hSw; (try dsimp only at hSw); go_simp; try with_reducible rfl)
              (try simp only [Act.put]); (try simp only [List.setIfInBounds_toArray]); (try simp only [List.set_cons_succ]); (try simp only [List.set_cons_zero])
              refine wpAnyH_take (i := 13) (oi := { dst := some 59, op := Op.pick (Operand.tmp 48) (Operand.tmp 58) (Operand.const (Value.bool false)), type := 4, pos := "law.go:135", after := #[{ on := 2, ground := Ground.data }, { on := 12, ground := Ground.data }], guard := none }) (v := ?vk27) rfl (by kernel_rfl) (by kernel_rfl) (by kernel_rfl) (fun _ _ _ h => h) (Or.inl ⟨by rfl, ?hk27⟩) (BxJ.old U25 HB.out) ?rk27
              case hk27 => (intro wz hSw; (try dsimp only at hSw); go_simp; try with_reducible rfl)
              (try simp only [Act.put]); (try simp only [List.setIfInBounds_toArray]); (try simp only [List.set_cons_succ]); (try simp only [List.set_cons_zero])
              refine wpAnyH_take (i := 14) (oi := { dst := some 60, op := Op.move (Operand.tmp 59), type := 4, pos := "law.go:135", after := #[{ on := 13, ground := Ground.data }, { on := 11, ground := Ground.chain }], guard := none }) (v := ?vk28) rfl (by kernel_rfl) (by kernel_rfl) (by kernel_rfl) (fun _ _ _ h => h) (Or.inl ⟨by rfl, ?hk28⟩) (BxJ.old U25 HB.out) ?rk28
              case hk28 => (intro wz hSw; (try dsimp only at hSw); go_simp; try with_reducible rfl)
              (try simp only [Act.put]); (try simp only [List.setIfInBounds_toArray]); (try simp only [List.set_cons_succ]); (try simp only [List.set_cons_zero])
              refine wpAnyH_take (i := 15) (oi := { dst := some 61, op := Op.fieldAddr 37 (Operand.tmp 8) 0, type := 0, pos := "law.go:135", after := #[{ on := 14, ground := Ground.guard }], guard := some (14, false) }) (v := ?vk29) rfl (by kernel_rfl) (by kernel_rfl) (by kernel_rfl) (fun _ _ _ h => h) (Or.inl ⟨by rfl, ?hk29⟩) (BxJ.old U25 HB.out) ?rk29
              case hk29 => (intro wz hSw; (try dsimp only at hSw); go_simp; try with_reducible rfl)
              (try simp only [Act.put]); (try simp only [List.setIfInBounds_toArray]); (try simp only [List.set_cons_succ]); (try simp only [List.set_cons_zero])
              refine wpAnyH_take (i := 16) (oi := { dst := some 62, op := Op.load 28 (Operand.tmp 61), type := 28, pos := "law.go:135", after := #[{ on := 15, ground := Ground.data }, { on := 14, ground := Ground.guard }], guard := some (14, false) }) (v := ?vk30) rfl (by kernel_rfl) (by kernel_rfl) (by kernel_rfl) (fun _ _ _ h => h) (Or.inl ⟨by rfl, ?hk30⟩) (BxJ.old U25 HB.out) ?rk30
              case hk30 => (intro wz hSw; (try dsimp only at hSw); go_simp; try with_reducible rfl)
              (try simp only [Act.put]); (try simp only [List.setIfInBounds_toArray]); (try simp only [List.set_cons_succ]); (try simp only [List.set_cons_zero])
              refine wpAnyH_take (i := 18) (oi := { dst := some 64, op := Op.fieldAddr 37 (Operand.tmp 8) 0, type := 0, pos := "law.go:135", after := #[{ on := 14, ground := Ground.guard }], guard := some (14, false) }) (v := ?vk31) rfl (by kernel_rfl) (by kernel_rfl) (by kernel_rfl) (fun _ _ _ h => h) (Or.inl ⟨by rfl, ?hk31⟩) (BxJ.old U25 HB.out) ?rk31
              case hk31 => (intro wz hSw; (try dsimp only at hSw); go_simp; try with_reducible rfl)
              (try simp only [Act.put]); (try simp only [List.setIfInBounds_toArray]); (try simp only [List.set_cons_succ]); (try simp only [List.set_cons_zero])
              refine wpAnyH_take (i := 19) (oi := { dst := some 65, op := Op.load 28 (Operand.tmp 64), type := 28, pos := "law.go:135", after := #[{ on := 18, ground := Ground.data }, { on := 14, ground := Ground.guard }], guard := some (14, false) }) (v := ?vk32) rfl (by kernel_rfl) (by kernel_rfl) (by kernel_rfl) (fun _ _ _ h => h) (Or.inl ⟨by rfl, ?hk32⟩) (BxJ.old U25 HB.out) ?rk32
              case hk32 => (intro wz hSw; (try dsimp only at hSw); go_simp; try with_reducible rfl)
              (try simp only [Act.put]); (try simp only [List.setIfInBounds_toArray]); (try simp only [List.set_cons_succ]); (try simp only [List.set_cons_zero])
              refine wpAnyH_ready (rs := [17]) (by kernel_rfl) (by simp) ?_
              refine AllReadyH.cons (o := { dst := some 63, op := Op.call { callee := Callee.value (Operand.func 17), args := #[Operand.tmp 62], argTypes := #[28] }, type := 28, pos := "law.go:135", after := #[{ on := 16, ground := Ground.data }, { on := 14, ground := Ground.chain }, { on := 14, ground := Ground.guard }], guard := some (14, false) }) rfl (fun K hK => ?_) AllReadyH.nil
              refine wantCall1 ?_ 17 (.tmp 62) #[28] ?_ (.agg #[.float .f64 x.a, .float .f64 x.b, .bool x.p, .bool x.q]) ?_ ?_ (ent_canS _ _) ?_
              · rfl
              · rfl
              · rfl
              · rfl
              refine (HCn.out _ U25).mono ?_
              rintro o x33 ⟨rfl, b33⟩
              refine ⟨_, rfl, ?_⟩
              have U33 := U25.trans b33
              refine hK.out _ _ (BxJ.old U33 HB.out) (fun _ => ?_)
              clear hK K
              (try simp only [Act.put]); (try simp only [List.setIfInBounds_toArray]); (try simp only [List.set_cons_succ]); (try simp only [List.set_cons_zero])
              refine wpAnyH_ready (rs := [20]) (by kernel_rfl) (by simp) ?_
              refine AllReadyH.cons (o := { dst := some 66, op := Op.call { callee := Callee.value (Operand.func 16), args := #[Operand.tmp 63, Operand.tmp 65], argTypes := #[28, 28] }, type := 4, pos := "law.go:135", after := #[{ on := 17, ground := Ground.data }, { on := 19, ground := Ground.data }, { on := 17, ground := Ground.chain }, { on := 14, ground := Ground.guard }], guard := some (14, false) }) rfl (fun K hK => ?_) AllReadyH.nil
              refine wantCall2 ?_ 16 (.tmp 63) (.tmp 65) #[28, 28] ?_ (.agg #[.float .f64 x.a, .float .f64 x.b, .bool x.p, .bool x.q]) (.agg #[.float .f64 x.a, .float .f64 x.b, .bool x.p, .bool x.q]) ?_ ?_ ?_ (ent_sameS _ _) ?_
              · rfl
              · rfl
              · rfl
              · rfl
              · rfl
              refine (HSm.out _ U33).mono ?_
              rintro o x34 ⟨rfl, b34⟩
              refine ⟨_, rfl, ?_⟩
              have U34 := U33.trans b34
              refine hK.out _ _ (BxJ.old U34 HB.out) (fun _ => ?_)
              clear hK K
              (try simp only [Act.put]); (try simp only [List.setIfInBounds_toArray]); (try simp only [List.set_cons_succ]); (try simp only [List.set_cons_zero])
              refine wpAnyH_take (i := 21) (oi := { dst := some 67, op := Op.unOp UnOp.not 4 (Operand.tmp 66), type := 4, pos := "law.go:135", after := #[{ on := 20, ground := Ground.data }, { on := 14, ground := Ground.guard }], guard := some (14, false) }) (v := ?vk35) rfl (by kernel_rfl) (by kernel_rfl) (by kernel_rfl) (fun _ _ _ h => h) (Or.inl ⟨by rfl, ?hk35⟩) (BxJ.old U34 HB.out) ?rk35
              case hk35 => (intro wz hSw; (try dsimp only at hSw); go_simp; try with_reducible rfl)
              (try simp only [Act.put]); (try simp only [List.setIfInBounds_toArray]); (try simp only [List.set_cons_succ]); (try simp only [List.set_cons_zero])
              refine wpAnyH_take (i := 22) (oi := { dst := some 68, op := Op.pick (Operand.tmp 60) (Operand.const (Value.bool true)) (Operand.tmp 67), type := 4, pos := "law.go:135", after := #[{ on := 14, ground := Ground.data }, { on := 21, ground := Ground.data }], guard := none }) (v := ?vk36) rfl (by kernel_rfl) (by kernel_rfl) (by kernel_rfl) (fun _ _ _ h => h) (Or.inl ⟨by rfl, ?hk36⟩) (BxJ.old U34 HB.out) ?rk36
              case hk36 => (intro wz hSw; (try dsimp only at hSw); go_simp; try with_reducible rfl)
              (try simp only [Act.put]); (try simp only [List.setIfInBounds_toArray]); (try simp only [List.set_cons_succ]); (try simp only [List.set_cons_zero])
              refine wpAnyH_done (by kernel_rfl) ?_ _
              refine NoPanic.normal ?_
              have U9 := hid U34
              have HBN9 := hid (BxN.old U9.out HBN.out)
              have HO9 := hid (HO7.out.old (HU8.out.trans U9.out))
              have HU9 := hid (HU8.out.trans U9.out)
              clear HB HCn HSm HBN hxx
              generalize x34 = w10 at *
              go_wp2
              go_loopw [9, 71] (fun r i wq => ∃ t : Nat, t ≤ N ∧ i = .int .i64 (t : Nat) ∧ r = .int .i64 (mostO f x t) ∧ Old w10 wq) (fun r i _ => N - (intOf i).toNat)
              case atStart => exact ⟨0, Nat.zero_le _, rfl, rfl, Old.refl _⟩
              case round =>
                obtain ⟨t, ht, rfl, rfl, hu⟩ := hrel
                have HQ := hid hu
                clear hu
                by_cases htt : t < N
                · obtain ⟨_, a', c', e', _, hc⟩ := HO9.out.old HQ.out
                  obtain ⟨b', off, hsa, hW1, hW2, o0, o1, o2, o3, o4, o5⟩ := hc t htt
                  simp only [Value.slice.injEq] at e'
                  obtain ⟨rfl, _, rfl⟩ := e'
                  subst hsa
                  have m1 : (0 : Int) ≤ (t : Int) := by omega
                  have m2 : (t : Int) < (N : Int) := by omega
                  clear hc
                  have HST := hid (show mostO f x (t + 1) = if 1 ≤ (f t).n ∧ (f t).n ≤ 1099511627776 ∧ cmpP (f t).a (f t).b (f t).p (f t).q x = 0 then max (mostO f x t) (f t).n else mostO f x t from rfl)
                  generalize mostO f x t = r at *
                  have HCc := hid (fun W => cmpS_old (f t).a (f t).b hW1 hW2 (f t).p (f t).q x HMj.out W)
                  generalize f t = z at *
                  generalize cmpP z.a z.b z.p z.q x = cc at *
                  go_upto_region 21 with fail
                  have B5 := hid (op_new wr z _ rfl)
                  have U5 := hid ((Old.refl wr).alloc (.cells #[.int .i64 z.kd, .float .f64 z.a, .float .f64 z.b, .bool z.p, .bool z.q, .int .i64 z.n] 30))
                  clear o0 o1 o2 o3 o4 o5
                  generalize wr.alloc (.cells #[.int .i64 z.kd, .float .f64 z.a, .float .f64 z.b, .bool z.p, .bool z.q, .int .i64 z.n] 30) = w11 at *
                  obtain ⟨o0, o1, o2, o3, o4, o5⟩ := B5.out
                  have HU11 := hid (HQ.out.trans U5.out)
                  obtain ⟨⟨d0, d1, d2, d3⟩, d4⟩ := BxN.old HU11.out HBN9.out
                  clear B5 hW1 hW2
                  by_cases k1 : 1 ≤ z.n
                  · by_cases k2 : z.n ≤ 1099511627776
                    · by_cases k3 : cc = 0
                      · have HST2 := hid (HST.out.trans (if_pos ⟨k1, k2, k3⟩))
                        clear HST
                        subst k3
                        go_upto_region 22 with (go_at_call 15; refine (HCc.out _).mono ?_; rintro e w12 ⟨rfl, u12⟩; have U12 := hid u12; clear u12)
                        have o5' := U12.out.keep o5
                        go_wp2
                        go_roundw
                        case rel => exact ⟨t + 1, htt, by go_num, by rw [HST2.out]; congr 1; omega, HU11.out.trans U12.out⟩
                        case measure => simp [intOf]; omega
                      · have HST2 := hid (HST.out.trans (if_neg (fun q => k3 q.2.2)))
                        have k4 : (cc == 0) = false := by rw [beq_eq_false_iff_ne]; exact k3
                        clear HST
                        go_wp2_with (go_at_call 15; refine (HCc.out _).mono ?_; rintro e w12 ⟨rfl, u12⟩; have U12 := hid u12; clear u12)
                        go_roundw
                        case rel => exact ⟨t + 1, htt, by go_num, by rw [HST2.out], HU11.out.trans U12.out⟩
                        case measure => simp [intOf]; omega
                    · have HST2 := hid (HST.out.trans (if_neg (fun q => k2 q.2.1)))
                      clear HST
                      go_wp2
                      go_roundw
                      case rel => exact ⟨t + 1, htt, by go_num, by rw [HST2.out], HU11.out⟩
                      case measure => simp [intOf]; omega
                  · have HST2 := hid (HST.out.trans (if_neg (fun q => k1 q.1)))
                    clear HST
                    go_wp2
                    go_roundw
                    case rel => exact ⟨t + 1, htt, by go_num, by rw [HST2.out], HU11.out⟩
                    case measure => simp [intOf]; omega
                · obtain rfl : N = t := by omega
                  have hmo := HMoj.out
                  obtain ⟨⟨d0, d1, d2, d3⟩, d4⟩ := BxN.old HQ.out HBN9.out
                  have HQ2 := hid (HU9.out.trans HQ.out)
                  rw [hmo]
                  clear hmo HMoj
                  go_wp2
                  go_roundw
                  case rel => exact ⟨j + 1, hjt, by go_num, HQ2.out⟩
                  case measure => simp [intOf]; omega
          · obtain rfl : j = M := by omega
            go_wp2
            go_ret
            exact ⟨rfl, U7.out.trans HV.out⟩

end Go.Proofs.Ytpmjlphimdhiiaa
