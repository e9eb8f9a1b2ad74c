/- preds: find and At at every table; conditions: the lengths fit. -/
import Derived.Test.YtodoogcllahfgaaYf
import Derived.Test.YtodoogcllahfgaaCmv
import Derived.Test.YtodoogcllahfgaaSd
namespace Go.Proofs.Ytodoogcllahfgaa
open Go.RowKit Go.Lib
set_option linter.unusedVariables false
set_option linter.unusedSimpArgs false
set_option maxRecDepth 20000
def Okp (x : It) : Prop := Fl.IsForm x.a x.b false ∧ x.p = false ∧ x.q = false ∧ 1 ≤ x.n ∧ x.n ≤ 1099511627776
/-- A table's items as they must be. -/
def Good (L : List It) : Prop := Asc L ∧ ∀ x ∈ L, Okp x
theorem Good.at {L : List It} (h : Good L) (i : Nat) (hi : i < L.length) : Okp (atI L i) := by
  rw [atI_get L i hi]; exact h.2 _ (List.getElem_mem hi)
/-- A span's key: 0: it has no keys. -/
def skc (a b : Nat) (p q : Bool) : Nat := if Fl.csE a b p q = true then 0 else 18446744073709551616 * Fl.code (Fl.csU a b p q) + Fl.code (Fl.csV a b p q)
def cmpP (a b : Nat) (p q : Bool) (x : It) : Int := Fl.fc (Fl.csU a b p q) (Fl.csV a b p q) (Fl.csE a b p q) x.a x.b false
theorem cmpP_kc (a b : Nat) (ha : Fl.W a) (hb : Fl.W b) (p q : Bool) (x : It) (hx : Okp x) : (0 < cmpP a b p q x ↔ kc x < skc a b p q) ∧ (cmpP a b p q x = 0 ↔ kc x = skc a b p q) := by
  have hf := hx.1
  have c1 := Fl.code_le x.a hf.1
  have c2 := Fl.code_le x.b hf.2.1
  have n1 := Fl.code_pos x.a hf.1 (hf.2.2.2 rfl).2.2.1
  have d1 := Fl.code_le (Fl.csU a b p q) (Fl.csU_W a b p q ha)
  have d2 := Fl.code_le (Fl.csV a b p q) (Fl.csV_W a b p q hb)
  unfold cmpP skc Fl.fc kc
  generalize Fl.code x.a = ca at *
  generalize Fl.code x.b = cb at *
  generalize Fl.code (Fl.csU a b p q) = cu at *
  generalize Fl.code (Fl.csV a b p q) = cv at *
  cases Fl.csE a b p q
  · simp only [Bool.false_eq_true, if_false]
    by_cases h1 : cu < ca
    · rw [if_pos h1]; omega
    · rw [if_neg h1]
      by_cases h2 : ca < cu
      · rw [if_pos h2]; omega
      · rw [if_neg h2]
        by_cases h3 : cv < cb
        · rw [if_pos h3]; omega
        · rw [if_neg h3]
          by_cases h4 : cb < cv
          · rw [if_pos h4]; omega
          · rw [if_neg h4]; omega
  · simp only [if_true, Bool.false_eq_true, if_false]
    omega
def there (c : Nat) (L : List It) : Bool := decide (pos c L < L.length) && decide (kc (atI L (pos c L)) = c)
theorem SpAt.old {m a b : Nat} {p q : Bool} {w w' : World} (u : Old w w') (h : SpAt m a b p q w) : SpAt m a b p q w' := ⟨u.keep h.1, u.keep h.2.1, u.keep h.2.2.1, u.keep h.2.2.2⟩
/-- What find's function reads. -/
abbrev F1 (kb a b : Nat) (p q : Bool) (tb t g n cap i : Nat) (x : It) (w : World) : Prop := SpAt kb a b p q w ∧ w.cell? ⟨tb, 0, none⟩ = some (.pointer (some ⟨t, 0, none⟩)) ∧ w.cell? ⟨t, 1, none⟩ = some (.slice (some ⟨g, 0, none⟩) n cap) ∧ w.cell? ⟨g, i * 5, none⟩ = some (.float .f64 x.a) ∧ w.cell? ⟨g, i * 5 + 1, none⟩ = some (.float .f64 x.b) ∧ w.cell? ⟨g, i * 5 + 2, none⟩ = some (.bool x.p) ∧ w.cell? ⟨g, i * 5 + 3, none⟩ = some (.bool x.q)
theorem F1.old {kb a b : Nat} {p q : Bool} {tb t g n cap i : Nat} {x : It} {w w' : World} (u : Old w w') (h : F1 kb a b p q tb t g n cap i x w) : F1 kb a b p q tb t g n cap i x w' := ⟨SpAt.old u h.1, u.keep h.2.1, u.keep h.2.2.1, u.keep h.2.2.2.1, u.keep h.2.2.2.2.1, u.keep h.2.2.2.2.2.1, u.keep h.2.2.2.2.2.2⟩
theorem cmpS_old (a b : Nat) (ha : Fl.W a) (hb : Fl.W b) (p q : Bool) (x : It) (hx : Okp x) (w : World) : Calls Try.prog 36 #[.agg #[.float .f64 a, .float .f64 b, .bool p, .bool q], .agg #[.float .f64 x.a, .float .f64 x.b, .bool x.p, .bool x.q]] w fun e w' => e = .returned (.int .i64 (cmpP a b p q x)) ∧ Old w w' := by
  obtain ⟨hf, h1, h2, _⟩ := hx
  rw [h1, h2]
  exact (cmp_at (Fl.cs_isForm a b p q ha hb) hf a b x.a x.b p q false false (fun w => canonS_any a b ha hb p q w) (fun w => canon_form x.a x.b false hf w) w).mono fun e w' h => ⟨h.1, h.2.old⟩
attribute [local go_sem] run_bits run_frombits run_store_float
set_option maxHeartbeats 1000000 in
set_option maxRecDepth 20000 in
theorem find1_any (base b kb tb : Nat) (most : Int) (v : Value) (L : List It) (x y : Nat) (p q : Bool) (i : Nat) (hx : Fl.W x) (hy : Fl.W y) (w : World) (h : TabAt base w b most v L) (hL : L.length ≤ 1000000) (hi : i < L.length) (hG : Okp (atI L i)) (h1 : SpAt kb x y p q w) (h2 : w.cell? ⟨tb, 0, none⟩ = some (.pointer (some ⟨b, 0, none⟩))) :
    Calls Try.prog 35 #[.int .i64 (i : Nat), .pointer (some ⟨kb, 0, none⟩), .pointer (some ⟨tb, 0, none⟩)] w fun e w' => e = .returned (.int .i64 (cmpP x y p q (atI L i))) ∧ Old w w' := by
  obtain ⟨hb, h0, hv, hf, ho, hne⟩ := h
  obtain ⟨g, cap, rfl, hgb, hgl, hit, hfz⟩ := ho.shape (by omega)
  obtain ⟨c0, c1, c2, c3, c4⟩ := hit i hi
  have l1 : (0 : Int) ≤ (i : Int) := by omega
  have l2 : (i : Int) < ((L.length : Nat) : Int) := by omega
  have hbN : L.length ≤ 9223372036854775807 := by omega
  have HS := hid (show F1 kb x y p q tb b g L.length cap i (atI L i) w from ⟨h1, h2, hv, c0, c1, c2, c3⟩)
  have HC := hid (fun W => cmpS_old x y hx hy p q (atI L i) hG W)
  clear ho hit hfz h0 hf c0 c1 c2 c3 c4 h1 h2 hv hG
  go_enter Try.func35, Try.ntmps35
  go_upto_region 1 with fail
  go_region_held3 (F1 kb x y p q tb b g L.length cap i (atI L i)) (first | assumption | exact HS.out | exact F1.old ((Old.refl w).drew) HS.out | (refine F1.old ?_ HS.out; assumption)) (first | (go_at_call 36; refine (HC.out _).mono ?_; rintro e w1 ⟨rfl, u1⟩; have U1 : Old w w1 := ((Old.refl w).drew).trans u1))
  all_goals go_wp2
  all_goals go_ret
  all_goals exact ⟨rfl, U1⟩
set_option maxHeartbeats 1000000 in
set_option maxRecDepth 20000 in
theorem find_t (base b : Nat) (most : Int) (v : Value) (L : List It) (x y : Nat) (p q : Bool) (hx : Fl.W x) (hy : Fl.W y) (w : World) (h : TabAt base w b most v L) (hG : Good L) (hL : L.length ≤ 1000000) :
    Calls Try.prog 20 #[.pointer (some ⟨b, 0, none⟩), .agg #[.float .f64 x, .float .f64 y, .bool p, .bool q]] w fun e w' => e = .returned (.tuple #[.int .i64 (pos (skc x y p q) L : Nat), .bool (there (skc x y p q) L)]) ∧ Old w w' := by
  have hO : Old w ((w.alloc (.cells #[.pointer (some ⟨b, 0, none⟩)] 24)).alloc (.cells #[.float .f64 x, .float .f64 y, .bool p, .bool q] 32)) := ((Old.refl w).alloc _).alloc _
  have e1 : ((w.alloc (.cells #[.pointer (some ⟨b, 0, none⟩)] 24)).alloc (.cells #[.float .f64 x, .float .f64 y, .bool p, .bool q] 32)).cell? ⟨w.heap.size, 0, none⟩ = some (.pointer (some ⟨b, 0, none⟩)) := by simp
  have e2 : SpAt (w.heap.size + 1) x y p q ((w.alloc (.cells #[.pointer (some ⟨b, 0, none⟩)] 24)).alloc (.cells #[.float .f64 x, .float .f64 y, .bool p, .bool q] 32)) := by simp [SpAt]
  have HO := hid hO
  have E1 := hid e1
  have E2 := hid e2
  have HT := hid (h.old hO)
  clear hO e1 e2 h
  have hN : L.length ≤ 4611686018427387903 := by omega
  go_enter Try.func20, Try.ntmps20
  go_upto_region 1 with fail
  generalize ((w.alloc (.cells #[.pointer (some ⟨b, 0, none⟩)] 24)).alloc (.cells #[.float .f64 x, .float .f64 y, .bool p, .bool q] 32)) = w2 at *
  have HF := hid (find_v L.length (fun i => cmpP x y p q (atI L i)) (pos (skc x y p q) L) (there (skc x y p q) L) (.pointer (some ⟨w.heap.size + 1, 0, none⟩)) (.pointer (some ⟨w.heap.size, 0, none⟩)) w2 hN (pos_le _ _)
    (fun i hi => (cmpP_kc x y hx hy p q (atI L i) (hG.at i (by have := pos_le (skc x y p q) L; omega))).1.2 (pos_lt _ L i hi))
    (fun i h1 h2 => by
      have := pos_ge _ L hG.1 i h1 h2
      have q1 := (cmpP_kc x y hx hy p q (atI L i) (hG.at i h2)).1
      show cmpP x y p q (atI L i) ≤ 0
      by_cases e : 0 < cmpP x y p q (atI L i)
      · have := q1.1 e; omega
      · omega)
    (by
      unfold there
      by_cases hp : pos (skc x y p q) L < L.length
      · have q1 := (cmpP_kc x y hx hy p q (atI L (pos (skc x y p q) L)) (hG.at _ hp)).2
        simp only [hp, decide_true, Bool.true_and]
        congr 1
        exact propext q1.symm
      · simp [hp])
    (fun i hi W hW => find1_any base b (w.heap.size + 1) w.heap.size most v L x y p q i hx hy W (HT.out.old hW) hL hi (hG.at i hi) (SpAt.old hW E2.out) (hW.keep E1.out)))
  obtain ⟨hb, h0, hv, hf, ho, hne⟩ := HT.out
  obtain ⟨a, c, hva⟩ := ho.len
  subst hva
  have d1 := E1.out
  go_wp2_with (go_at_call 34; refine HF.out.mono ?_; rintro e w3 ⟨rfl, u3⟩; have U3 := hid u3; clear u3)
  exact bodyPost_ret (v := .tuple #[.int .i64 (pos (skc x y p q) L : Nat), .bool (there (skc x y p q) L)]) (by simp [results, Try.results20, go_sem]) rfl ⟨rfl, HO.out.trans U3.out⟩
/-- Has a span a key? -/
def hasB (a b : Nat) (p q : Bool) (k : Nat) : Bool := Fl.hasF (Fl.csU a b p q) (Fl.csV a b p q) (Fl.csE a b p q) k
/-- The greatest number of the first spans that have a key. -/
def overT (k : Nat) (L : List It) : Nat → Int
  | 0 => 0
  | j + 1 => if hasB (atI L j).a (atI L j).b (atI L j).p (atI L j).q k = true then max (overT k L j) (atI L j).n else overT k L j
theorem has_old (a b k : Nat) (ha : Fl.W a) (hb : Fl.W b) (hk : Fl.W k) (p q : Bool) (w : World) : Calls Try.prog 28 #[.agg #[.float .f64 a, .float .f64 b, .bool p, .bool q], .float .f64 k] w fun e w' => e = .returned (.bool (hasB a b p q k)) ∧ Old w w' := (has_any a b k ha hb hk p q w).mono fun e w' h => ⟨h.1, h.2.old⟩
set_option maxHeartbeats 2000000 in
set_option maxRecDepth 20000 in
theorem at_any (base b : Nat) (most : Int) (v : Value) (L : List It) (key : Nat) (hk : Fl.W key) (w : World) (h : TabAt base w b most v L) (hG : Good L) (hL : L.length ≤ 1000000) :
    Calls Try.prog 13 #[.pointer (some ⟨b, 0, none⟩), .float .f64 key] w fun e w' => e = .returned (.int .i64 (overT key L L.length)) ∧ Old w w' := by
  have HT := hid h
  have HG := hid hG
  clear h hG
  obtain ⟨hb, h0, hv, hf, ho, hne⟩ := HT.out
  obtain ⟨a, c, hva⟩ := ho.len
  subst hva
  have HSh := hid (fun (e : 0 < L.length) => ho.shape e)
  clear ho h0 hf
  have hbN : L.length ≤ 9223372036854775807 := by omega
  generalize hN : L.length = N at *
  go_enter Try.func13, Try.ntmps13
  go_wp2
  go_loopw [5, 13] (fun r i wr => ∃ k : Nat, k ≤ N ∧ i = .int .i64 (k : Nat) ∧ r = .int .i64 (overT key L k) ∧ Old w wr) (fun r i _ => N - (intOf i).toNat)
  case atStart => exact ⟨0, Nat.zero_le _, rfl, rfl, Old.refl _⟩
  case round =>
    obtain ⟨k, hk', rfl, rfl, hu⟩ := hrel
    have HU := hid hu
    clear hu
    by_cases hlt : k < N
    · obtain ⟨g, cap, he, hgb, hgl, hi, hfz⟩ := HSh.out (by omega)
      simp only [Value.slice.injEq] at he
      obtain ⟨rfl, _, rfl⟩ := he
      obtain ⟨c0, c1, c2, c3, c4⟩ := (hi k hlt).old HU.out
      have l1 : (0 : Int) ≤ (k : Int) := by omega
      have l2 : (k : Int) < (N : Int) := by omega
      clear hi hfz
      have hgk := HG.out.at k (by omega)
      go_upto_region 5 with fail
      have B4 := hid (item_new wr (atI L k) _ rfl)
      have U4 := hid ((Old.refl wr).alloc (.cells (itc (atI L k)).toArray 49))
      have hwe : wr.alloc (.cells #[.float .f64 (atI L k).a, .float .f64 (atI L k).b, .bool (atI L k).p, .bool (atI L k).q, .int .i64 (atI L k).n] 49) = wr.alloc (.cells (itc (atI L k)).toArray 49) := rfl
      rw [hwe]
      clear hwe c0 c1 c2 c3 c4
      generalize wr.alloc (.cells (itc (atI L k)).toArray 49) = w4 at *
      obtain ⟨b0, b1, b2, b3, b4⟩ := B4.out
      have HST := hid (show overT key L (k + 1) = if hasB (atI L k).a (atI L k).b (atI L k).p (atI L k).q key = true then max (overT key L k) (atI L k).n else overT key L k from rfl)
      generalize hr : overT key L k = r at *
      have HC := hid (fun W => has_old (atI L k).a (atI L k).b key hgk.1.1 hgk.1.2.1 hk (atI L k).p (atI L k).q W)
      clear hgk
      cases hh : hasB (atI L k).a (atI L k).b (atI L k).p (atI L k).q key
      · rw [hh] at HC HST
        have HST2 := hid (HST.out.trans (if_neg (by simp)))
        clear HST hh hr
        go_wp2_with (go_at_call 28; refine (HC.out _).mono ?_; rintro e w5 ⟨rfl, u5⟩; have U5 := hid u5; clear u5)
        go_roundw
        case rel => exact ⟨k + 1, hlt, by go_num, by rw [HST2.out], (HU.out.trans U4.out).trans U5.out⟩
        case measure => simp [intOf]; omega
      · rw [hh] at HC HST
        have HST2 := hid (HST.out.trans (if_pos rfl))
        clear HST hh hr
        go_upto_region 6 with (go_at_call 28; refine (HC.out _).mono ?_; rintro e w5 ⟨rfl, u5⟩; have U5 := hid u5; clear u5)
        have b4' := U5.out.keep b4
        go_wp2
        go_roundw
        case rel => exact ⟨k + 1, hlt, by go_num, by rw [HST2.out]; congr 1; omega, (HU.out.trans U4.out).trans U5.out⟩
        case measure => simp [intOf]; omega
    · obtain rfl : k = N := by omega
      go_wp2
      go_ret
      exact ⟨rfl, HU.out⟩
end Go.Proofs.Ytodoogcllahfgaa
