/- vers: Over at every table; what Put keeps; conditions: the lengths fit. -/
import Derived.Test.YtbjikfcegiagjaaXh
namespace Go.Proofs.Ytbjikfcegiagjaa
open Go.RowKit Go.Lib
set_option linter.unusedVariables false
set_option linter.unusedSimpArgs false
set_option maxRecDepth 20000
theorem SpAt.old {m a b : Nat} {p q : Bool} {w w' : World} (u : Old w w') (h : SpAt m a b p q w) : SpAt m a b p q w' := ⟨u.keep h.1, u.keep h.2.1, u.keep h.2.2.1, u.keep h.2.2.2⟩
/-- Has a span a key? -/
def hasB (a b : Nat) (p q : Bool) (k : Nat) : Bool := Fl.hasF (Fl.csU a b p q) (Fl.csV a b p q) (Fl.csE a b p q) k
/-- The greatest number of the first keys that are had. -/
def overT (h : Nat → Bool) (L : List It) : Nat → Int
  | 0 => 0
  | k + 1 => if h (atI L k).k = true then max (overT h L k) (atI L k).n else overT h L k
theorem has_old (a b k : Nat) (ha : Fl.W a) (hb : Fl.W b) (hk : Fl.W k) (p q : Bool) (w : World) : Calls Try.prog 27 #[.agg #[.float .f64 a, .float .f64 b, .bool p, .bool q], .float .f64 k] w fun e w' => e = .returned (.bool (hasB a b p q k)) ∧ Old w w' := (has_any a b k ha hb hk p q w).mono fun e w' h => ⟨h.1, h.2.old⟩
attribute [local go_sem] run_bits run_frombits run_store_float
set_option maxHeartbeats 2000000 in
set_option maxRecDepth 20000 in
theorem over_any (base b : Nat) (most : Int) (v : Value) (L : List It) (x y : Nat) (hx : Fl.W x) (hy : Fl.W y) (p q : Bool) (w : World) (h : TabAt base w b most v L) (hG : Good L) (hL : L.length ≤ 1000000) :
    Calls Try.prog 20 #[.pointer (some ⟨b, 0, none⟩), .agg #[.float .f64 x, .float .f64 y, .bool p, .bool q]] w fun e w' => e = .returned (.int .i64 (overT (hasB x y p q) L L.length)) ∧ Old w w' := by
  have HO := hid ((Old.refl w).alloc (.cells #[.float .f64 x, .float .f64 y, .bool p, .bool q] 25))
  have HS := hid (show SpAt w.heap.size x y p q (w.alloc (.cells #[.float .f64 x, .float .f64 y, .bool p, .bool q] 25)) by simp [SpAt])
  have HT := hid (h.old HO.out)
  have HG := hid hG
  clear h hG
  go_enter Try.func20, Try.ntmps20
  go_upto_region 2 with fail
  generalize w.alloc (.cells #[.float .f64 x, .float .f64 y, .bool p, .bool q] 25) = w1 at *
  obtain ⟨hb, h0, hv, hf, ho, hne⟩ := HT.out
  obtain ⟨a, c, hva⟩ := ho.len
  subst hva
  have HSh := hid (fun (e : 0 < L.length) => ho.shape e)
  clear ho h0 hf
  have hbN : L.length ≤ 9223372036854775807 := by omega
  generalize hN : L.length = N at *
  go_wp2
  go_loopw [5, 13] (fun r i wr => ∃ k : Nat, k ≤ N ∧ i = .int .i64 (k : Nat) ∧ r = .int .i64 (overT (hasB x y p q) L k) ∧ Old w1 wr) (fun r i _ => N - (intOf i).toNat)
  case atStart => exact ⟨0, Nat.zero_le _, rfl, rfl, Old.refl _⟩
  case round =>
    obtain ⟨k, hk, rfl, rfl, hu⟩ := hrel
    have HU := hid hu
    clear hu
    by_cases hlt : k < N
    · obtain ⟨g, cap, he, hgb, hgl, hi, hfz⟩ := HSh.out (by omega)
      simp only [Value.slice.injEq] at he
      obtain ⟨rfl, _, rfl⟩ := he
      obtain ⟨c0, c1⟩ := (hi k hlt).old HU.out
      have l1 : (0 : Int) ≤ (k : Int) := by omega
      have l2 : (k : Int) < (N : Int) := by omega
      clear hi hfz
      have hgk := (HG.out.at k (by omega)).1
      go_upto_region 5 with fail
      have B4 := hid (item_new wr (atI L k) _ rfl)
      have U4 := hid ((Old.refl wr).alloc (.cells (itc (atI L k)).toArray 52))
      have S4 := hid (SpAt.old (HU.out.trans U4.out) HS.out)
      have hwe : wr.alloc (.cells #[.float .f64 (atI L k).k, .int .i64 (atI L k).n] 52) = wr.alloc (.cells (itc (atI L k)).toArray 52) := rfl
      rw [hwe]
      clear hwe c0 c1
      generalize wr.alloc (.cells (itc (atI L k)).toArray 52) = w4 at *
      obtain ⟨s0, s1, s2, s3⟩ := S4.out
      obtain ⟨b0, b1⟩ := B4.out
      have HST := hid (show overT (hasB x y p q) L (k + 1) = if hasB x y p q (atI L k).k = true then max (overT (hasB x y p q) L k) (atI L k).n else overT (hasB x y p q) L k from rfl)
      generalize hr : overT (hasB x y p q) L k = r at *
      have HC := hid (fun W => has_old x y (atI L k).k hx hy hgk p q W)
      cases hh : hasB x y p q (atI L k).k
      · rw [hh] at HC HST
        have HST2 := hid (HST.out.trans (if_neg (by simp)))
        clear HST hh hr
        go_wp2_with (go_at_call 27; refine (HC.out _).mono ?_; rintro e w5 ⟨rfl, u5⟩; have U5 := hid u5; clear u5)
        go_roundw
        case rel => exact ⟨k + 1, hlt, by go_num, by rw [HST2.out], (HU.out.trans U4.out).trans U5.out⟩
        case measure => simp [intOf]; omega
      · rw [hh] at HC HST
        have HST2 := hid (HST.out.trans (if_pos rfl))
        clear HST hh hr
        go_upto_region 6 with (go_at_call 27; refine (HC.out _).mono ?_; rintro e w5 ⟨rfl, u5⟩; have U5 := hid u5; clear u5)
        have b1' := U5.out.keep b1
        go_wp2
        · go_roundw
          case rel => exact ⟨k + 1, hlt, by go_num, by rw [HST2.out]; congr 1; omega, (HU.out.trans U4.out).trans U5.out⟩
          case measure => simp [intOf]; omega
    · obtain rfl : k = N := by omega
      go_wp2
      go_ret
      exact ⟨by rw [hN]; rfl, HO.out.trans HU.out⟩
theorem put_good {key : Nat} {n most : Int} {L : List It} (hk : Fl.W key) (h : Good L) : Good (putR key n most L).2 := by
  have H : Fl.nan key = false → ¬ (n < 1 ∨ 1099511627776 < n) → Good (putL ⟨Fl.canon key, n⟩ L) := fun hn hb => by
    refine ⟨put_asc _ L h.1, fun z hz => ?_⟩
    rcases mem_put _ L z hz with rfl | e | ⟨y, hy, _, rfl⟩
    · exact ⟨Fl.canon_lt key hk, by rw [Fl.nan_canon]; exact hn, Fl.canon_canon key, by show 1 ≤ n; omega, by show n ≤ 1099511627776; omega⟩
    · exact h.2 z e
    · have := h.2 y hy
      exact ⟨this.1, this.2.1, this.2.2.1, by rw [n_with]; show 1 ≤ max y.n n; omega, by rw [n_with]; show max y.n n ≤ 1099511627776; omega⟩
  unfold putR
  by_cases h1 : Fl.nan key = true
  · rw [if_pos h1]; exact h
  · rw [if_neg h1]
    by_cases h2 : n < 1 ∨ 1099511627776 < n
    · rw [if_pos h2]; exact h
    · rw [if_neg h2]
      have q := H (by simpa using h1) h2
      (repeat' split) <;> first | exact q | exact h
theorem put_most {key : Nat} {n most : Int} {L : List It} (hG : Good L) (h : (L.length : Int) ≤ most) : ((putR key n most L).2.length : Int) ≤ most := by
  unfold putR
  (repeat' split) <;> try exact h
  · rename_i ht
    simp [there] at ht
    have hp := put_set ⟨Fl.canon key, n⟩ L hG.1 (by rw [kc_new]; exact ht.1) (by rw [kc_new]; exact ht.2)
    simp only [hp, List.length_set]
    exact h
  · rename_i hm
    have := put_len ⟨Fl.canon key, n⟩ L
    simp only
    omega
end Go.Proofs.Ytbjikfcegiagjaa
