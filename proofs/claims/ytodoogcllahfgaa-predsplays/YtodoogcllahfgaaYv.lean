/- preds: the document's At; conditions: the lengths fit. -/
import Derived.Test.YtodoogcllahfgaaYp
import Derived.Test.YtodoogcllahfgaaYs
namespace Go.Proofs.Ytodoogcllahfgaa
open Go.RowKit Go.Lib
set_option linter.unusedVariables false
set_option linter.unusedSimpArgs false
set_option maxRecDepth 20000
theorem ent_rhas (args : Array Value) (w : World) : (callFunc 29 args).run Try.prog w = .ok (.enter 29 args) w := by kernel_rfl
theorem rhas_old (l h : Nat) (k : Nat) (hk : Fl.W k) (w : World) : Calls Try.prog 29 #[.agg #[.int .u64 (l : Nat), .int .u64 (h : Nat)], .float .f64 k] w fun e w' => e = .returned (.bool (Fl.rHasB l h k)) ∧ Old w w' := (rHas_any _ _ k hk w).mono fun e w' h => ⟨h.1, h.2.old⟩
abbrev AtS (tb : Nat) (v : Value) (g k : Nat) (z : Rt) (w : World) : Prop := w.cell? ⟨tb, 1, none⟩ = some v ∧ w.cell? ⟨g, k * 3, none⟩ = some (.int .u64 (z.l : Nat)) ∧ w.cell? ⟨g, k * 3 + 1, none⟩ = some (.int .u64 (z.h : Nat)) ∧ w.cell? ⟨g, k * 3 + 2, none⟩ = some (.int .i64 z.n)
theorem AtS.old {tb : Nat} {v : Value} {g k : Nat} {z : Rt} {w w' : World} (u : Old w w') (h : AtS tb v g k z w) : AtS tb v g k z w' := ⟨u.keep h.1, u.keep h.2.1, u.keep h.2.2.1, u.keep h.2.2.2⟩
attribute [local go_sem] run_bits run_frombits run_store_float
set_option maxHeartbeats 4000000 in
set_option maxRecDepth 20000 in
theorem rAt_any (base : Nat) (most : Int) (v : Value) (M : List Rt) (key : Nat) (hkey : Fl.W key) (w : World) (h : OwnM base w v M) (hl : M.length ≤ 1000000) :
    Calls Try.prog 14 #[.agg #[.int .i64 most, v], .float .f64 key] w fun e w' => e = .returned (.int .i64 (overQ key M M.length)) ∧ Old w w' := by
  obtain ⟨sa, sc, hv⟩ := h.len
  have HSh := hid (fun (e : 0 < M.length) => h.shape e)
  subst hv
  have HV := hid ((Old.refl w).alloc (.cells #[.int .i64 most, .slice sa M.length sc] 29))
  have HB := hid (show (w.alloc (.cells #[.int .i64 most, .slice sa M.length sc] 29)).cell? ⟨w.heap.size, 1, none⟩ = some (.slice sa M.length sc) from by rw [cell_of_heap (alloc_heap w _ _ rfl)]; rfl)
  clear h
  generalize hN : M.length = N at *
  have hN1 := hid hN
  clear hN
  go_enter Try.func14, Try.ntmps14
  go_upto_region 1 with fail
  generalize w.alloc (.cells #[.int .i64 most, .slice sa N sc] 29) = w1 at *
  generalize w.heap.size = tb at *
  go_wp2
  go_loopw [5, 6] (fun r i wr => ∃ k : Nat, k ≤ N ∧ i = .int .i64 (k : Nat) ∧ r = .int .i64 (overQ key M k) ∧ Old w1 wr) (fun _ i _ => N - (intOf i).toNat)
  case atStart => exact ⟨0, Nat.zero_le _, rfl, rfl, Old.refl _⟩
  case round =>
    obtain ⟨k, hkN, rfl, rfl, hu⟩ := hrel
    have HU := hid hu
    clear hu
    have b1 := HU.out.keep HB.out
    by_cases hlt : k < N
    · obtain ⟨g, cap, he, hgb, hgl, hi⟩ := HSh.out (by omega)
      simp only [Value.slice.injEq] at he
      obtain ⟨rfl, _, rfl⟩ := he
      obtain ⟨c0, c1, c2⟩ := (hi k hlt).old (HV.out.trans HU.out)
      have l1 : (0 : Int) ≤ (k : Int) := by omega
      have l2 : (k : Int) < (N : Int) := by omega
      clear hi
      have HS := hid (show AtS tb (.slice (some ⟨g, 0, none⟩) N sc) g k (atR M k) wr from ⟨b1, c0, c1, c2⟩)
      have HH2 := hid (fun (W : World) (u : Old wr W) => rhas_old (atR M k).l (atR M k).h key hkey W)
      have HST := hid (show overQ key M (k + 1) = if Fl.rHasB (atR M k).l (atR M k).h key = true then max (overQ key M k) (atR M k).n else overQ key M k from rfl)
      generalize overQ key M k = r at *
      generalize hzz : atR M k = z at *
      cases hh : Fl.rHasB z.l z.h key
      · rw [hh] at HH2
        have HST2 := hid (HST.out.trans (if_neg (by rw [hh]; simp)))
        clear HST hh
        go_wp2_with (first | (go_at_call 29; refine (HH2.out _ (Old.refl _)).mono ?_; rintro e w4 ⟨rfl, u4⟩; have U9 := hid u4; clear u4; obtain ⟨e0, e1, e2, e3⟩ := AtS.old U9.out HS.out))
        go_roundw
        case rel => exact ⟨k + 1, hlt, by go_num, by rw [HST2.out]; try (congr 1; omega), HU.out.trans U9.out⟩
        case measure => simp [intOf]; omega
      · rw [hh] at HH2
        have HST2 := hid (HST.out.trans (if_pos hh))
        clear HST hh
        by_cases hc : r < z.n
        · go_wp2_with (first | (go_at_call 29; refine (HH2.out _ (Old.refl _)).mono ?_; rintro e w4 ⟨rfl, u4⟩; have U9 := hid u4; clear u4; obtain ⟨e0, e1, e2, e3⟩ := AtS.old U9.out HS.out))
          go_roundw
          case rel => exact ⟨k + 1, hlt, by go_num, by rw [HST2.out]; try (congr 1; omega), HU.out.trans U9.out⟩
          case measure => simp [intOf]; omega
        · go_wp2_with (first | (go_at_call 29; refine (HH2.out _ (Old.refl _)).mono ?_; rintro e w4 ⟨rfl, u4⟩; have U9 := hid u4; clear u4; obtain ⟨e0, e1, e2, e3⟩ := AtS.old U9.out HS.out))
          go_roundw
          case rel => exact ⟨k + 1, hlt, by go_num, by rw [HST2.out]; try (congr 1; omega), HU.out.trans U9.out⟩
          case measure => simp [intOf]; omega
    · obtain rfl : k = N := by omega
      have HE := hid (show overQ key M M.length = overQ key M k from by rw [hN1.out])
      go_wp2
      go_ret
      exact ⟨ret_i (by first | rfl | exact HE.out.symm), HV.out.trans HU.out⟩
end Go.Proofs.Ytodoogcllahfgaa
