/- serial.Reads at every history and order; conditions: the rows lie in memory. -/
import Derived.Test.YtgeinnaljlajoaaGreatJi
namespace Go.Proofs.YtgeinnaljlajoaaGreat
open Go.RowKit Go.Lib
set_option linter.unusedVariables false
set_option linter.unusedSimpArgs false
set_option maxRecDepth 20000
def mrB (d : Nat → Dn) (L : List Int) (i : Nat) : Bool := Fl.anyG (fun j => !raF d ((d i).s.x3 j) L 0) (d i).s.n3
def rdH (d : Nat → Dn) (n : Nat) (L : List Int) : Bool := rtB d n && (eoB d n L && !Fl.anyG (mrB d L) n)
attribute [local go_sem] run_bits run_frombits run_store_float eqF
set_option maxHeartbeats 1000000 in
theorem index_rd (v : Value) (n : Nat) (f : Nat → Nat) (g : Nat → Bool) (kb ob : Nat) (w : World) (hv : FRow w v n f) (hf : ∀ i, i < n → ∀ W, Old w W → Calls Tryz.prog 43 #[.float .f64 (f i), .pointer (some ⟨kb, 0, none⟩), .pointer (some ⟨ob, 0, none⟩)] W fun e w' => e = .returned (.bool (g i)) ∧ Old W w') :
    Calls Tryz.prog 80 #[v, .func (.func 43) #[] #[.pointer (some ⟨kb, 0, none⟩), .pointer (some ⟨ob, 0, none⟩)]] w fun e w' => ∃ r : Int, e = .returned (.int .i64 r) ∧ decide (0 ≤ r) = Fl.anyG g n ∧ Old w w' := by
 obtain ⟨hm, a, c, rfl, hc⟩ := hv
 have HC := hid hc
 have HF := hid hf
 have hmm := hm
 clear hc hf hm
 go_enter Tryz.func80, Tryz.ntmps80
 go_wp2
 go_loopw [8] (fun i wr => ∃ k : Nat, k ≤ n ∧ i = .int .i64 (k : Nat) ∧ Fl.anyG g k = false ∧ Old w wr) (fun i _ => n - (intOf i).toNat)
 case atStart => exact ⟨0, Nat.zero_le _, rfl, rfl, Old.refl _⟩
 case round =>
  obtain ⟨k, hk, rfl, h0, hu⟩ := hrel
  by_cases hlt : k < n
  ·obtain ⟨b, off, ha, hW, c0⟩ := HC.out k hlt
   subst ha
   have x0 := hu.keep c0
   have HK := hid (HF.out k hlt)
   have l1 : (0 : Int) ≤ (k : Int) := by omega
   have l2 : (k : Int) < (n : Int) := by omega
   have H0 := hid h0
   clear c0 h0 HF HC
   generalize f k = X at *
   cases hg : g k
   ·rw [hg] at HK
    have HS := hid (Fl.anyG_step g k H0.out hg)
    clear hg
    go_wp2_with (go_at_call 43; refine (HK.out _ hu).mono ?_; rintro o w5 ⟨rfl, u5⟩)
    go_roundw
    case rel => exact ⟨k + 1, hlt, by go_num, HS.out, Old.trans hu u5⟩
    case measure => simp [intOf]; omega
   ·have HT := hid (Fl.anyG_true g n k hlt hg)
    rw [hg] at HK
    clear hg
    go_wp2_with (go_at_call 43; refine (HK.out _ hu).mono ?_; rintro o w5 ⟨rfl, u5⟩)
    go_ret
    exact ⟨_, rfl, by rw [HT.out]; simp, Old.trans hu u5⟩
  ·obtain rfl : k = n := by omega
   have H0 := hid h0
   clear h0
   go_wp2
   go_ret
   exact ⟨_, rfl, by rw [H0.out]; rfl, hu⟩
set_option maxHeartbeats 400000 in
theorem contains_rd (v : Value) (n : Nat) (f : Nat → Nat) (g : Nat → Bool) (kb ob : Nat) (w : World) (hv : FRow w v n f) (hf : ∀ i, i < n → ∀ W, Old w W → Calls Tryz.prog 43 #[.float .f64 (f i), .pointer (some ⟨kb, 0, none⟩), .pointer (some ⟨ob, 0, none⟩)] W fun e w' => e = .returned (.bool (g i)) ∧ Old W w') :
    Calls Tryz.prog 45 #[v, .func (.func 43) #[] #[.pointer (some ⟨kb, 0, none⟩), .pointer (some ⟨ob, 0, none⟩)]] w fun e w' => e = .returned (.bool (Fl.anyG g n)) ∧ Old w w' := by
 have HI := hid (index_rd v n f g kb ob w hv hf)
 clear hv hf
 go_enter Tryz.func45, Tryz.ntmps45
 go_wp2_with (go_at_call 80; refine HI.out.mono ?_; rintro o w5 ⟨r, rfl, hr, u5⟩; have HR := hid hr; clear hr)
 go_ret
 exact ⟨ret_b (by rw [← HR.out]), u5⟩
set_option maxHeartbeats 1000000 in
theorem rd1_any (v vo : Value) (n : Nat) (d : Nat → Dn) (L : List Int) (key hb ob : Nat) (hk : Fl.W key) (hr : rtB d n = true) (hmem : ∀ x ∈ L, 1 ≤ x ∧ x ≤ n) (w : World) (hv : DRow w v n d) (ho : NRow w vo L) (h1 : w.cell? ⟨hb, 0, none⟩ = some v) (h2 : w.cell? ⟨ob, 0, none⟩ = some vo) :
    Calls Tryz.prog 43 #[.float .f64 key, .pointer (some ⟨hb, 0, none⟩), .pointer (some ⟨ob, 0, none⟩)] w fun e w' => e = .returned (.bool (!raF d key L 0)) ∧ Old w w' := by
 have HR := hid (readsAlike_any v vo n d L key hk hr hmem w hv ho)
 obtain ⟨_, p, c, rfl, _⟩ := hv
 obtain ⟨_, p2, c2, rfl, _⟩ := ho
 generalize raF d key L 0 = r at *
 generalize L.length = ll at *
 clear hmem hr
 go_enter Tryz.func43, Tryz.ntmps43
 go_wp2_with (go_at_call 44; refine HR.out.mono ?_; rintro e w2 ⟨rfl, u2⟩; have U2 := hid u2; clear u2)
 go_ret
 exact ⟨rfl, U2.out⟩
set_option maxHeartbeats 4000000 in
theorem readsH_any (v vo : Value) (n : Nat) (d : Nat → Dn) (L : List Int) (w : World) (hv : DRow w v n d) (ho : NRow w vo L) :
    Calls Tryz.prog 16 #[v, vo] w fun e w' => e = .returned (.bool (rdH d n L)) ∧ Old w w' := by
 have hmf : ∀ (fn : Fn) (first cap : Array Value) (w : World), (Instr.makeFunc fn first cap).run Tryz.prog w = .ok (.func fn first cap) w := fun _ _ _ _ => rfl
 have HR := hid (fun (W : World) (u : Old w W) => rightH_any v n d W (hv.old u))
 have HE := hid (fun (W : World) (u : Old w W) => eachOnce_any v vo n d L W (hv.old u) (ho.old u))
 have HD : Hid (rdH d n L = (rtB d n && (eoB d n L && !Fl.anyG (mrB d L) n))) := rfl
 have HV := hid hv
 have HO := hid ho
 obtain ⟨hm, p, c, rfl, hnc, hcm, hc⟩ := hv
 obtain ⟨hm2, p2, c2, rfl, hc2⟩ := ho
 have HC := hid hc
 have hmm : (n : Int) ≤ 1099511627776 := by omega
 have HMem := hid (show rtB d n = true → eoB d n L = true → ∀ x ∈ L, 1 ≤ x ∧ x ≤ n from fun a b => (eoB_mem a b).2)
 generalize rdH d n L = rr at *
 generalize hLL : L.length = ll at *
 clear hc hc2 hm hm2 hnc hcm hLL
 go_enter Tryz.func16, Tryz.ntmps16
 go_upto_region 1 with fail
 generalize hw1 : (w.alloc (.cells #[.slice p n c] 42)).alloc (.cells #[.slice p2 ll c2] 45) = w1 at *
 have B1 := hid (show w1.cell? ⟨w.heap.size, 0, none⟩ = some (.slice p n c) ∧ w1.cell? ⟨w.heap.size + 1, 0, none⟩ = some (.slice p2 ll c2) from by
  rw [← hw1]
  have u := (Old.refl (w.alloc (.cells #[.slice p n c] 42))).alloc (.cells #[.slice p2 ll c2] 45)
  exact ⟨u.keep (by simp), by simp⟩)
 have U1 := hid (show Old w w1 from by rw [← hw1]; exact ((Old.refl w).alloc _).alloc _)
 generalize w.heap.size = m at *
 clear hw1
 obtain ⟨b0, b1⟩ := B1.out
 cases hr : rtB d n
 ·rw [hr] at HR HD
  rw [Bool.false_and] at HD
  clear HMem hr HE
  go_wp2_with (go_at_call 15; refine (HR.out _ U1.out).mono ?_; rintro e w2 ⟨rfl, v2⟩; have U2 := hid (U1.out.trans v2); clear v2)
  go_ret
  exact ⟨ret_b (by rw [HD.out]), U2.out⟩
 ·rw [hr, Bool.true_and] at HD
  cases he : eoB d n L
  ·rw [he] at HE HD
   rw [hr] at HR
   rw [Bool.false_and] at HD
   clear HMem hr he
   go_wp2_with (first | (go_at_call 15; refine (HR.out _ U1.out).mono ?_; rintro e w2 ⟨rfl, v2⟩; have U2 := hid (U1.out.trans v2); clear b0 b1; have b0 := v2.keep B1.out.1; have b1 := v2.keep B1.out.2; clear v2) | (go_at_call 42; refine (HE.out _ U2.out).mono ?_; rintro e w3 ⟨rfl, v3⟩; have U3 := hid (U2.out.trans v3); clear v3))
   go_ret
   exact ⟨ret_b (by rw [HD.out]), U3.out⟩
  ·have hmem := HMem.out hr he
   have HCt := hid (fun (W : World) (i : Nat) (hs : (d i).s.Ok W) (u : Old w W) (h1 : W.cell? ⟨m, 0, none⟩ = some (.slice p n c)) (h2 : W.cell? ⟨m + 1, 0, none⟩ = some (.slice p2 ll c2)) => contains_rd _ (d i).s.n3 (d i).s.x3 (fun j => !raF d ((d i).s.x3 j) L 0) m (m + 1) W hs.h3 (fun j hj V k => rd1_any _ _ n d L ((d i).s.x3 j) m (m + 1) (hs.h3.ws j hj) hr hmem V (HV.out.old (u.trans k)) (HO.out.old (u.trans k)) (k.keep h1) (k.keep h2)))
   rw [he] at HE HD
   rw [hr] at HR
   rw [Bool.true_and] at HD
   clear HMem hr he hmem HV HO
   go_upto_region 3 with (first | (go_at_call 15; refine (HR.out _ U1.out).mono ?_; rintro e w2 ⟨rfl, v2⟩; have U2 := hid (U1.out.trans v2); clear b0 b1; have b0 := v2.keep B1.out.1; have b1 := v2.keep B1.out.2; have B2 := hid (And.intro b0 b1); clear v2) | (go_at_call 42; refine (HE.out _ U2.out).mono ?_; rintro e w3 ⟨rfl, v3⟩; have U3 := hid (U2.out.trans v3); clear b0 b1; have b0 := v3.keep B2.out.1; have b1 := v3.keep B2.out.2; have B3 := hid (And.intro b0 b1); clear v3))
   clear B1 B2 U1 U2 HR HE
   go_wp2
   go_loopw [19] (fun i wr => ∃ k : Nat, k ≤ n ∧ i = .int .i64 (k : Nat) ∧ Fl.anyG (mrB d L) k = false ∧ (wr.cell? ⟨m, 0, none⟩ = some (.slice p n c) ∧ wr.cell? ⟨m + 1, 0, none⟩ = some (.slice p2 ll c2)) ∧ Old w wr) (fun i _ => n - (intOf i).toNat)
   case atStart => exact ⟨0, Nat.zero_le _, rfl, rfl, B3.out, U3.out⟩
   case round =>
    obtain ⟨k, hk, rfl, h0, hB, hu⟩ := hrel
    have HU := hid hu
    have HB := hid hB
    have H0 := hid h0
    clear h0 hB b0 b1 B3 U3
    by_cases hlt : k < n
    ·obtain ⟨g, off, ha, c0, hs⟩ := HC.out k hlt
     subst ha
     obtain ⟨x0, x1, x2, x3, x4, x5, x6⟩ := c0.old hu
     have l1 : (0 : Int) ≤ (k : Int) := by omega
     have l2 : (k : Int) < (n : Int) := by omega
     have HSo := hid (fun (W : World) (u : Old w W) => hs.old u)
     have HMr : Hid (mrB d L k = Fl.anyG (fun j => !raF d ((d k).s.x3 j) L 0) (d k).s.n3) := rfl
     clear c0 hs hu
     go_upto_region 6 with fail
     generalize hw4 : wr.alloc (.cells #[.int .i64 (d k).n, .int .i64 (d k).s.s1, .int .i64 (d k).s.s2, .int .i64 (d k).s.s3, .slice (d k).s.a1 (d k).s.n1 (d k).s.c1, .slice (d k).s.a2 (d k).s.n2 (d k).s.c2, .slice (d k).s.a3 (d k).s.n3 (d k).s.c3] 44) = w4 at *
     obtain ⟨hb4, hu4⟩ := dn_new wr (d k) w4 hw4 _ rfl
     generalize wr.heap.size = mb at *
     have U4 := hid (HU.out.trans hu4)
     have B4 := hid (And.intro (hu4.keep HB.out.1) (hu4.keep HB.out.2))
     have HC4 := hid (HCt.out w4 k (HSo.out _ U4.out) U4.out B4.out.1 B4.out.2)
     rw [← HMr.out] at HC4
     obtain ⟨t0, t1, t2, t3, t4, t5, t6⟩ := hb4
     clear hw4 hu4 x0 x1 x2 x3 x4 x5 x6 HU HB HCt HMr
     cases hmr : mrB d L k
     ·have HN := hid (Fl.anyG_step (mrB d L) k H0.out hmr)
      rw [hmr] at HC4
      clear hmr
      go_wp2_with (go_at_call 45; refine HC4.out.mono ?_; rintro e w5 ⟨rfl, v5⟩; have U5 := hid (U4.out.trans v5); have B5 := hid (And.intro (v5.keep B4.out.1) (v5.keep B4.out.2)); clear v5)
      go_roundw
      case rel => exact ⟨k + 1, hlt, by go_num, HN.out, B5.out, U5.out⟩
      case measure => simp [intOf]; omega
     ·have HT := hid (Fl.anyG_true (mrB d L) n k hlt hmr)
      have HF := hid (show rr = false from by rw [HD.out, HT.out]; rfl)
      rw [hmr] at HC4
      clear hmr
      go_wp2_with (go_at_call 45; refine HC4.out.mono ?_; rintro e w5 ⟨rfl, v5⟩; have U5 := hid (U4.out.trans v5); clear v5)
      go_ret
      exact ⟨ret_b (by rw [HF.out]), U5.out⟩
    ·obtain rfl : k = n := by omega
     have HF := hid (show rr = true from by rw [HD.out, H0.out]; rfl)
     clear HD H0
     go_wp2
     go_ret
     exact ⟨ret_b (by rw [HF.out]), HU.out⟩
end Go.Proofs.YtgeinnaljlajoaaGreat
