/- The law CertChains, walked; conditions: its row lies in memory, and is short. -/
import Derived.Test.YtfpadkgienjjpaaGreatCvS
import Derived.Test.YtfpadkgienjjpaaGreatCeg
import Derived.Test.YtfpadkgienjjpaaGreatCso
namespace Go.Proofs.YtfpadkgienjjpaaGreat
open Go.RowKit Go.Lib
set_option linter.unusedVariables false
set_option linter.unusedSimpArgs false
set_option maxRecDepth 20000
attribute [local go_sem] run_bits run_frombits run_store_float eqF
def SnPost (w : World) (cb : Nat) (G : Cg) (n : Nat) (ck : Int) (W : World) (e : Ending) (w' : World) : Prop := ∃ (v m : Int) (n' : Nat) (G' : Cg), e = .returned (.agg #[.int .i64 v, .int .i64 m]) ∧ ((ck ≠ 0 ∧ v = ck ∧ m = 0 ∧ n' = n) ∨ (ck = 0 ∧ v = 0 ∧ m = ((n + 1 : Nat) : Int) ∧ n' = n + 1)) ∧ CtAt w.heap.size cb G' w' ∧ Seen n' G'.c ∧ Old w w' ∧ Chg (mblC cb G) W w'
theorem decide_seen (s : Sb) (w W : World) (cb : Nat) (G : Cg) (n : Nat) (hs : s.Ok w) (u : Old w W) (h : CtAt w.heap.size cb G W) (sn : Seen n G.c) (hn : n ≤ 1048576) (h3 : s.s3 = (n : Int)) :
    Calls Tryz.prog 9 #[.pointer (some ⟨cb, 0, none⟩), .agg #[.int .i64 s.s1, .int .i64 s.s2, .int .i64 s.s3, .slice s.a1 s.n1 s.c1, .slice s.a2 s.n2 s.c2, .slice s.a3 s.n3 s.c3]] W fun e w' => SnPost w cb G n s.chk W e w' := by
 refine (decide_any s w.heap.size cb G W (hs.old u) (Sb.arg_far hs (fun k q => (h.lt k q).1)) h sn.ok).mono ?_
 rintro e w' ⟨G', rfl, a, m, c, -⟩
 have d := sn.dec (by omega) (Sb.plF hs) (show s.pl.s3 = _ from h3) s.chk
 by_cases z : s.chk = 0
 ·obtain ⟨c', e', k'⟩ := d.2 z
  rw [e'] at c
  rw [e']
  have z1 : ((n + 1 : Nat) : Int) = (n : Int) + 1 := by omega
  exact ⟨_, _, n + 1, G', rfl, .inr ⟨z, rfl, z1.symm, rfl⟩, a, (by rw [c, z1]; exact k'), m.keep u h, m.1⟩
 ·have e' := d.1 z
  rw [e'] at c
  rw [e']
  exact ⟨_, _, n, G', rfl, .inl ⟨z, rfl, rfl, rfl⟩, a, by rw [c]; exact sn, m.keep u h, m.1⟩
set_option maxHeartbeats 16000000 in
theorem chainsLaw (keep old : Int) (v : Value) (n : Nat) (f : Nat → Sb) (w : World) (hr : SubRow w v n f) (hn : n ≤ 1048576) :
    Calls Tryz.prog 4 #[.int .i64 keep, .int .i64 old, v] w fun e w' => e = .returned (.bool true) ∧ Old w w' := by
 obtain ⟨-, p, c, rfl, hc1, hc2, hc⟩ := hr
 have HNw := hid (fun (W : World) => cnew_any keep old W)
 have HAl := hid (fun (W : World) => alive_any W)
 have HR := hid hc
 have HDe := hid (fun (s : Sb) (W : World) (cb : Nat) (G : Cg) (m : Nat) (hs : s.Ok w) (u : Old w W) (h : CtAt w.heap.size cb G W) (sn : Seen m G.c) (hm : m ≤ 1048576) (h3 : s.s3 = (m : Int)) => decide_seen s w W cb G m hs u h sn hm h3)
 have HCk := hid (fun (s : Sb) (hs : s.Ok w) (W : World) (u : Old w W) => refChk_any s.s1 s.s2 s.s3 s.a1 s.a2 s.a3 s.n1 s.n2 s.n3 s.c1 s.c2 s.c3 s.x1 s.x3 s.f2 W (hs.old u).h1 (hs.old u).h2 (hs.old u).h3)
 clear hc
 go_enter Tryz.func4, Tryz.ntmps4
 go_upto_region 4 with (first | (go_at_call 8; refine (HAl.out w1).mono ?_; rintro e w2 ⟨rfl, o2⟩; have O2 := hid o2; clear o2) | (go_at_call 7; refine (HNw.out w).mono ?_; rintro e w1 ⟨cb, G, rfl, h1, o1, c1⟩; have HC := hid h1; have O1 := hid o1; have CG := hid c1; clear h1 o1 c1))
 have HL := hid (show ∃ G, CtAt w.heap.size cb G w2 ∧ Seen (0 : Nat) G.c ∧ Old w w2 from ⟨G, HC.out.old O2.out, by rw [CG.out]; exact Seen.new keep old, O1.out.trans O2.out⟩)
 clear HC O1 O2 CG HNw HAl
 go_wp2
 go_loopw [8, 24] (fun nn i wx => ∃ k m : Nat, k ≤ n ∧ m ≤ k ∧ i = .int .i64 (k : Nat) ∧ nn = .int .i64 (m : Nat) ∧ Hid (∃ G, CtAt w.heap.size cb G wx ∧ Seen m G.c ∧ Old w wx)) (fun nn i _ => n - (intOf i).toNat)
 case atStart => exact ⟨0, 0, Nat.zero_le _, Nat.le_refl _, rfl, rfl, HL⟩
 case round =>
  clear HL
  obtain ⟨k, m, hk, hm, rfl, rfl, HI⟩ := hrel
  obtain ⟨G, hC, hS, hU⟩ := HI.out
  have C0 := hid hC
  have S0 := hid hS
  have U0 := hid hU
  clear hC hS hU HI
  by_cases hlt : k < n
  ·obtain ⟨g, off, rfl, hin, hok⟩ := HR.out k hlt
   obtain ⟨q0, q1, q2, q3, q4, q5⟩ := hin.old U0.out
   have OK := hid hok
   clear hin hok HR
   generalize f k = s at *
   obtain ⟨s1, s2, s3, a1, a2, a3, n1, n2, n3, c1, c2, c3, x1, x3, f2⟩ := s
   dsimp only at q0 q1 q2 q3 q4 q5
   have l1 : (0 : Int) ≤ (k : Int) := by omega
   have l2 : (k : Int) < (n : Int) := by omega
   go_upto_region 8 with fail
   clear q0 q1 q2 q3 q4 q5
   have U1 := hid (U0.out.trans ((Old.refl wr).alloc (.cells #[.int .i64 s1, .int .i64 s2, .int .i64 s3, .slice a1 n1 c1, .slice a2 n2 c2, .slice a3 n3 c3] 25)))
   have C1 := hid (C0.out.old ((Old.refl wr).alloc (.cells #[.int .i64 s1, .int .i64 s2, .int .i64 s3, .slice a1 n1 c1, .slice a2 n2 c2, .slice a3 n3 c3] 25)))
   have A1 := hid (alloc_at wr (.cells #[.int .i64 s1, .int .i64 s2, .int .i64 s3, .slice a1 n1 c1, .slice a2 n2 c2, .slice a3 n3 c3] 25))
   have N1 := hid (show wr.heap.size ∉ mblC cb G from fun q => Nat.lt_irrefl _ (C0.out.lt _ q).2)
   have K1 := hid (show ∀ k ∈ G.kn, ∀ g ∈ k.bl, g ≠ wr.heap.size from fun k q g hg e => by have := ((C0.out.kk k q).lt g hg).2; omega)
   have B1 := hid (show w.heap.size ≤ wr.heap.size from U0.out.size)
   clear C0 U0
   generalize wr.alloc (.cells #[.int .i64 s1, .int .i64 s2, .int .i64 s3, .slice a1 n1 c1, .slice a2 n2 c2, .slice a3 n3 c3] 25) = w3 at *
   generalize wr.heap.size = ab at *
   obtain ⟨⟨y0, y1, y2, y3, y4, y5⟩, yf⟩ := box6F A1.out
   have yf2 := yf 2
   clear yf
   go_upto_region 9 with fail
   clear y0 y1 y2 y3 y4 y5 yf2
   have A2 := hid (show SubB' ab s1 s2 (m : Int) (.slice a1 n1 c1) (.slice a2 n2 c2) (.slice a3 n3 c3) (w3.setCell ⟨ab, 2, none⟩ (.int .i64 (m : Int))) from Go.Joins.block_setCell A1.out (.int .i64 (m : Int)) (i := 2))
   have CA := hid (Chg.set (S := [ab]) w3 ⟨ab, 2, none⟩ (.int .i64 (m : Int)) (by simp))
   have C2 := hid (C1.out.chg CA.out (fun k q z => by simp at z; subst z; exact N1.out q) (fun k q g hg z => by simp at z; exact K1.out k q g hg z))
   have U2 := hid (U1.out.below (CA.out.below w.heap.size (fun k q => by simp at q; have := B1.out; omega) U1.out.size))
   clear A1 C1 U1 CA
   generalize w3.setCell ⟨ab, 2, none⟩ (.int .i64 (m : Int)) = w4 at *
   have OK2 := hid (show Sb.Ok (⟨s1, s2, (m : Int), a1, a2, a3, n1, n2, n3, c1, c2, c3, x1, x3, f2⟩ : Sb) w from ⟨OK.out.h1, OK.out.h2, OK.out.h3, OK.out.b1, OK.out.b2, OK.out.b3⟩)
   have D := hid (HDe.out (⟨s1, s2, (m : Int), a1, a2, a3, n1, n2, n3, c1, c2, c3, x1, x3, f2⟩ : Sb) w4 cb G m OK2.out U2.out C2.out S0.out (by omega) rfl)
   have CK := hid (fun (W : World) (u : Old w W) => HCk.out (⟨s1, s2, (m : Int), a1, a2, a3, n1, n2, n3, c1, c2, c3, x1, x3, f2⟩ : Sb) OK2.out W u)
   have hck : Sb.chk (⟨s1, s2, (m : Int), a1, a2, a3, n1, n2, n3, c1, c2, c3, x1, x3, f2⟩ : Sb) = chkV s1 s2 (m : Int) n1 n2 n3 x1 x3 f2 := rfl
   rw [hck] at D
   dsimp only at D CK
   generalize chkV s1 s2 (m : Int) n1 n2 n3 x1 x3 f2 = ck at *
   clear hck OK OK2
   obtain ⟨⟨y0, y1, y2, y3, y4, y5⟩, -⟩ := box6F A2.out
   go_upto_region 10 with (go_at_call 9; refine D.out.mono ?_; rintro e w5 ⟨vc, vm, m', G', rfl, hv, h5, s5, u5, g5⟩; have HV := hid hv; have C5 := hid h5; have S5 := hid s5; have U5 := hid u5; have A5 := hid (g5.heapAt A2.out N1.out); clear hv h5 s5 u5 g5)
   clear y0 y1 y2 y3 y4 y5 D C2 U2 A2 S0
   have U6 := hid (U5.out.trans ((Old.refl w5).alloc (.cells #[.int .i64 vc, .int .i64 vm] 33)))
   have C6 := hid (C5.out.old ((Old.refl w5).alloc (.cells #[.int .i64 vc, .int .i64 vm] 33)))
   have A6 := hid (((Old.refl w5).alloc (.cells #[.int .i64 vc, .int .i64 vm] 33)).block A5.out)
   have X6 := hid (alloc_at w5 (.cells #[.int .i64 vc, .int .i64 vm] 33))
   clear C5 U5 A5
   generalize w5.alloc (.cells #[.int .i64 vc, .int .i64 vm] 33) = w6 at *
   generalize w5.heap.size = xb at *
   obtain ⟨⟨y0, y1, y2, y3, y4, y5⟩, -⟩ := box6F A6.out
   by_cases hz : ck = 0
   ·obtain ⟨rfl, rfl, rfl, rfl⟩ : ck = 0 ∧ vc = 0 ∧ vm = ((m + 1 : Nat) : Int) ∧ m' = m + 1 := by
      rcases HV.out with h | h
      ·exact absurd hz h.1
      ·exact h
    clear HV hz
    go_upto_region 13 with (go_at_call 10; refine (CK.out _ U6.out).mono ?_; rintro e w7 ⟨rfl, o7⟩; have U7 := hid (U6.out.trans o7); have C7 := hid (C6.out.old o7); have X7 := hid (o7.block X6.out); clear o7)
    clear y0 y1 y2 y3 y4 y5
    obtain ⟨⟨v0, v1⟩, -⟩ := box2V X7.out
    have zm : ((m + 1 : Nat) : Int) = (m : Int) + 1 := by omega
    have zb : (m : Int) ≤ 1048576 := by omega
    rw [zm] at v1
    clear zm
    go_wp2
    go_roundw
    case rel => exact ⟨k + 1, m + 1, hlt, by omega, by go_num, by go_num, hid ⟨G', C7.out, S5.out, U7.out⟩⟩
    case measure => simp [intOf]; omega
   ·obtain ⟨rfl, rfl, rfl⟩ : vc = ck ∧ vm = 0 ∧ m' = m := by
      rcases HV.out with h | h
      ·exact ⟨h.2.1, h.2.2.1, h.2.2.2⟩
      ·exact absurd h.1 hz
    clear HV
    have dne : (vc != 0) = true := by simp [hz]
    have deq : (vc == 0) = false := by simp [hz]
    go_upto_region 11 with (go_at_call 10; refine (CK.out _ U6.out).mono ?_; rintro e w7 ⟨rfl, o7⟩; have U7 := hid (U6.out.trans o7); have C7 := hid (C6.out.old o7); have X7 := hid (o7.block X6.out); clear o7)
    clear y0 y1 y2 y3 y4 y5
    obtain ⟨⟨v0, v1⟩, -⟩ := box2V X7.out
    go_wp2
    go_roundw
    case rel => exact ⟨k + 1, m', hlt, by omega, by go_num, rfl, hid ⟨G', C7.out, S5.out, U7.out⟩⟩
    case measure => simp [intOf]; omega
  ·obtain rfl : k = n := by omega
   have HCn := hid (count_any _ _ _ wr C0.out)
   have HHn := hid (horizon_any _ _ _ wr C0.out)
   rw [S0.out.cn] at HCn
   have hh := S0.out.ok.h2
   rw [S0.out.cn] at hh
   have HU := hid U0.out
   clear C0 S0 U0 HDe HCk HR
   generalize G.c.hor = hor at *
   go_wp2_with (first | (go_at_call 14; refine HHn.out.mono ?_; rintro e w_ ⟨rfl, hw_⟩; subst hw_) | (go_at_call 11; refine HCn.out.mono ?_; rintro e w_ ⟨rfl, hw_⟩; subst hw_))
   go_ret
   exact ⟨rfl, HU.out⟩
end Go.Proofs.YtfpadkgienjjpaaGreat
