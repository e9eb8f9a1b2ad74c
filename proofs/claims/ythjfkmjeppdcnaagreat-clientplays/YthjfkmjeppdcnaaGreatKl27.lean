/- The law ClientPlays, walked; conditions: its rows lie in memory. -/
import Derived.Test.YthjfkmjeppdcnaaGreatKl28
import Derived.Test.YthjfkmjeppdcnaaGreatKl17
namespace Go.Proofs.YthjfkmjeppdcnaaGreat
open Go.RowKit Go.Lib
set_option linter.unusedVariables false
set_option linter.unusedSimpArgs false
set_option maxRecDepth 20000
attribute [local go_sem] run_bits run_frombits run_store_float eqF
theorem box12P {w : World} {b : Nat} {v0 v1 v2 v3 v4 v5 v6 v7 v8 v9 va vb : Value} {t : TypeId} (h : w.heap[b]? = some (.cells #[v0, v1, v2, v3, v4, v5, v6, v7, v8, v9, va, vb] t (0, 0))) : w.cell? ⟨b, 0, none⟩ = some v0 ∧ w.cell? ⟨b, 1, none⟩ = some v1 ∧ w.cell? ⟨b, 2, none⟩ = some v2 ∧ w.cell? ⟨b, 3, none⟩ = some v3 ∧ w.cell? ⟨b, 4, none⟩ = some v4 ∧ w.cell? ⟨b, 5, none⟩ = some v5 ∧ w.cell? ⟨b, 6, none⟩ = some v6 ∧ w.cell? ⟨b, 7, none⟩ = some v7 ∧ w.cell? ⟨b, 8, none⟩ = some v8 ∧ w.cell? ⟨b, 9, none⟩ = some v9 ∧ w.cell? ⟨b, 10, none⟩ = some va ∧ w.cell? ⟨b, 11, none⟩ = some vb := by
 refine ⟨?_, ?_, ?_, ?_, ?_, ?_, ?_, ?_, ?_, ?_, ?_, ?_⟩ <;> simp [World.cell?, h]
set_option maxHeartbeats 64000000 in
theorem playsLaw (ss : Int) (v2 : Value) (m2 : Nat) (g2 : Nat → Int) (v : Value) (n : Nat) (f : Nat → Opc) (w : World) (hm : Ci.NRowL w v2 m2 g2) (hr : OpcRow w v n f) :
    Calls Tryz.prog 5 #[.int .i64 ss, v2, v] w fun e w' => e = .returned (.bool true) ∧ Old w w' := by
 obtain ⟨hn, p, c, rfl, hc1, hc2, hc⟩ := hr
 have HR := hid hc
 have HM := hid hm
 clear hc hm
 have HAl := hid (fun (W : World) => alive_any W)
 go_enter Tryz.func5, Tryz.ntmps5
 go_upto_region 2 with (go_at_call 6; refine (KSx.new ss v2 m2 g2 w w (Old.refl w) HM.out).mono ?_; rintro e w1 ⟨cb, FB, rfl, k, u⟩; have K1 := hid k; clear k u)
 go_upto_region 4 with (go_at_call 7; refine (HAl.out w1).mono ?_; rintro e w2 ⟨rfl, u⟩; have K2 := hid (K1.out.old u); clear u)
 clear K1 HAl
 obtain ⟨t0, ht0⟩ : ∃ t0, (msL g2 m2).getD 0 0 = t0 := ⟨_, rfl⟩
 have HT0 := hid ht0
 clear ht0
 go_upto_region 5 with (go_at_call 15; refine (rNew_any ss v2 m2 g2 w2 (HM.out.old K2.out.2.2.1)).mono ?_; rintro e w3 ⟨v', rfl, o, u⟩; rw [HT0.out]; obtain ⟨ma, mc, rfl⟩ := o.len; have O3 := hid o; have U3 := hid u; clear o u; obtain ⟨mn, hmn⟩ : ∃ mn, (msL g2 m2).length = mn := ⟨_, rfl⟩; rw [hmn] at O3 ⊢; clear hmn)
 obtain ⟨mb, hmb⟩ : ∃ mb, w3.heap.size = mb := ⟨_, rfl⟩
 have B4 := hid (Bx.new K2.out K2.out.2.2.1 O3.out U3.out ((Old.refl w3).alloc (.cells #[.int .i64 ss, .int .i64 0, .slice ma mn mc, .int .i64 t0, .slice none 0 0, .slice none 0 0] 56)) (by simp))
 have M4 := hid (show MB w3.heap.size ss 0 t0 (.slice ma mn mc) (.slice none 0 0) (.slice none 0 0) (w3.alloc (.cells #[.int .i64 ss, .int .i64 0, .slice ma mn mc, .int .i64 t0, .slice none 0 0, .slice none 0 0] 56)) from alloc_at w3 _)
 generalize w3.alloc (.cells #[.int .i64 ss, .int .i64 0, .slice ma mn mc, .int .i64 t0, .slice none 0 0, .slice none 0 0] 56) = w4 at *
 rw [hmb] at B4 M4 ⊢
 generalize hag : Value.agg #[.int .i64 ss, .int .i64 0, .slice ma mn mc, .int .i64 t0, .slice none 0 0, .slice none 0 0] = ag5
 clear hag
 have HI0 := hid (show ∃ FB s base ma mn mc pa pn pc ra rn rc D la tg, Bx w cb mb FB s base (.slice ma mn mc) (.slice pa pn pc) (.slice ra rn rc) D s w4 ∧ MB mb ss la tg (.slice ma mn mc) (.slice pa pn pc) (.slice ra rn rc) w4 ∧ s.ss = ss ∧ s.la = la ∧ tgt s = tg from ⟨FB, newC ss g2 m2, _, _, _, _, _, _, _, _, _, _, _, _, _, B4.out, M4.out, rfl, rfl, HT0.out⟩)
 clear B4 M4 O3 U3 K2 HM hmb
 go_wp2
 go_loopw [38] (fun iv wx => ∃ k : Nat, k ≤ n ∧ iv = .int .i64 (k : Nat) ∧ Hid (∃ FB s base ma mn mc pa pn pc ra rn rc D la tg, Bx w cb mb FB s base (.slice ma mn mc) (.slice pa pn pc) (.slice ra rn rc) D s wx ∧ MB mb ss la tg (.slice ma mn mc) (.slice pa pn pc) (.slice ra rn rc) wx ∧ s.ss = ss ∧ s.la = la ∧ tgt s = tg)) (fun i _ => n - (intOf i).toNat)
 case atStart => exact ⟨0, Nat.zero_le _, rfl, HI0⟩
 case round =>
  clear HI0
  obtain ⟨k, hk, rfl, HI⟩ := hrel
  obtain ⟨FB, s, base, ma, mn, mc, pa, pn, pc, ra, rn, rc, D, la, tg, hb, hmb, hss, hla, htg⟩ := HI.out
  have K0 := hid hb
  have M0 := hid hmb
  have HS := hid (show s.ss = ss ∧ s.la = la ∧ tgt s = tg from ⟨hss, hla, htg⟩)
  clear HI hb hmb hss hla htg
  by_cases hlt : k < n
  ·obtain ⟨g, off, rfl, hin, hx, hq⟩ := HR.out k hlt
   have hin2 := hin.old K0.out.k.2.2.1
   have HX := hid hx
   have HQ := hid hq
   clear hin hx hq
   generalize f k = o at *
   obtain ⟨ok, ⟨s1, s2, s3, a1, a2, a3, n1, n2, n3, c1, c2, c3, x1, x3, f2⟩, oq, oc, on, oe, ol⟩ := o
   obtain ⟨q0, q1, q2, q3, q4, q5, q6, q7, q8, q9, qa, qb⟩ := hin2
   dsimp only at q0 q1 q2 q3 q4 q5 q6 q7 q8 q9 qa qb
   have l1' : (0 : Int) ≤ (k : Int) := by omega
   have l2' : (k : Int) < (n : Int) := by omega
   go_upto_region 8 with fail
   clear q0 q1 q2 q3 q4 q5 q6 q7 q8 q9 qa qb
   have K3 := hid (K0.out.old ((Old.refl wr).alloc (.cells #[.int .i64 ok, .int .i64 s1, .int .i64 s2, .int .i64 s3, .slice a1 n1 c1, .slice a2 n2 c2, .slice a3 n3 c3, .int .i64 oq, .int .i64 oc, .int .i64 on, .int .i64 oe, .int .i64 ol] 47)))
   have M3 := hid (((Old.refl wr).alloc (.cells #[.int .i64 ok, .int .i64 s1, .int .i64 s2, .int .i64 s3, .slice a1 n1 c1, .slice a2 n2 c2, .slice a3 n3 c3, .int .i64 oq, .int .i64 oc, .int .i64 on, .int .i64 oe, .int .i64 ol] 47)).block M0.out)
   have B3 := hid (alloc_at wr (.cells #[.int .i64 ok, .int .i64 s1, .int .i64 s2, .int .i64 s3, .slice a1 n1 c1, .slice a2 n2 c2, .slice a3 n3 c3, .int .i64 oq, .int .i64 oc, .int .i64 on, .int .i64 oe, .int .i64 ol] 47))
   have HO3 := hid (show wr.heap.size ∉ FB ∧ wr.heap.size ≠ mb from ⟨fun q => by have := (K0.out.k.lt _ q).2; omega, fun q => by have := K0.out.ml.2; omega⟩)
   clear K0 HR M0
   generalize wr.alloc (.cells #[.int .i64 ok, .int .i64 s1, .int .i64 s2, .int .i64 s3, .slice a1 n1 c1, .slice a2 n2 c2, .slice a3 n3 c3, .int .i64 oq, .int .i64 oc, .int .i64 on, .int .i64 oe, .int .i64 ol] 47) = w3 at *
   generalize wr.heap.size = ob at *
   obtain ⟨q0, q1, q2, q3, q4, q5, q6, q7, q8, q9, qa, qb⟩ := box12P B3.out
   rename_i K18 hK18 K9 hK9
   have HT := hid (show ∀ (x6 x10 x11 x12 x13 x14 x15 x16 x17 x18 x19 x20 x21 x39 x40 x41 x42 x43 x44 x45 x46 x47 x48 x49 x50 x51 x52 x53 x54 x55 x56 x57 x58 x59 x60 x61 x62 x63 x64 x65 x66 x67 x68 x69 x70 x71 x72 x73 x74 x75 x76 x77 x78 x79 x80 x81 x82 x83 x84 x85 x86 x87 x88 x89 x90 x91 x92 x93 x94 x95 x96 x97 x98 x99 x100 x101 x102 x103 x104 x105 x106 x107 x108 x109 x110 x111 x112 x113 x114 x115 x116 x117 x118 x119 x120 x121 x122 x123 x124 x125 x126 x127 x128 x129 x130 x131 x132 x133 x134 x135 x136 x137 x138 x139 x140 x141 x142 x143 x144 x145 x146 x147 x148 x149 x150 x151 x152 x153 x154 x155 x156 x157 x158 x159 x160 x161 x162 x163 x164 x165 x166 x167 x168 x169 x170 x171 x172 x173 x174 x175 x176 x177 x178 x179 x180 x181 : Value) (w8 : World), Hid (∃ FB s base ma mn mc pa pn pc ra rn rc D la tg, Bx w cb mb FB s base (.slice ma mn mc) (.slice pa pn pc) (.slice ra rn rc) D s w8 ∧ MB mb ss la tg (.slice ma mn mc) (.slice pa pn pc) (.slice ra rn rc) w8 ∧ s.ss = ss ∧ s.la = la ∧ tgt s = tg) → K18 ⟨#[.int .i64 ss, v2, .slice (some ⟨g, off, none⟩) n c, undef, undef, undef, x6, .pointer (some ⟨cb, 0, none⟩), .pointer (some ⟨mb, 0, none⟩), undef, x10, x11, x12, x13, x14, x15, x16, x17, x18, x19, x20, x21, undef, undef, .int .i64 ss, v2, .pointer (some ⟨cb, 0, none⟩), .pointer (some ⟨cb, 0, none⟩), .bool false, .bool false, .bool true, .bool false, .bool false, .int .i64 ss, v2, ag5, .slice (some ⟨g, off, none⟩) n c, .int .i64 (n : Nat), .int .i64 (k : Nat), x39, x40, x41, x42, x43, x44, x45, x46, x47, x48, x49, x50, x51, x52, x53, x54, x55, x56, x57, x58, x59, x60, x61, x62, x63, x64, x65, x66, x67, x68, x69, x70, x71, x72, x73, x74, x75, x76, x77, x78, x79, x80, x81, x82, x83, x84, x85, x86, x87, x88, x89, x90, x91, x92, x93, x94, x95, x96, x97, x98, x99, x100, x101, x102, x103, x104, x105, x106, x107, x108, x109, x110, x111, x112, x113, x114, x115, x116, x117, x118, x119, x120, x121, x122, x123, x124, x125, x126, x127, x128, x129, x130, x131, x132, x133, x134, x135, x136, x137, x138, x139, x140, x141, x142, x143, x144, x145, x146, x147, x148, x149, x150, x151, x152, x153, x154, x155, x156, x157, x158, x159, x160, x161, x162, x163, x164, x165, x166, x167, x168, x169, x170, x171, x172, x173, x174, x175, x176, x177, x178, x179, x180, x181, undef, undef, undef, undef, undef, undef, undef, undef, undef, undef, undef, undef, undef, undef, undef, undef, undef, undef, undef, undef, undef, undef, undef, undef, undef, undef, undef, undef, undef, undef, undef, undef, undef, undef, undef, undef, undef, undef, undef, undef, undef, undef, undef, undef, undef, undef, undef, undef, undef, undef, undef, undef, undef, undef, undef, undef, undef, undef, undef, undef, undef, undef, undef], []⟩ w8 from by
    intro x6 x10 x11 x12 x13 x14 x15 x16 x17 x18 x19 x20 x21 x39 x40 x41 x42 x43 x44 x45 x46 x47 x48 x49 x50 x51 x52 x53 x54 x55 x56 x57 x58 x59 x60 x61 x62 x63 x64 x65 x66 x67 x68 x69 x70 x71 x72 x73 x74 x75 x76 x77 x78 x79 x80 x81 x82 x83 x84 x85 x86 x87 x88 x89 x90 x91 x92 x93 x94 x95 x96 x97 x98 x99 x100 x101 x102 x103 x104 x105 x106 x107 x108 x109 x110 x111 x112 x113 x114 x115 x116 x117 x118 x119 x120 x121 x122 x123 x124 x125 x126 x127 x128 x129 x130 x131 x132 x133 x134 x135 x136 x137 x138 x139 x140 x141 x142 x143 x144 x145 x146 x147 x148 x149 x150 x151 x152 x153 x154 x155 x156 x157 x158 x159 x160 x161 x162 x163 x164 x165 x166 x167 x168 x169 x170 x171 x172 x173 x174 x175 x176 x177 x178 x179 x180 x181 w8 HK
    clear K3 M3 B3 HO3 HS HX HQ q0 q1 q2 q3 q4 q5 q6 q7 q8 q9 qa qb
    apply hK18
    obtain ⟨FBt, st, bt, ma8, mn8, mc8, pa8, pn8, pc8, ra8, rn8, rc8, D8, la8, tg8, hb8, hm8, hs8⟩ := HK.out
    have K8 := hid hb8
    have M8 := hid hm8
    have HS8 := hid hs8
    have hpn : pn8 = D8.length := by
     obtain ⟨a, c, e⟩ := hb8.d.opn.len
     simp only [Value.slice.injEq] at e
     exact e.2.1
    have hln := hb8.d.len
    clear HK hb8 hm8 hs8
    have HTg := hid (fun (W : World) (u : Old w8 W) => show Calls Tryz.prog 12 #[.pointer (some ⟨cb, 0, none⟩)] W fun e w' => e = .returned (.int .i64 tg8) ∧ ∃ m, w' = W.drewN m from by have q := (K8.out.k.old u).targetQ; rw [HS8.out.2.2] at q; exact q)
    rcases hop : st.op with _ | ⟨p, O⟩
    ·have hp0 : pn8 = 0 := by rw [hpn, hln, hop]; rfl
     have HNx := hid (show Calls Tryz.prog 9 #[.pointer (some ⟨cb, 0, none⟩)] w8 fun e w' => e = .returned (.tuple #[.int .i64 0, .slice none 0 0, .bool false]) ∧ Old w8 w' from K8.out.k.st.next.mono (by intro e w' q; unfold NxPost at q; rw [hop] at q; exact q))
     have HOp := hid (fun (W : World) (u : Old w8 W) => show Calls Tryz.prog 14 #[.pointer (some ⟨cb, 0, none⟩)] W fun e w' => ∃ a c, e = .returned (.slice a 0 c) ∧ Old W w' from (K8.out.k.old u).st.open.mono (by
      rintro e w' ⟨v, rfl, o, u⟩
      obtain ⟨a, c, rfl⟩ := o.len
      exact ⟨a, c, by rw [hop]; rfl, u⟩))
     clear hpn hln hop
     subst hp0
     go_upto_region 19 with (go_at_call 9; refine HNx.out.mono ?_; rintro e wa ⟨rfl, u⟩; have UA := hid u; clear u)
     go_upto_region 20 with (go_at_call 14; refine (HOp.out _ UA.out).mono ?_; rintro e wb ⟨ao, co, rfl, u⟩; have UO := hid (UA.out.trans u); clear u)
     clear HNx HOp UA
     have HTg := hid (fun (W : World) (u : Old wb W) => HTg.out W (UO.out.trans u))
     have HS20 := hid (C2.old UO.out ⟨(box6 M8.out).1.2.2.2.1, (box6 M8.out).1.2.2.2.2.1⟩)
     obtain ⟨y3', y4'⟩ := HS20.out
     go_quiet ((go_at_call 12; refine Calls.quiet_of (HTg.out _ ((Old.refl wb).drewN _))))
     have UB := hid ((Old.refl wb).drewN nq)
     clear HS20 HTg y3' y4'
     generalize wb.drewN nq = wd at *
     go_wp2
     go_loopw [157] (fun iv wx => iv = .int .i64 0 ∧ Old wd wx) (fun _ _ => 0)
     case atStart => exact ⟨rfl, Old.refl _⟩
     case round =>
      obtain ⟨rfl, hup⟩ := hrel
      have UP := hid hup
      clear hup
      obtain ⟨wz, hwz⟩ : ∃ z, z = wr := ⟨_, rfl⟩
      subst hwz
      go_wp2
      go_loopw [174] (fun iv wx => iv = .int .i64 0 ∧ Old wz wx) (fun _ _ => 0)
      case atStart => exact ⟨rfl, Old.refl _⟩
      case round =>
       obtain ⟨rfl, hup⟩ := hrel
       have UQ := hid (((UO.out.trans UB.out).trans UP.out).trans hup)
       clear hup
       go_wp2
       go_roundw
       (case rel => exact ⟨k + 1, by omega, by go_num, hid ⟨FBt, st, bt, _, _, _, _, _, _, _, _, _, D8, _, _, K8.out.old UQ.out, UQ.out.block M8.out, HS8.out⟩⟩)
       (case measure => (simp [intOf]; omega))
    ·have HB0 := hid (K8.out.bytes)
     rcases D8 with _ | ⟨d0, DR⟩
     ·rw [hop] at hln; simp at hln
     obtain ⟨e1, e2, bb, e3⟩ := HB0.out 0 (by simp) (by rw [hop]; simp)
     have e4 : st.op[0]'(by rw [hop]; simp) = p := by simp [hop]
     rw [e4] at e2 e3
     simp only [List.getElem_cons_zero] at e2 e3
     have HD0 := hid e3
     have hmem : p ∈ st.op := by rw [hop]; simp
     have hpos : 0 < p.2.enc.length := p.2.enc_pos (K8.out.k.1.ck p hmem)
     have HNx := hid (show Calls Tryz.prog 9 #[.pointer (some ⟨cb, 0, none⟩)] w8 fun e w' => ∃ gb cv, e = .returned (.tuple #[.int .i64 tg8, .slice (some ⟨gb, 0, none⟩) p.2.enc.length cv, .bool true]) ∧ (w8.heap.size ≤ gb ∧ p.2.enc.length ≤ cv ∧ p.2.enc.length ≤ 9223372036854775807) ∧ BW w' gb p.2.enc.length ∧ Pk.OwnL w8.heap.size w' (.slice (some ⟨gb, 0, none⟩) p.2.enc.length cv) p.2.enc ∧ Old w8 w' from K8.out.k.st.next.mono (by
      intro e w' q
      unfold NxPost at q
      rw [hop] at q
      obtain ⟨v, rfl, o, u⟩ := q
      obtain ⟨g, c, rfl, hg, hc, hm, hw⟩ := BW.of o hpos
      exact ⟨g, c, by rw [HS8.out.2.2], ⟨hg, hc, hm⟩, hw, o, u⟩))
     obtain ⟨ln, hlv⟩ : ∃ ln, p.2.enc.length = ln := ⟨_, rfl⟩
     obtain ⟨KL, hKL⟩ : ∃ KL, st.op.map (·.1) = KL := ⟨_, rfl⟩
     have hkl : KL.length = pn8 := by rw [← hKL, List.length_map, hpn, hln]
     have HEq := hid (fun (i : Nat) (hi : i < pn8) => show ((d0 :: DR)[i]'(by omega)).q = KL[i]'(by rw [hkl]; exact hi) from by
      have h1 : i < (d0 :: DR).length := by omega
      have h2 : i < st.op.length := by omega
      have := (HB0.out i h1 h2).1
      simp only [← hKL, List.getElem_map]
      exact this)
     have HOp := hid (fun (W : World) (u : Old w8 W) => show Calls Tryz.prog 14 #[.pointer (some ⟨cb, 0, none⟩)] W fun e w' => ∃ go co, e = .returned (.slice (some ⟨go, 0, none⟩) pn8 co) ∧ (∀ i (hi : i < pn8), w'.cell? ⟨go, i, none⟩ = some (.int .i64 (KL[i]'(by rw [hkl]; exact hi)))) ∧ Old W w' from (K8.out.k.old u).st.open.mono (by
      rintro e w' ⟨v, rfl, o, u⟩
      rw [hKL] at o
      have hp1 : 0 < KL.length := by rw [hkl, hpn]; simp
      obtain ⟨g, c, rfl, hx⟩ := o.at 0 hp1
      refine ⟨g, c, by rw [hkl], fun i hi => ?_, u⟩
      obtain ⟨g', c', e', hy⟩ := o.at i (by omega)
      simp only [Value.slice.injEq, Option.some.injEq, Addr.mk.injEq] at e'
      obtain ⟨⟨rfl, -⟩, -, rfl⟩ := e'
      exact hy))
     have HDc := hid (fun (W : World) (u : Old w8 W) => show ∃ gd cd, Value.slice pa8 pn8 pc8 = .slice (some ⟨gd, 0, none⟩) pn8 cd ∧ W.cell? ⟨gd, 1, none⟩ = some d0.v ∧ (∀ i (hi : i < pn8), W.cell? ⟨gd, i * 2, none⟩ = some (.int .i64 (KL[i]'(by rw [hkl]; exact hi)))) from by
      have o := (own_old K8.out.d.opn u : OwnD bt W (.slice pa8 pn8 pc8) (d0 :: DR))
      obtain ⟨g, c, e, h0, h1⟩ := OwnD.at o 0 (by simp)
      refine ⟨g, c, by rw [e, ← hpn], by simpa using h1, fun i hi => ?_⟩
      obtain ⟨g', c', e', h2, _⟩ := OwnD.at o i (by omega)
      rw [e] at e'
      simp only [Value.slice.injEq, Option.some.injEq, Addr.mk.injEq] at e'
      obtain ⟨⟨rfl, -⟩, -, rfl⟩ := e'
      rw [h2, HEq.out i hi])
     have HLv := hid hlv
     have hb9 := hid (show d0.B.length = ln from by rw [e2, hlv])
     rw [hlv] at HNx hpos
     clear e1 e4 hmem hop hKL HB0 HEq hln
     have hp1 : 0 < pn8 := by rw [hpn]; simp
     have g1' : decide ((pn8 : Int) > 0) = true := decide_eq_true (by omega)
     have g2' : decide ((0 : Int) < (pn8 : Int)) = true := decide_eq_true (by omega)
     have HPn := hid hpn
     have HP8 := hid (show pn8 ≤ 8 from by rw [hpn, K8.out.d.len]; exact K8.out.k.1.few)
     have HKl := hid hkl
     clear hpn
     go_upto_region 19 with (go_at_call 9; refine HNx.out.mono ?_; rintro e wa ⟨gb, cv, rfl, hgb, hbw, hby, u⟩; have HGb := hid hgb; have HBw := hid hbw; have HBy := hid hby; have UA := hid u; clear hgb hbw hby u)
     go_upto_region 20 with (go_at_call 14; refine (HOp.out _ UA.out).mono ?_; rintro e wb ⟨go, co, rfl, hx, u⟩; have HX := hid hx; have UW := hid u; have UO := hid (UA.out.trans u); clear hx u)
     clear HNx HOp UA
     have HTg := hid (fun (W : World) (u : Old wb W) => HTg.out W (UO.out.trans u))
     have HS20 := hid (C2.old UO.out ⟨(box6 M8.out).1.2.2.2.1, (box6 M8.out).1.2.2.2.2.1⟩)
     obtain ⟨y3', y4'⟩ := HS20.out
     go_quiet ((go_at_call 12; refine Calls.quiet_of (HTg.out _ ((Old.refl wb).drewN _))))
     have UB := hid ((Old.refl wb).drewN nq)
     clear HS20 HTg y3' y4'
     generalize wb.drewN nq = wd at *
     obtain ⟨gd, cd, e5, hd1, hdx⟩ := HDc.out wd (UO.out.trans UB.out)
     have HSl := hid e5
     simp only [Value.slice.injEq] at e5
     obtain ⟨rfl, -, rfl⟩ := e5
     have HDx := hid (fun (W : World) (u : Old wd W) => HDc.out W ((UO.out.trans UB.out).trans u))
     clear hdx HDc
     obtain ⟨m3, m4⟩ := C2.old (UO.out.trans UB.out) (show w8.cell? ⟨mb, 3, none⟩ = some (.int .i64 tg8) ∧ w8.cell? ⟨mb, 4, none⟩ = some (.slice (some ⟨gd, 0, none⟩) pn8 pc8) from ⟨(box6 M8.out).1.2.2.2.1, (box6 M8.out).1.2.2.2.2.1⟩)
     have HBy2 := hid (show Pk.ByRow wd (.slice (some ⟨gb, 0, none⟩) ln cv) ln (Pk.gd p.2.enc) from by have q : Pk.OwnB _ _ _ p.2.enc.length (Pk.gd p.2.enc) := OwnL.old' HBy.out (UW.out.trans UB.out); rw [HLv.out] at q; exact q.row)
     have HDy2 := hid (show Pk.ByRow wd d0.v ln (Pk.gd p.2.enc) from by have q : Pk.OwnB _ _ _ p.2.enc.length (Pk.gd p.2.enc) := OwnL.old' HD0.out (UO.out.trans UB.out); rw [HLv.out] at q; exact q.row)
     unfold Dt.v at hd1
     have hd2 : wd.cell? ⟨gd, 1, none⟩ = some (.slice d0.a d0.n d0.c) := hd1
     clear hd1
     have l0' : (0 : Int) < (pn8 : Int) := by omega
     go_wp2_with (go_at_call 18; refine (Pk.sameBytes_eq _ _ ln _ _ _ HBy2.out HDy2.out (fun _ _ => rfl)).mono ?_; rintro e w' ⟨rfl, mz, rfl⟩; have UC := hid (show Old wd (wd.drewN mz) from (Old.refl _).drewN mz); clear m3 m4 hd2; generalize wd.drewN mz = we at *)
     go_loopw [157] (fun iv wx => ∃ j : Nat, j ≤ pn8 ∧ iv = .int .i64 (j : Nat) ∧ Old we wx) (fun j _ => pn8 - (intOf j).toNat)
     case atStart => exact ⟨0, Nat.zero_le _, rfl, Old.refl _⟩
     case round =>
      obtain ⟨j, hj, rfl, hup⟩ := hrel
      have UP := hid hup
      clear hup
      by_cases hjl : j < pn8
      ·have x0 := (UW.out.trans (UB.out.trans (UC.out.trans UP.out)) |> fun u => (show Old wb wr from (UB.out.trans (UC.out.trans UP.out)))).keep (HX.out j hjl)
       obtain ⟨gd', cd', e6, -, hdx⟩ := HDx.out wr (UC.out.trans UP.out)
       simp only [Value.slice.injEq, Option.some.injEq, Addr.mk.injEq] at e6
       obtain ⟨⟨rfl, -⟩, -, rfl⟩ := e6
       have x1 := hdx j hjl
       have x2 : wr.cell? ⟨mb, 4, none⟩ = some (.slice (some ⟨gd, 0, none⟩) pn8 pc8) := (UO.out.trans (UB.out.trans (UC.out.trans UP.out))).keep (box6 M8.out).1.2.2.2.2.1
       clear hdx
       obtain ⟨kx, hkx⟩ : ∃ kx, KL[j]'(by have := HKl.out; omega) = kx := ⟨_, rfl⟩
       rw [hkx] at x0 x1
       clear hkx
       have tt' : (kx != kx) = false := by simp
       have l1' : (0 : Int) ≤ (j : Int) := by omega
       have l2' : (j : Int) < (pn8 : Int) := by omega
       have l9' : pn8 ≤ 8 := HP8.out
       go_wp2
       go_quiet (fail)
       go_wp2
       exact ⟨⟨j + 1, hjl, by go_num, UP.out.drewN _⟩, by simp [intOf]; omega⟩
      ·have hjm : j = pn8 := by omega
       subst hjm
       clear hjl
       obtain ⟨wz, hwz⟩ : ∃ z, z = wr := ⟨_, rfl⟩
       subst hwz
       have UZ := hid (UB.out.trans (UC.out.trans UP.out))
       have HBz := hid (show BW wz gb ln from HBw.out.old (UW.out.trans UZ.out))
       go_wp2
       go_loopw [174] (fun iv wx => ∃ j : Nat, j ≤ ln ∧ iv = .int .i64 (j : Nat) ∧ BW wx gb ln ∧ Chg [gb] wz wx) (fun j _ => ln - (intOf j).toNat)
       case atStart => exact ⟨0, Nat.zero_le _, rfl, HBz.out, Chg.refl _ _⟩
       case round =>
        obtain ⟨j, hj, rfl, hbw, hch⟩ := hrel
        have HB3 := hid hbw
        have HC3 := hid hch
        clear hbw hch
        by_cases hjl : j < ln
        ·obtain ⟨x, x0, x1⟩ := HB3.out.cell j hjl
         have l1' : (0 : Int) ≤ (j : Int) := by omega
         have l2' : (j : Int) < (ln : Int) := by omega
         have l9' : ln ≤ 9223372036854775807 := HGb.out.2.2
         go_wp2
         go_roundw
         (case rel => exact ⟨j + 1, hjl, by go_num, HB3.out.set j 99, HC3.out.trans (Chg.set wr ⟨gb, j, none⟩ _ (by simp))⟩)
         (case measure => (simp [intOf]; omega))
        ·have hjm : j = ln := by omega
         subst hjm
         have UQ := hid (UO.out.trans UZ.out)
         have HFr := hid (show mb ≠ gb from fun e => by have := K8.out.ml.2; have := HGb.out.1; omega)
         go_wp2
         go_roundw
         (case rel => exact ⟨k + 1, by omega, by go_num, hid ⟨FBt, st, bt, _, _, _, _, _, _, _, _, _, (d0 :: DR), _, _, (K8.out.old UQ.out).far HC3.out (fun g q => by simp only [List.mem_singleton] at q; subst q; have h := HGb.out.1; have z := K8.out.lt; exact ⟨by omega, fun y => by have := (z.1 _ y).2; omega, fun y => by have := (z.2.1 _ y).2; omega⟩), HC3.out.heapAt (UQ.out.block M8.out) (by simp only [List.mem_singleton]; exact HFr.out), HS8.out⟩⟩)
         (case measure => (simp [intOf]; omega))
    )
   clear hK18
   by_cases h1 : ok = 1
   ·subst h1
    go_upto_region 10 with fail
    by_cases hz : addK s (⟨s1, s2, s3, a1, a2, a3, n1, n2, n3, c1, c2, c3, x1, x3, f2⟩ : Sb) = 0
    ·have HAd := hid (show Calls Tryz.prog 8 #[.pointer (some ⟨cb, 0, none⟩), .agg #[.int .i64 s1, .int .i64 s2, .int .i64 s3, .slice a1 n1 c1, .slice a2 n2 c2, .slice a3 n3 c3]] w3 fun e w' => e = .returned (.tuple #[.int .i64 (la + 1), .int .i64 0]) ∧ ∃ p1 p2 p3 q1 q2 q3 FB', Bx w cb mb FB' (addC s (mkC (aSb s (⟨s1, s2, s3, a1, a2, a3, n1, n2, n3, c1, c2, c3, x1, x3, f2⟩ : Sb)) p1 p2 p3 q1 q2 q3)) base (.slice ma mn mc) (.slice pa pn pc) (.slice ra rn rc) D s w' ∧ MB mb ss la tg (.slice ma mn mc) (.slice pa pn pc) (.slice ra rn rc) w' ∧ w'.heap[ob]? = w3.heap[ob]? from (K3.out.k.add (⟨s1, s2, s3, a1, a2, a3, n1, n2, n3, c1, c2, c3, x1, x3, f2⟩ : Sb) (HX.out.old K3.out.k.2.2.1)).mono (by
       rintro e w' (⟨_, rfl, p1, p2, p3, q1, q2, q3, FB', kk, m⟩ | ⟨y, _⟩)
       ·exact ⟨by rw [HS.out.2.1], p1, p2, p3, q1, q2, q3, FB', K3.out.prog kk m, m.c.heapAt M3.out K3.out.n1, (m.c.heapAt B3.out HO3.out.1).trans B3.out.symm⟩
       ·exact absurd hz y))
     have HOk := hid K3.out.k.1
     go_upto_region 11 with (go_at_call 8; refine HAd.out.mono ?_; rintro e w5 ⟨rfl, p1, p2, p3, y1, y2, y3, FB', kk, mm, oo⟩; have K5 := hid kk; have M5 := hid mm; have B5 := hid (oo.trans B3.out); clear kk mm oo q0 q1 q2 q3 q4 q5 q6 q7 q8 q9 qa qb)
     clear HAd K3 M3 B3
     have HDo := hid (show Calls Tryz.prog 16 #[.agg #[.int .i64 ss, .int .i64 la, .slice ma mn mc, .int .i64 tg, .slice pa pn pc, .slice ra rn rc], .agg #[.int .i64 s1, .int .i64 s2, .int .i64 s3, .slice a1 n1 c1, .slice a2 n2 c2, .slice a3 n3 c3]] w5 fun e w' => ∃ ua un uc D', e = .returned (.tuple #[.agg #[.int .i64 ss, .int .i64 (la + 1), .slice ma mn mc, .int .i64 tg, .slice ua un uc, .slice ra rn rc], .int .i64 (la + 1), .int .i64 0]) ∧ Bx w cb mb FB' (addC s (mkC (aSb s (⟨s1, s2, s3, a1, a2, a3, n1, n2, n3, c1, c2, c3, x1, x3, f2⟩ : Sb)) p1 p2 p3 y1 y2 y3)) base (.slice ma mn mc) (.slice ua un uc) (.slice ra rn rc) D' (addC s (mkC (aSb s (⟨s1, s2, s3, a1, a2, a3, n1, n2, n3, c1, c2, c3, x1, x3, f2⟩ : Sb)) p1 p2 p3 y1 y2 y3)) w' ∧ Old w5 w' from by
      have q := K5.out.d.addR HOk.out K5.out.lo.2 (⟨s1, s2, s3, a1, a2, a3, n1, n2, n3, c1, c2, c3, x1, x3, f2⟩ : Sb) (HX.out.old K5.out.k.2.2.1)
      rw [HS.out.1, HS.out.2.1, HS.out.2.2] at q
      refine q.mono ?_
      rintro e w' (⟨y, _⟩ | ⟨_, ua, un, uc, D', rfl, dd, nn, u⟩)
      ·exact absurd hz y
      ·exact ⟨ua, un, uc, D', rfl, K5.out.doc (dd p1 p2 p3 y1 y2 y3) nn u, u⟩)
     have HS6 := hid (show (addC s (mkC (aSb s (⟨s1, s2, s3, a1, a2, a3, n1, n2, n3, c1, c2, c3, x1, x3, f2⟩ : Sb)) p1 p2 p3 y1 y2 y3)).ss = ss ∧ (addC s (mkC (aSb s (⟨s1, s2, s3, a1, a2, a3, n1, n2, n3, c1, c2, c3, x1, x3, f2⟩ : Sb)) p1 p2 p3 y1 y2 y3)).la = la + 1 ∧ tgt (addC s (mkC (aSb s (⟨s1, s2, s3, a1, a2, a3, n1, n2, n3, c1, c2, c3, x1, x3, f2⟩ : Sb)) p1 p2 p3 y1 y2 y3)) = tg from ⟨HS.out.1, by show s.la + 1 = _; rw [HS.out.2.1], HS.out.2.2⟩)
     generalize addC s (mkC (aSb s (⟨s1, s2, s3, a1, a2, a3, n1, n2, n3, c1, c2, c3, x1, x3, f2⟩ : Sb)) p1 p2 p3 y1 y2 y3) = s6 at *
     clear hz
     obtain ⟨q0, q1, q2, q3, q4, q5, q6, q7, q8, q9, qa, qb⟩ := box12P B5.out
     obtain ⟨⟨z0, z1, z2, z3, z4, z5⟩, zf⟩ := box6 M5.out
     go_upto_region 12 with (go_at_call 16; refine HDo.out.mono ?_; rintro e w6 ⟨ua, un, uc, D', rfl, kk, u⟩; have K6 := hid kk; have M6 := hid (u.block M5.out); clear kk u q0 q1 q2 q3 q4 q5 q6 q7 q8 q9 qa qb z0 z1 z2 z3 z4 z5 zf)
     obtain ⟨nb, hnb⟩ : ∃ nb, w6.heap.size = nb := ⟨_, rfl⟩
     have NB := hid (alloc_at w6 (.cells #[.int .i64 ss, .int .i64 (la + 1), .slice ma mn mc, .int .i64 tg, .slice ua un uc, .slice ra rn rc] 56))
     have K7 := hid (K6.out.old ((Old.refl w6).alloc (.cells #[.int .i64 ss, .int .i64 (la + 1), .slice ma mn mc, .int .i64 tg, .slice ua un uc, .slice ra rn rc] 56)))
     have M7 := hid (((Old.refl w6).alloc (.cells #[.int .i64 ss, .int .i64 (la + 1), .slice ma mn mc, .int .i64 tg, .slice ua un uc, .slice ra rn rc] 56)).block M6.out)
     rw [hnb] at NB ⊢
     clear hnb K6 M6
     generalize w6.alloc (.cells #[.int .i64 ss, .int .i64 (la + 1), .slice ma mn mc, .int .i64 tg, .slice ua un uc, .slice ra rn rc] 56) = w7 at *
     obtain ⟨⟨y0, y1, y2, y3, y4, y5⟩, -⟩ := box6 NB.out
     obtain ⟨⟨z0, z1, z2, z3, z4, z5⟩, zf⟩ := box6 M7.out
     have f0 := zf 0; have f1 := zf 1; have f2' := zf 2; have f3 := zf 3; have f4 := zf 4; have f5 := zf 5
     have t1' : ((la + 1) != (la + 1)) = false := by simp
     go_wp2
     obtain ⟨m8', c8'⟩ := six_set (u0 := .int .i64 ss) (u1 := .int .i64 (la + 1)) (u2 := .slice ma mn mc) (u3 := .int .i64 tg) (u4 := .slice ua un uc) (u5 := .slice ra rn rc) M7.out
     have M8' := hid m8'
     have C8' := hid c8'
     clear m8' c8' y0 y1 y2 y3 y4 y5 z0 z1 z2 z3 z4 z5 zf f0 f1 f2' f3 f4 f5 t1' M7 NB
     generalize ((((((w7.setCell ⟨mb, 0, none⟩ (.int .i64 ss)).setCell ⟨mb, 1, none⟩ (.int .i64 (la + 1))).setCell ⟨mb, 2, none⟩ (.slice ma mn mc)).setCell ⟨mb, 3, none⟩ (.int .i64 tg)).setCell ⟨mb, 4, none⟩ (.slice ua un uc)).setCell ⟨mb, 5, none⟩ (.slice ra rn rc)) = w8 at *
     have HK := hid (show ∃ FB s base ma mn mc pa pn pc ra rn rc D la tg, Bx w cb mb FB s base (.slice ma mn mc) (.slice pa pn pc) (.slice ra rn rc) D s w8 ∧ MB mb ss la tg (.slice ma mn mc) (.slice pa pn pc) (.slice ra rn rc) w8 ∧ s.ss = ss ∧ s.la = la ∧ tgt s = tg from ⟨FB', s6, base, _, _, _, _, _, _, _, _, _, D', (la + 1), tg, K7.out.var C8'.out, M8'.out, HS6.out⟩)
     clear K7 C8' M8'
     exact HT.out _ _ _ _ _ _ _ _ _ _ _ _ _ _ _ _ _ _ _ _ _ _ _ _ _ _ _ _ _ _ _ _ _ _ _ _ _ _ _ _ _ _ _ _ _ _ _ _ _ _ _ _ _ _ _ _ _ _ _ _ _ _ _ _ _ _ _ _ _ _ _ _ _ _ _ _ _ _ _ _ _ _ _ _ _ _ _ _ _ _ _ _ _ _ _ _ _ _ _ _ _ _ _ _ _ _ _ _ _ _ _ _ _ _ _ _ _ _ _ _ _ _ _ _ _ _ _ _ _ _ _ _ _ _ _ _ _ _ _ _ _ _ _ _ _ _ _ _ _ _ _ _ _ _ _ _ w8 HK
    ·obtain ⟨kc, hkc⟩ : ∃ kc, addK s (⟨s1, s2, s3, a1, a2, a3, n1, n2, n3, c1, c2, c3, x1, x3, f2⟩ : Sb) = kc := ⟨_, rfl⟩
     have HOk := hid K3.out.k.1
     have HAd := hid (show Calls Tryz.prog 8 #[.pointer (some ⟨cb, 0, none⟩), .agg #[.int .i64 s1, .int .i64 s2, .int .i64 s3, .slice a1 n1 c1, .slice a2 n2 c2, .slice a3 n3 c3]] w3 fun e w' => e = .returned (.tuple #[.int .i64 0, .int .i64 kc]) ∧ Bx w cb mb FB s base (.slice ma mn mc) (.slice pa pn pc) (.slice ra rn rc) D s w' ∧ MB mb ss la tg (.slice ma mn mc) (.slice pa pn pc) (.slice ra rn rc) w' ∧ w'.heap[ob]? = w3.heap[ob]? from (K3.out.k.add (⟨s1, s2, s3, a1, a2, a3, n1, n2, n3, c1, c2, c3, x1, x3, f2⟩ : Sb) (HX.out.old K3.out.k.2.2.1)).mono (by
      rintro e w' (⟨y, _⟩ | ⟨_, rfl, kk, m⟩)
      ·exact absurd y hz
      ·exact ⟨by rw [hkc], K3.out.prog kk m, m.c.heapAt M3.out K3.out.n1, (m.c.heapAt B3.out HO3.out.1).trans B3.out.symm⟩))
     go_upto_region 11 with (go_at_call 8; refine HAd.out.mono ?_; rintro e w5 ⟨rfl, kk, mm, oo⟩; have K5 := hid kk; have M5 := hid mm; have B5 := hid (oo.trans B3.out); clear kk mm oo q0 q1 q2 q3 q4 q5 q6 q7 q8 q9 qa qb)
     clear HAd K3 M3 B3
     have HDo := hid (show Calls Tryz.prog 16 #[.agg #[.int .i64 ss, .int .i64 la, .slice ma mn mc, .int .i64 tg, .slice pa pn pc, .slice ra rn rc], .agg #[.int .i64 s1, .int .i64 s2, .int .i64 s3, .slice a1 n1 c1, .slice a2 n2 c2, .slice a3 n3 c3]] w5 fun e w' => e = .returned (.tuple #[.agg #[.int .i64 ss, .int .i64 la, .slice ma mn mc, .int .i64 tg, .slice pa pn pc, .slice ra rn rc], .int .i64 0, .int .i64 kc]) ∧ Old w5 w' from by
      have q := K5.out.d.addR HOk.out K5.out.lo.2 (⟨s1, s2, s3, a1, a2, a3, n1, n2, n3, c1, c2, c3, x1, x3, f2⟩ : Sb) (HX.out.old K5.out.k.2.2.1)
      rw [HS.out.1, HS.out.2.1, HS.out.2.2] at q
      refine q.mono ?_
      rintro e w' (⟨_, rfl, u⟩ | ⟨y, _⟩)
      ·exact ⟨by rw [hkc], u⟩
      ·exact absurd y hz)
     have tk : (kc != kc) = false := by simp
     clear hz hkc
     obtain ⟨q0, q1, q2, q3, q4, q5, q6, q7, q8, q9, qa, qb⟩ := box12P B5.out
     obtain ⟨⟨z0, z1, z2, z3, z4, z5⟩, zf⟩ := box6 M5.out
     go_upto_region 12 with (go_at_call 16; refine HDo.out.mono ?_; rintro e w6 ⟨rfl, u⟩; have K6 := hid (K5.out.old u); have M6 := hid (u.block M5.out); clear u q0 q1 q2 q3 q4 q5 q6 q7 q8 q9 qa qb z0 z1 z2 z3 z4 z5 zf)
     obtain ⟨nb, hnb⟩ : ∃ nb, w6.heap.size = nb := ⟨_, rfl⟩
     have NB := hid (alloc_at w6 (.cells #[.int .i64 ss, .int .i64 la, .slice ma mn mc, .int .i64 tg, .slice pa pn pc, .slice ra rn rc] 56))
     have K7 := hid (K6.out.old ((Old.refl w6).alloc (.cells #[.int .i64 ss, .int .i64 la, .slice ma mn mc, .int .i64 tg, .slice pa pn pc, .slice ra rn rc] 56)))
     have M7 := hid (((Old.refl w6).alloc (.cells #[.int .i64 ss, .int .i64 la, .slice ma mn mc, .int .i64 tg, .slice pa pn pc, .slice ra rn rc] 56)).block M6.out)
     rw [hnb] at NB ⊢
     clear hnb K6 M6
     generalize w6.alloc (.cells #[.int .i64 ss, .int .i64 la, .slice ma mn mc, .int .i64 tg, .slice pa pn pc, .slice ra rn rc] 56) = w7 at *
     obtain ⟨⟨y0, y1, y2, y3, y4, y5⟩, -⟩ := box6 NB.out
     obtain ⟨⟨z0, z1, z2, z3, z4, z5⟩, zf⟩ := box6 M7.out
     have f0 := zf 0; have f1 := zf 1; have f2' := zf 2; have f3 := zf 3; have f4 := zf 4; have f5 := zf 5
     have t1' : (la != la) = false := by simp
     go_wp2
     obtain ⟨m8', c8'⟩ := six_set (u0 := .int .i64 ss) (u1 := .int .i64 la) (u2 := .slice ma mn mc) (u3 := .int .i64 tg) (u4 := .slice pa pn pc) (u5 := .slice ra rn rc) M7.out
     have M8' := hid m8'
     have C8' := hid c8'
     clear m8' c8' y0 y1 y2 y3 y4 y5 z0 z1 z2 z3 z4 z5 zf f0 f1 f2' f3 f4 f5 t1' M7 NB
     generalize ((((((w7.setCell ⟨mb, 0, none⟩ (.int .i64 ss)).setCell ⟨mb, 1, none⟩ (.int .i64 la)).setCell ⟨mb, 2, none⟩ (.slice ma mn mc)).setCell ⟨mb, 3, none⟩ (.int .i64 tg)).setCell ⟨mb, 4, none⟩ (.slice pa pn pc)).setCell ⟨mb, 5, none⟩ (.slice ra rn rc)) = w8 at *
     have HK := hid (show ∃ FB s base ma mn mc pa pn pc ra rn rc D la tg, Bx w cb mb FB s base (.slice ma mn mc) (.slice pa pn pc) (.slice ra rn rc) D s w8 ∧ MB mb ss la tg (.slice ma mn mc) (.slice pa pn pc) (.slice ra rn rc) w8 ∧ s.ss = ss ∧ s.la = la ∧ tgt s = tg from ⟨FB, s, base, _, _, _, _, _, _, _, _, _, D, la, tg, K7.out.var C8'.out, M8'.out, HS.out⟩)
     clear K7 C8' M8'
     exact HT.out _ _ _ _ _ _ _ _ _ _ _ _ _ _ _ _ _ _ _ _ _ _ _ _ _ _ _ _ _ _ _ _ _ _ _ _ _ _ _ _ _ _ _ _ _ _ _ _ _ _ _ _ _ _ _ _ _ _ _ _ _ _ _ _ _ _ _ _ _ _ _ _ _ _ _ _ _ _ _ _ _ _ _ _ _ _ _ _ _ _ _ _ _ _ _ _ _ _ _ _ _ _ _ _ _ _ _ _ _ _ _ _ _ _ _ _ _ _ _ _ _ _ _ _ _ _ _ _ _ _ _ _ _ _ _ _ _ _ _ _ _ _ _ _ _ _ _ _ _ _ _ _ _ _ _ _ w8 HK
   ·have h1' : (ok == 1) = false := by rw [beq_eq_false_iff_ne]; exact h1
    by_cases h2 : ok = 2
    ·subst h2
     go_upto_region 16 with fail
     have HOk := hid K3.out.k.1
     have HHd := hid (show Calls Tryz.prog 11 #[.pointer (some ⟨cb, 0, none⟩), .int .i64 oq, .agg #[.int .i64 oc, .int .i64 on], .int .i64 oe, .int .i64 ol] w3 fun e w' => e = .returned (.tuple #[]) ∧ ∃ kl FB', LdAt s ol kl ∧ Bx w cb mb FB' (heardC s oq oc on oe kl) base (.slice ma mn mc) (.slice pa pn pc) (.slice ra rn rc) D s w' ∧ MB mb ss la tg (.slice ma mn mc) (.slice pa pn pc) (.slice ra rn rc) w' ∧ w'.heap[ob]? = w3.heap[ob]? from (K3.out.k.heard oq oc on oe ol HQ.out).mono (by
      rintro e w' ⟨kl, FB', rfl, hl, kk, m⟩
      exact ⟨rfl, kl, FB', hl, K3.out.prog kk m, m.c.heapAt M3.out K3.out.n1, (m.c.heapAt B3.out HO3.out.1).trans B3.out.symm⟩))
     go_upto_region 17 with (go_at_call 11; refine HHd.out.mono ?_; rintro e w5 ⟨rfl, kl, FB', hl, kk, mm, oo⟩; have HKl := hid hl; have K5 := hid kk; have M5 := hid mm; have B5 := hid (oo.trans B3.out); clear hl kk mm oo q0 q1 q2 q3 q4 q5 q6 q7 q8 q9 qa qb)
     clear HHd K3 M3 B3
     have HDo := hid (show Calls Tryz.prog 17 #[.agg #[.int .i64 ss, .int .i64 la, .slice ma mn mc, .int .i64 tg, .slice pa pn pc, .slice ra rn rc], .int .i64 oq, .int .i64 oc, .int .i64 on, .int .i64 oe, .int .i64 ol] w5 fun e w' => ∃ t7 ua un uc xa xn xc D', e = .returned (.agg #[.int .i64 ss, .int .i64 la, .slice ma mn mc, .int .i64 t7, .slice ua un uc, .slice xa xn xc]) ∧ t7 = tgt (heardC s oq oc on oe kl) ∧ Bx w cb mb FB' (heardC s oq oc on oe kl) base (.slice ma mn mc) (.slice ua un uc) (.slice xa xn xc) D' (heardC s oq oc on oe kl) w' ∧ Old w5 w' from by
      have q := K5.out.d.heardR HOk.out K5.out.lo.2 oq oc on oe ol
      rw [HS.out.1, HS.out.2.1, HS.out.2.2] at q
      refine q.mono ?_
      rintro e w' ⟨t7, ua, un, uc, xa, xn, xc, D', rfl, dd, nn, u⟩
      exact ⟨t7, ua, un, uc, xa, xn, xc, D', rfl, (dd kl HKl.out).1, K5.out.doc (dd kl HKl.out).2 nn u, u⟩)
     have HS6 := hid (show (heardC s oq oc on oe kl).ss = ss ∧ (heardC s oq oc on oe kl).la = la from ⟨(heardC_ms s oq oc on oe kl).2.1.trans HS.out.1, (heardC_ms s oq oc on oe kl).2.2.trans HS.out.2.1⟩)
     generalize heardC s oq oc on oe kl = s6 at *
     obtain ⟨q0, q1, q2, q3, q4, q5, q6, q7, q8, q9, qa, qb⟩ := box12P B5.out
     obtain ⟨⟨z0, z1, z2, z3, z4, z5⟩, zf⟩ := box6 M5.out
     go_wp2_with (go_at_call 17; refine HDo.out.mono ?_; rintro e w6 ⟨t7, ua, un, uc, xa, xn, xc, D', rfl, ht, kk, u⟩; have HT7 := hid ht; have K6 := hid kk; have M6 := hid (u.block M5.out); clear ht kk u q0 q1 q2 q3 q4 q5 q6 q7 q8 q9 qa qb z0 z1 z2 z3 z4 z5 zf; obtain ⟨⟨z0, z1, z2, z3, z4, z5⟩, zf⟩ := box6 M6.out; have f0 := zf 0; have f1 := zf 1; have f2' := zf 2; have f3 := zf 3; have f4 := zf 4; have f5 := zf 5)
     obtain ⟨m8', c8'⟩ := six_set (u0 := .int .i64 ss) (u1 := .int .i64 la) (u2 := .slice ma mn mc) (u3 := .int .i64 t7) (u4 := .slice ua un uc) (u5 := .slice xa xn xc) M6.out
     have M8' := hid m8'
     have C8' := hid c8'
     clear m8' c8' z0 z1 z2 z3 z4 z5 zf f0 f1 f2' f3 f4 f5 M6
     generalize ((((((w6.setCell ⟨mb, 0, none⟩ (.int .i64 ss)).setCell ⟨mb, 1, none⟩ (.int .i64 la)).setCell ⟨mb, 2, none⟩ (.slice ma mn mc)).setCell ⟨mb, 3, none⟩ (.int .i64 t7)).setCell ⟨mb, 4, none⟩ (.slice ua un uc)).setCell ⟨mb, 5, none⟩ (.slice xa xn xc)) = w8 at *
     have HK := hid (show ∃ FB s base ma mn mc pa pn pc ra rn rc D la tg, Bx w cb mb FB s base (.slice ma mn mc) (.slice pa pn pc) (.slice ra rn rc) D s w8 ∧ MB mb ss la tg (.slice ma mn mc) (.slice pa pn pc) (.slice ra rn rc) w8 ∧ s.ss = ss ∧ s.la = la ∧ tgt s = tg from ⟨FB', s6, base, ma, mn, mc, ua, un, uc, xa, xn, xc, D', la, t7, K6.out.var C8'.out, M8'.out, HS6.out.1, HS6.out.2, HT7.out.symm⟩)
     clear K6 C8' M8'
     exact HT.out _ _ _ _ _ _ _ _ _ _ _ _ _ _ _ _ _ _ _ _ _ _ _ _ _ _ _ _ _ _ _ _ _ _ _ _ _ _ _ _ _ _ _ _ _ _ _ _ _ _ _ _ _ _ _ _ _ _ _ _ _ _ _ _ _ _ _ _ _ _ _ _ _ _ _ _ _ _ _ _ _ _ _ _ _ _ _ _ _ _ _ _ _ _ _ _ _ _ _ _ _ _ _ _ _ _ _ _ _ _ _ _ _ _ _ _ _ _ _ _ _ _ _ _ _ _ _ _ _ _ _ _ _ _ _ _ _ _ _ _ _ _ _ _ _ _ _ _ _ _ _ _ _ _ _ _ w8 HK
    ·have h2' : (ok == 2) = false := by rw [beq_eq_false_iff_ne]; exact h2
     go_wp2
     have HK := hid (show ∃ FB s base ma mn mc pa pn pc ra rn rc D la tg, Bx w cb mb FB s base (.slice ma mn mc) (.slice pa pn pc) (.slice ra rn rc) D s w3 ∧ MB mb ss la tg (.slice ma mn mc) (.slice pa pn pc) (.slice ra rn rc) w3 ∧ s.ss = ss ∧ s.la = la ∧ tgt s = tg from ⟨FB, s, base, _, _, _, _, _, _, _, _, _, D, _, _, K3.out, M3.out, HS.out⟩)
     clear q0 q1 q2 q3 q4 q5 q6 q7 q8 q9 qa qb
     exact HT.out _ _ _ _ _ _ _ _ _ _ _ _ _ _ _ _ _ _ _ _ _ _ _ _ _ _ _ _ _ _ _ _ _ _ _ _ _ _ _ _ _ _ _ _ _ _ _ _ _ _ _ _ _ _ _ _ _ _ _ _ _ _ _ _ _ _ _ _ _ _ _ _ _ _ _ _ _ _ _ _ _ _ _ _ _ _ _ _ _ _ _ _ _ _ _ _ _ _ _ _ _ _ _ _ _ _ _ _ _ _ _ _ _ _ _ _ _ _ _ _ _ _ _ _ _ _ _ _ _ _ _ _ _ _ _ _ _ _ _ _ _ _ _ _ _ _ _ _ _ _ _ _ _ _ _ _ w3 HK
  ·obtain ⟨m2, hm2⟩ : ∃ m2, s.rs.length = m2 := ⟨_, rfl⟩
   have hrn : rn = m2 := by
    obtain ⟨a, c, e⟩ := K0.out.d.res.len
    simp only [Value.slice.injEq] at e
    rw [← hm2]; exact e.2.1
   subst hrn
   have HM2 := hid hm2
   have HR9 := hid (show rn ≤ 1099511627776 from by rw [← hm2]; have := K0.out.k.1.ct; have := K0.out.k.1.la; omega)
   have HRs := hid (fun (W : World) (u : Old wr W) => show Calls Tryz.prog 13 #[.pointer (some ⟨cb, 0, none⟩)] W fun e w' => ∃ v, e = .returned v ∧ OwnR W.heap.size w' v s.rs ∧ Old W w' from (K0.out.k.old u).st.results)
   clear HR hm2
   obtain ⟨wz, hwz⟩ : ∃ z, z = wr := ⟨_, rfl⟩
   subst hwz
   go_upto_region 37 with (go_at_call 13; refine (HRs.out _ (Old.refl _)).mono ?_; rintro e wa ⟨v7, rfl, o7, u7⟩; obtain ⟨a7, c7, rfl⟩ := OwnR.len o7; rw [HM2.out]; have O7 := hid o7; have UA := hid u7; clear o7 u7)
   clear HRs
   have z5 : wa.cell? ⟨mb, 5, none⟩ = some (.slice ra rn rc) := UA.out.keep (box6 M0.out).1.2.2.2.2.2
   go_wp2
   go_loopw [186] (fun iv wx => ∃ j : Nat, j ≤ rn ∧ iv = .int .i64 (j : Nat) ∧ Old wa wx) (fun j _ => rn - (intOf j).toNat)
   case atStart => exact ⟨0, Nat.zero_le _, rfl, Old.refl _⟩
   case round =>
    obtain ⟨j, hj, rfl, hup⟩ := hrel
    have UP := hid hup
    clear hup
    have z5 := UP.out.keep z5
    by_cases hjl : j < rn
    ·have hjl' : j < s.rs.length := by rw [HM2.out]; exact hjl
     obtain ⟨g, cap, e7, hx0, hx1, hx2⟩ := O7.out.at j hjl'
     simp only [Value.slice.injEq] at e7
     obtain ⟨rfl, -, rfl⟩ := e7
     have x0 := UP.out.keep hx0
     have x1 := UP.out.keep hx1
     have x2 := UP.out.keep hx2
     obtain ⟨g', cap', e8, hy0, hy1, hy2⟩ := OwnQ.at (own_old K0.out.d.res (UA.out.trans UP.out)) j hjl'
     simp only [Value.slice.injEq] at e8
     obtain ⟨rfl, -, rfl⟩ := e8
     clear hx0 hx1 hx2
     generalize s.rs[j].1 = r0 at *
     generalize s.rs[j].2.1 = r1 at *
     generalize s.rs[j].2.2 = r2 at *
     have l1' : (0 : Int) ≤ (j : Int) := by omega
     have l2' : (j : Int) < (rn : Int) := by omega
     have l3' : decide ((j : Int) ≥ (rn : Int)) = false := decide_eq_false (by omega)
     have l4' : decide ((rn : Int) ≤ (j : Int)) = false := decide_eq_false (by omega)
     have l5' : decide (rn ≤ j) = false := decide_eq_false (by omega)
     have l6' : ¬ rn ≤ j := by omega
     have t0' : (r0 != r0) = false := by simp
     have t1' : (r1 != r1) = false := by simp
     have t2' : (r2 != r2) = false := by simp
     have l9' : rn ≤ 1099511627776 := HR9.out
     go_wp2
     go_quiet (fail)
     go_wp2
     exact ⟨⟨j + 1, hjl, by go_num, UP.out.drewN _⟩, by simp [intOf]; omega⟩
    ·have hjm : j = rn := by omega
     subst hjm
     have UE := hid ((K0.out.k.2.2.1.trans UA.out).trans UP.out)
     go_wp2
     go_ret
     exact ⟨by simp, UE.out⟩
end Go.Proofs.YthjfkmjeppdcnaaGreat
