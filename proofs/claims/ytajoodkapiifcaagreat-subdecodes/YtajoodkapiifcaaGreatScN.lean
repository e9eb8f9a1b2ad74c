/- sub.Decode where a right submission's bytes stand; conditions: the bytes lie in memory. -/
import Derived.Test.YtajoodkapiifcaaGreatScM
import Derived.Test.YtajoodkapiifcaaGreatScI
import Derived.Lib.SlBytesRow
namespace Go.Proofs.YtajoodkapiifcaaGreat
open Go.RowKit Go.Lib
set_option linter.unusedVariables false
set_option linter.unusedSimpArgs false
set_option maxRecDepth 20000
def InBox (base sb : Nat) (s1 s2 s3 : Int) (n1 n2 n3 : Nat) (x1 x3 : Nat → Nat) (f2 : Nat → Sp) (w : World) : Prop := ∃ (p1 p2 p3 : Option Addr) (q1 q2 q3 : Nat), BX w sb s1 s2 s3 (.slice p1 n1 q1) (.slice p2 n2 q2) (.slice p3 n3 q3) ∧ FOwn base w (.slice p1 n1 q1) (rl x1 n1) ∧ SOwn base w (.slice p2 n2 q2) (rl f2 n2) ∧ FOwn base w (.slice p3 n3 q3) (rl x3 n3)
theorem InBox.chg {S : List Nat} {base sb : Nat} {s1 s2 s3 : Int} {n1 n2 n3 : Nat} {x1 x3 : Nat → Nat} {f2 : Nat → Sp} {w w' : World} (h : InBox base sb s1 s2 s3 n1 n2 n3 x1 x3 f2 w) (c : Pk.Chg S w w') (h1 : sb ∉ S) (h2 : ∀ k ∈ S, k < base) : InBox base sb s1 s2 s3 n1 n2 n3 x1 x3 f2 w' := by
 obtain ⟨p1, p2, p3, q1, q2, q3, hb, o1, o2, o3⟩ := h
 exact ⟨p1, p2, p3, q1, q2, q3, hb.chg c h1, o1.chg c h2, o2.chg c h2, o3.chg c h2⟩
theorem Pk.Chg.mono' {S T : List Nat} {a b : World} (h : Pk.Chg S a b) (hs : ∀ k ∈ S, k ∈ T) : Pk.Chg T a b := ⟨h.os, h.tape, h.output, h.size, fun i hi hn => h.block i hi (fun e => hn (hs i e))⟩
theorem ent_dec1 (args : Array Value) (w : World) : (callFunc 23 args).run Tryz.prog w = .ok (.enter 23 args) w := by kernel_rfl
theorem BX.put {w : World} {m : Nat} {r1 r2 r3 s1 s2 s3 : Int} {u1 u2 u3 v1 v2 v3 : Value} (h : BX w m r1 r2 r3 u1 u2 u3) : BX ((((((w.setCell ⟨m, 0, none⟩ (.int .i64 s1)).setCell ⟨m, 1, none⟩ (.int .i64 s2)).setCell ⟨m, 2, none⟩ (.int .i64 s3)).setCell ⟨m, 3, none⟩ v1).setCell ⟨m, 4, none⟩ v2).setCell ⟨m, 5, none⟩ v3) m s1 s2 s3 v1 v2 v3 := ((((h.set012 s1 s2 s3).setV v1).1.setV v2).2.1.setV v3).2.2
theorem put_chg (w : World) (m : Nat) (a b c d e f : Value) : Pk.Chg [m] w ((((((w.setCell ⟨m, 0, none⟩ a).setCell ⟨m, 1, none⟩ b).setCell ⟨m, 2, none⟩ c).setCell ⟨m, 3, none⟩ d).setCell ⟨m, 4, none⟩ e).setCell ⟨m, 5, none⟩ f) := ((((((Pk.Chg.set' _ ⟨m, 0, none⟩ _).trans (Pk.Chg.set' _ ⟨m, 1, none⟩ _)).trans (Pk.Chg.set' _ ⟨m, 2, none⟩ _)).trans (Pk.Chg.set' _ ⟨m, 3, none⟩ _)).trans (Pk.Chg.set' _ ⟨m, 4, none⟩ _)).trans (Pk.Chg.set' _ ⟨m, 5, none⟩ _))
theorem RL.end {w : World} {R b0 : Nat} (h : RL w R b0 []) : ∃ a cap, Pk.Rd w R (.slice a 0 cap) 0 true := by
 obtain ⟨v, h1, h2, _⟩ := h
 obtain ⟨a, c, e⟩ := Pk.ByRow.slice h2
 exact ⟨a, c, by rw [← show (([] : List Nat).length) = 0 from rfl, ← e]; exact h1⟩
theorem RL.opened (w : World) (b off n c : Nat) (L : List Nat) (hn : n = L.length) (h : Pk.ByRow w (.slice (some ⟨b, off, none⟩) n c) n (Pk.gd L)) : RL (Pk.opened w (.slice (some ⟨b, off, none⟩) n c)) (w.heap.size + 1) b L := by
 subst hn
 exact ⟨_, Pk.opened_R w _, h.up (Pk.opened_up w _), .inr rfl⟩
attribute [local go_sem] run_bits run_frombits run_store_float eqF
set_option maxHeartbeats 2000000 in
theorem dec1_ok (R b0 sb : Nat) (s1 s2 s3 : Int) (n1 n2 n3 : Nat) (x1 x3 : Nat → Nat) (f2 : Nat → Sp) (h1 : ∀ i, i < n1 → Fl.W (x1 i)) (h2 : ∀ i, i < n2 → Fl.W (f2 i).a ∧ Fl.W (f2 i).b) (h3 : ∀ i, i < n3 → Fl.W (x3 i)) (hc : chkV s1 s2 s3 n1 n2 n3 x1 x3 f2 = 0) (w : World) (h : RL w R b0 (bytesS s1 s2 s3 n1 n2 n3 x1 x3 f2 [])) (hb : b0 ≠ R) (hR : R < w.heap.size) (hb0 : b0 < w.heap.size) (hsb : BX w sb 0 0 0 (.slice none 0 0) (.slice none 0 0) (.slice none 0 0)) (hne : sb ≠ R) (hne2 : sb ≠ b0) :
    Calls Tryz.prog 23 #[.pointer (some ⟨R, 0, none⟩), .pointer (some ⟨sb, 0, none⟩)] w fun e w' => Pk.Chg [R, sb] w w' ∧ e = .returned (.tuple #[]) ∧ RL w' R b0 [] ∧ InBox w.heap.size sb s1 s2 s3 n1 n2 n3 x1 x3 f2 w' := by
 have hp := chk_parts hc
 have hd := crowd_rng hp.2.1
 have HR := hid (read_ok R b0 s1 s2 s3 n1 n2 n3 x1 x3 f2 (mis_rng hp.1) hd (ordF_canon h1 hp.2.2.2.2.1) (ordF_canon h3 hp.2.2.2.2.2.2) (ordS_facts h2 hp.2.2.2.2.2.1) [] w h hb hR hb0)
 have HSZ := hid (show sb < w.heap.size from World.block_lt_of_cell? w _ hsb.1.1)
 have HCk := hid (show ∀ (W : World) (p1 p2 p3 : Option Addr) (q1 q2 q3 : Nat), FOwn w.heap.size W (.slice p1 n1 q1) (rl x1 n1) → SOwn w.heap.size W (.slice p2 n2 q2) (rl f2 n2) → FOwn w.heap.size W (.slice p3 n3 q3) (rl x3 n3) → Calls Tryz.prog 16 #[.agg #[.int .i64 s1, .int .i64 s2, .int .i64 s3, .slice p1 n1 q1, .slice p2 n2 q2, .slice p3 n3 q3]] W fun e w' => e = .returned (.int .i64 0) ∧ Old W w' from fun W p1 p2 p3 q1 q2 q3 o1 o2 o3 => by
  have q := check_any s1 s2 s3 p1 p2 p3 n1 n2 n3 q1 q2 q3 x1 x3 f2 (by omega) (by omega) (by omega) W (o1.row' h1 (by omega)) (o2.row' h2 (by omega)) (o3.row' h3 (by omega))
  rw [hc] at q
  exact q)
 have HS := hid hsb
 clear h hp hd hsb h1 h2 h3 hc
 go_enter Tryz.func23, Tryz.ntmps23
 go_upto_region 1 with (first | (go_at_call 24; refine HR.out.mono ?_; rintro e y1 ⟨p1, p2, p3, q1, q2, q3, rfl, o1, o2, o3, r1, c1⟩; have O1 := hid o1; have O2 := hid o2; have O3 := hid o3; have M1 := hid r1; have C1 := hid c1; have S1 := hid (HS.out.chg c1 (by simp; exact hne)); obtain ⟨⟨k0, k1, k2, k3, k4, k5⟩, kf⟩ := S1.out; have f0 := kf 0 (by omega); have f1 := kf 1 (by omega); have f2' := kf 2 (by omega); have f3 := kf 3 (by omega); have f4 := kf 4 (by omega); have f5 := kf 5 (by omega); clear o1 o2 o3 r1 c1 kf))
 generalize hw2 : (((((y1.setCell ⟨sb, 0, none⟩ (.int .i64 s1)).setCell ⟨sb, 1, none⟩ (.int .i64 s2)).setCell ⟨sb, 2, none⟩ (.int .i64 s3)).setCell ⟨sb, 3, none⟩ (.slice p1 n1 q1)).setCell ⟨sb, 4, none⟩ (.slice p2 n2 q2)).setCell ⟨sb, 5, none⟩ (.slice p3 n3 q3) = w2 at *
 have c2 : Pk.Chg [sb] y1 w2 := by rw [← hw2]; exact put_chg _ _ _ _ _ _ _ _
 have S2 := hid (show BX w2 sb s1 s2 s3 (.slice p1 n1 q1) (.slice p2 n2 q2) (.slice p3 n3 q3) from by rw [← hw2]; exact S1.out.put)
 have M2 := hid (M1.out.chg c2 (by simp; exact fun q => hne q.symm) (by simp; exact fun q => hne2 q.symm))
 have hSS : ∀ k ∈ [sb], k < w.heap.size := fun k hk => by simp at hk; subst hk; exact HSZ.out
 have P1 := hid (O1.out.chg c2 hSS)
 have P2 := hid (O2.out.chg c2 hSS)
 have P3 := hid (O3.out.chg c2 hSS)
 have C2 := hid (show Pk.Chg [R, sb] w w2 from (C1.out.mono' (by simp)).trans (c2.mono' (by simp)))
 have HC2 := hid (HCk.out w2 p1 p2 p3 q1 q2 q3 P1.out P2.out P3.out)
 clear hw2 c2 hSS k0 k1 k2 k3 k4 k5 f0 f1 f2' f3 f4 f5 S1 M1 O1 O2 O3 C1 HR HCk HS
 obtain ⟨⟨k0, k1, k2, k3, k4, k5⟩, kf⟩ := S2.out
 clear kf
 go_wp2_with (first | (go_at_call 16; refine HC2.out.mono ?_; rintro e y3 ⟨rfl, u3⟩; have U3 := hid u3; clear u3))
 have c3 : ∀ S, Pk.Chg S w2 y3 := fun S => Pk.Chg.old U3.out
 exact bodyPost_end (v := .tuple #[]) (by simp [results, Tryz.results23, go_sem]) rfl ⟨C2.out.trans (c3 _), rfl, M2.out.chg (c3 []) (by simp) (by simp), p1, p2, p3, q1, q2, q3, S2.out.chg (c3 []) (by simp), P1.out.chg (c3 []) (by simp), P2.out.chg (c3 []) (by simp), P3.out.chg (c3 []) (by simp)⟩
end Go.Proofs.YtajoodkapiifcaaGreat
namespace Go.Proofs.YtajoodkapiifcaaGreat
open Go.RowKit Go.Lib
set_option linter.unusedVariables false
set_option linter.unusedSimpArgs false
set_option maxRecDepth 20000
def DecPost (s1 s2 s3 : Int) (n1 n2 n3 : Nat) (x1 x3 : Nat → Nat) (f2 : Nat → Sp) (w : World) (e : Ending) (w' : World) : Prop := ∃ (p1 p2 p3 : Option Addr) (q1 q2 q3 : Nat), e = .returned (.tuple #[.agg #[.int .i64 s1, .int .i64 s2, .int .i64 s3, .slice p1 n1 q1, .slice p2 n2 q2, .slice p3 n3 q3], .int .i64 0]) ∧ (FRow w' (.slice p1 n1 q1) n1 x1 ∧ SRow w' (.slice p2 n2 q2) n2 f2 ∧ FRow w' (.slice p3 n3 q3) n3 x3) ∧ Old w w'
theorem bytesS_pos (s1 s2 s3 : Int) (n1 n2 n3 : Nat) (x1 x3 : Nat → Nat) (f2 : Nat → Sp) (B : List Nat) (h1 : 1 ≤ s1) (h2 : s1 ≤ 1099511627776) : 0 < (bytesS s1 s2 s3 n1 n2 n3 x1 x3 f2 B).length := by
 unfold bytesS
 rw [List.length_append]
 have := (Pk.num_len s1 (by omega) (by omega)).1
 omega
theorem Pk.Chg.toOld {S : List Nat} {a b c : World} (h : Old a b) (k : Pk.Chg S b c) (hS : ∀ j ∈ S, a.heap.size ≤ j) : Old a c := by
 have h2 := h.size
 exact ⟨k.os.trans h.os, k.tape.trans h.tape, k.output.trans h.output, Nat.le_trans h.size k.size, fun i hi => (k.block i (Nat.lt_of_lt_of_le hi h.size) (fun e => by have := hS i e; omega)).trans (h.block i hi)⟩
attribute [local go_sem] run_bits run_frombits run_store_float eqF
theorem decode_read (s1 s2 s3 : Int) (n1 n2 n3 : Nat) (x1 x3 : Nat → Nat) (f2 : Nat → Sp) (h1 : ∀ i, i < n1 → Fl.W (x1 i)) (h2 : ∀ i, i < n2 → Fl.W (f2 i).a ∧ Fl.W (f2 i).b) (h3 : ∀ i, i < n3 → Fl.W (x3 i)) (hc : chkV s1 s2 s3 n1 n2 n3 x1 x3 f2 = 0) (w : World) (b off n c sb : Nat) (hn : n = (bytesS s1 s2 s3 n1 n2 n3 x1 x3 f2 []).length) (hB : Pk.ByRow w (.slice (some ⟨b, off, none⟩) n c) n (Pk.gd (bytesS s1 s2 s3 n1 n2 n3 x1 x3 f2 []))) (hb : b < w.heap.size) (hne : sb ≠ b) (hsb : BX w sb 0 0 0 (.slice none 0 0) (.slice none 0 0) (.slice none 0 0)) :
    Calls Tryz.prog 22 #[.slice (some ⟨b, off, none⟩) n c, .func (.func 23) #[] #[.pointer (some ⟨sb, 0, none⟩)]] w fun e w' => e = .returned (.int .i64 0) ∧ Pk.Chg [sb] w w' ∧ InBox w.heap.size sb s1 s2 s3 n1 n2 n3 x1 x3 f2 w' := by
 have hz : sb < w.heap.size := World.block_lt_of_cell? w _ hsb.1.1
 have hos := Pk.opened_size w (.slice (some ⟨b, off, none⟩) n c)
 have hL := RL.opened w b off n c _ hn hB
 have hbx : BX (Pk.opened w (.slice (some ⟨b, off, none⟩) n c)) sb 0 0 0 (.slice none 0 0) (.slice none 0 0) (.slice none 0 0) := hsb.chg (S := []) (Pk.Chg.old (Pk.opened_up w _)) (by simp)
 have hd := dec1_ok (w.heap.size + 1) b sb s1 s2 s3 n1 n2 n3 x1 x3 f2 h1 h2 h3 hc _ hL (by omega) (by omega) (by omega) hbx (by omega) hne
 refine (Pk.read_of2 23 #[.pointer (some ⟨sb, 0, none⟩)] ent_dec1 w (some ⟨b, off, none⟩) n c [sb] (by simp; exact hz) (fun W k => k = 0 ∧ InBox (w.heap.size + 3) sb s1 s2 s3 n1 n2 n3 x1 x3 f2 W) (fun _ _ => False) (hd.mono ?_)).mono ?_
 ·rintro e w' ⟨c1, rfl, r1, i1⟩
  refine ⟨c1, .inl ⟨rfl, 0, r1.end, rfl, ?_⟩⟩
  rw [hos] at i1
  exact i1
 ·rintro e w' ⟨c1, W2, c2, ⟨k, ⟨rfl, i1⟩, rfl⟩ | ⟨cd, q, _⟩⟩
  ·refine ⟨rfl, c1, ?_⟩
   obtain ⟨p1, p2, p3, q1, q2, q3, hb1, o1, o2, o3⟩ := i1.chg c2 (by simp; omega) (by simp)
   exact ⟨p1, p2, p3, q1, q2, q3, hb1, o1.mono2 (by omega), o2.mono2 (by omega), o3.mono2 (by omega)⟩
  ·exact q.elim
set_option maxHeartbeats 2000000 in
theorem decode_ok (s1 s2 s3 : Int) (n1 n2 n3 : Nat) (x1 x3 : Nat → Nat) (f2 : Nat → Sp) (h1 : ∀ i, i < n1 → Fl.W (x1 i)) (h2 : ∀ i, i < n2 → Fl.W (f2 i).a ∧ Fl.W (f2 i).b) (h3 : ∀ i, i < n3 → Fl.W (x3 i)) (hc : chkV s1 s2 s3 n1 n2 n3 x1 x3 f2 = 0) (w : World) (v : Value) (hB : Pk.ByRow w v (bytesS s1 s2 s3 n1 n2 n3 x1 x3 f2 []).length (Pk.gd (bytesS s1 s2 s3 n1 n2 n3 x1 x3 f2 []))) :
    Calls Tryz.prog 11 #[v] w fun e w' => DecPost s1 s2 s3 n1 n2 n3 x1 x3 f2 w e w' := by
 have hp := chk_parts hc
 have hr := mis_rng hp.1
 have hd := crowd_rng hp.2.1
 have hpos := bytesS_pos s1 s2 s3 n1 n2 n3 x1 x3 f2 [] hr.1.1 hr.1.2
 obtain ⟨b, off, cap, rfl, hcc, _⟩ := hB.cells hpos
 have hb : b < w.heap.size := World.block_lt_of_cell? w _ (hcc 0 hpos).2
 have HRd := hid (fun (W : World) (sb : Nat) (q : Pk.ByRow W (.slice (some ⟨b, off, none⟩) (bytesS s1 s2 s3 n1 n2 n3 x1 x3 f2 []).length cap) (bytesS s1 s2 s3 n1 n2 n3 x1 x3 f2 []).length (Pk.gd (bytesS s1 s2 s3 n1 n2 n3 x1 x3 f2 []))) (hbW : b < W.heap.size) (hne : sb ≠ b) (hx : BX W sb 0 0 0 (.slice none 0 0) (.slice none 0 0) (.slice none 0 0)) => decode_read s1 s2 s3 n1 n2 n3 x1 x3 f2 h1 h2 h3 hc W b off _ cap sb rfl q hbW hne hx)
 have HB := hid hB
 have HW1 := hid (fun (W : World) B v (q : FOwn B W v (rl x1 n1)) => q.row' h1 (by omega))
 have HW2 := hid (fun (W : World) B v (q : SOwn B W v (rl f2 n2)) => q.row' h2 (by omega))
 have HW3 := hid (fun (W : World) B v (q : FOwn B W v (rl x3 n3)) => q.row' h3 (by omega))
 clear hp hr hd hpos hcc hB h1 h2 h3 hc
 generalize hL : bytesS s1 s2 s3 n1 n2 n3 x1 x3 f2 [] = L at *
 clear hL
 generalize hN : L.length = N at *
 clear hN
 have HBL := hid hb
 clear hb
 have hmf : ∀ (fn : Fn) (first cap : Array Value) (w : World), (Instr.makeFunc fn first cap).run Tryz.prog w = .ok (.func fn first cap) w := fun _ _ _ _ => rfl
 go_enter Tryz.func11, Tryz.ntmps11
 go_upto_region 1 with fail
 generalize hw1 : w.alloc (.cells #[.int .i64 0, .int .i64 0, .int .i64 0, .slice none 0 0, .slice none 0 0, .slice none 0 0] 28) = w1 at *
 generalize hrb : w.heap.size = rb at *
 have HB1 := hid (BX.new w w1 hw1 rb hrb)
 have HRB := hid hrb
 clear hw1 hrb
 go_upto_region 2 with fail
 generalize hw2 : w1.alloc (.cells #[.int .i64 0, .int .i64 0, .int .i64 0, .slice none 0 0, .slice none 0 0, .slice none 0 0] 28) = w2 at *
 generalize hsb : w1.heap.size = sb at *
 obtain ⟨hb2, hu2, hz2⟩ := BX.new w1 w2 hw2 sb hsb
 obtain ⟨hb1, hu1, hz1⟩ := HB1.out
 have HZ := hid (show sb = rb + 1 ∧ w.heap.size = rb ∧ b < rb ∧ w2.heap.size = rb + 2 from ⟨by omega, HRB.out, by have := HBL.out; have := HRB.out; omega, by omega⟩)
 have U2 := hid (hu1.trans hu2)
 have BR := hid (hb1.chg (S := []) (Pk.Chg.old hu2) (by simp))
 have HR2 := hid (HRd.out w2 sb (HB.out.up U2.out) (by have := HZ.out; omega) (by have := HZ.out; omega) hb2)
 clear hw2 hsb hb1 hu1 hz1 hb2 hu2 hz2 HB1 HRB HRd HB
 go_upto_region 3 with (first | (go_at_call 22; refine HR2.out.mono ?_; rintro e w3 ⟨rfl, c3, i3⟩; have C3 := hid c3; have I3 := hid i3; clear c3 i3))
 have T3 := hid (BR.out.chg C3.out (by simp; have := HZ.out; omega))
 have U3 := hid (show Old w w3 from Pk.Chg.toOld U2.out C3.out (by simp; have := HZ.out; omega))
 obtain ⟨p1, p2, p3, q1, q2, q3, hS, o1, o2, o3⟩ := I3.out
 have O1 := hid o1
 have O2 := hid o2
 have O3 := hid o3
 obtain ⟨⟨k0, k1, k2, k3, k4, k5⟩, kf⟩ := hS
 obtain ⟨⟨t0, t1, t2, t3, t4, t5⟩, tf⟩ := T3.out
 have e0 := tf 0 (by omega)
 have e1 := tf 1 (by omega)
 have e2 := tf 2 (by omega)
 have e3 := tf 3 (by omega)
 have e4 := tf 4 (by omega)
 have e5 := tf 5 (by omega)
 clear o1 o2 o3 kf tf C3 I3 BR U2 HR2 hmf
 go_wp2
 have cF := put_chg w3 rb (.int .i64 s1) (.int .i64 s2) (.int .i64 s3) (.slice p1 n1 q1) (.slice p2 n2 q2) (.slice p3 n3 q3)
 have hzz := HZ.out
 refine bodyPost_ret (v := .tuple #[.agg #[.int .i64 s1, .int .i64 s2, .int .i64 s3, .slice p1 n1 q1, .slice p2 n2 q2, .slice p3 n3 q3], .int .i64 0]) (by simp [results, Tryz.results11, go_sem, *]) rfl ⟨p1, p2, p3, q1, q2, q3, rfl, ⟨HW1.out _ _ _ (O1.out.chg cF (by simp; omega)), HW2.out _ _ _ (O2.out.chg cF (by simp; omega)), HW3.out _ _ _ (O3.out.chg cF (by simp; omega))⟩, Pk.Chg.toOld U3.out cF (by simp; omega)⟩
end Go.Proofs.YtajoodkapiifcaaGreat
namespace Go.Proofs.YtajoodkapiifcaaGreat
open Go.RowKit Go.Lib
set_option linter.unusedVariables false
set_option linter.unusedSimpArgs false
set_option maxRecDepth 20000
theorem chk_small : chkV 1 2 0 2 1 1 (atN [4607182418800017408, 4613937818241073152]) (atN [4611686018427387904]) (atS [⟨4607182418800017408, 4613937818241073152, false, false⟩]) = 0 := by decide +kernel
theorem encode_small (w : World) (g1 g2 g3 : Nat) (h : FRow w (.slice (some ⟨g1, 0, none⟩) 2 2) 2 (atN [4607182418800017408, 4613937818241073152]) ∧ SRow w (.slice (some ⟨g2, 0, none⟩) 1 1) 1 (atS [⟨4607182418800017408, 4613937818241073152, false, false⟩]) ∧ FRow w (.slice (some ⟨g3, 0, none⟩) 1 1) 1 (atN [4611686018427387904])) :
    Calls Tryz.prog 14 #[.agg #[.int .i64 1, .int .i64 2, .int .i64 0, .slice (some ⟨g1, 0, none⟩) 2 2, .slice (some ⟨g2, 0, none⟩) 1 1, .slice (some ⟨g3, 0, none⟩) 1 1]] w fun e w' => ∃ v', e = .returned (.tuple #[v', .int .i64 0]) ∧ (Calls Tryz.prog 11 #[v'] w' fun e w'' => DecPost 1 2 0 2 1 1 (atN [4607182418800017408, 4613937818241073152]) (atN [4611686018427387904]) (atS [⟨4607182418800017408, 4613937818241073152, false, false⟩]) w' e w'') ∧ Old w w' := by
 refine (encode_ok 1 2 0 _ _ _ 2 1 1 _ _ _ _ _ _ w h.1 h.2.1 h.2.2 chk_small).mono ?_
 rintro e w' ⟨v', rfl, o, u⟩
 refine ⟨v', rfl, decode_ok 1 2 0 2 1 1 _ _ _ h.1.ws h.2.1.ws h.2.2.ws chk_small w' v' ?_, u⟩
 rw [← encS_bytes]
 exact o.row
attribute [local go_sem] run_bits run_frombits run_store_float eqF
set_option maxHeartbeats 2000000 in
theorem coding_any (w : World) : Calls Tryz.prog 6 #[] w fun e w' => e = .returned (.bool true) ∧ Old w w' := by
 go_enter Tryz.func6, Tryz.ntmps6
 go_upto_region 3 with (first | (go_at_call 8; refine (small_any _).mono ?_; rintro e w1 ⟨g1, g2, g3, rfl, s1, u1⟩; have S1 := hid (encode_small w1 g1 g2 g3 s1); have U1 := hid u1; clear s1 u1) | (go_at_call 14; refine S1.out.mono ?_; rintro e w2 ⟨v2, rfl, d2, u2⟩; have D2 := hid d2; have U2 := hid (U1.out.trans u2); clear d2 u2) | (go_at_call 11; refine D2.out.mono ?_; rintro e w3 ⟨p1, p2, p3, q1, q2, q3, rfl, h3, u3⟩; have H3 := hid h3; have U3 := hid (U2.out.trans u3); clear h3 u3))
 generalize hw4 : w3.alloc (.cells #[.int .i64 1, .int .i64 2, .int .i64 0, .slice p1 2 q1, .slice p2 1 q2, .slice p3 1 q3] 28) = w4 at *
 generalize hsb : w3.heap.size = sb at *
 obtain ⟨hB, hV⟩ := sub_new w3 1 2 0 _ _ _ w4 hw4 sb hsb
 have HB := hid hB
 have HV := hid hV
 have H4 := hid (show FRow w4 (.slice p1 2 q1) 2 _ ∧ SRow w4 (.slice p2 1 q2) 1 _ ∧ FRow w4 (.slice p3 1 q3) 1 _ from ⟨H3.out.1.old hV, H3.out.2.1.old hV, H3.out.2.2.old hV⟩)
 clear hB hV hw4 hsb S1 D2 U1 U2 H3
 go_region_held3 (SubAt sb 1 2 0 (.slice p1 2 q1) (.slice p2 1 q2) (.slice p3 1 q3)) (first | assumption | exact HB.out | (refine SubAt.old ?_ HB.out; assumption)) (first | (go_at_call 8; refine (small_any _).mono ?_; rintro e w5 ⟨j1, j2, j3, rfl, s5, u5⟩; have U5 : Old w4 w5 := ((Old.refl _).drew).trans u5; have S5 := hid s5; clear s5) | (go_at_call 13; refine (refSame_eq 1 2 0 p1 p2 p3 _ _ _ 2 1 1 q1 q2 q3 2 1 1 _ _ _ _ (H4.out.1.old U5) (H4.out.2.1.old U5) (H4.out.2.2.old U5) S5.out.1 S5.out.2.1 S5.out.2.2).mono ?_; rintro e w6 ⟨rfl, u6⟩; have U6 : Old w4 w6 := U5.trans u6))
 all_goals go_wp2
 all_goals go_ret
 all_goals exact ⟨rfl, (U3.out.trans HV.out).trans U6⟩
end Go.Proofs.YtajoodkapiifcaaGreat
namespace Go.Proofs.YtajoodkapiifcaaGreat
open Go.RowKit Go.Lib
set_option linter.unusedVariables false
set_option linter.unusedSimpArgs false
set_option maxRecDepth 20000
def ba (L : List Nat) : ByteArray := ⟨(L.map UInt8.ofNat).toArray⟩
theorem ba_size (L : List Nat) : (ba L).size = L.length := by simp [ba, ByteArray.size]
theorem ba_at (L : List Nat) (hL : ∀ y ∈ L, y < 256) (i : Nat) (hi : i < (ba L).size) : ((ba L)[i]).toNat = Pk.gd L i := by
 have hi' : i < L.length := by rw [ba_size] at hi; exact hi
 have e : (ba L)[i] = UInt8.ofNat L[i] := by
  show (ba L).data[i] = _
  simp [ba]
 rw [e]
 have h2 := hL _ (List.getElem_mem hi')
 have : Pk.gd L i = L[i] := by simp [Pk.gd, hi']
 rw [this]
 simp
 omega
theorem ba_inj {L M : List Nat} (hL : ∀ y ∈ L, y < 256) (hM : ∀ y ∈ M, y < 256) (h : ba L = ba M) : L = M := by
 have hs : L.length = M.length := by rw [← ba_size, ← ba_size, h]
 apply List.ext_getElem hs
 intro i h1 h2
 have e1 := ba_at L hL i (by rw [ba_size]; exact h1)
 have e2 := ba_at M hM i (by rw [ba_size]; exact h2)
 have : Pk.gd L i = L[i] := by simp [Pk.gd, h1]
 have q : Pk.gd M i = M[i] := by simp [Pk.gd, h2]
 rw [← this, ← q, ← e1, ← e2]
 congr 1
 simp only [h]
theorem row_conv (w : World) (b off cap : Nat) (L : List Nat) (hL : ∀ y ∈ L, y < 256) (hc : ∀ i, i < L.length → w.cell? ⟨b, off + i, none⟩ = some (.int .u8 (Pk.gd L i : Int))) : (convert 34 9 (.slice (some ⟨b, off, none⟩) L.length cap)).run Tryz.prog w = .ok (.string (ba L)) w := by
 have q := Go.Lib.run_convert_whole (P := Tryz.prog) w 34 5 9 Tryz.underlying34 Tryz.underlying5 Tryz.underlying9 b off (ba L) (fun i hi => by rw [hc i (by rw [ba_size] at hi; exact hi), ba_at L hL i hi]) cap
 rw [ba_size] at q
 exact q
theorem gd_lt {base : Nat} {w : World} {v : Value} {L : List Nat} (h : Pk.OwnL base w v L) : ∀ y ∈ L, y < 256 := fun y hy => by
 obtain ⟨i, hi, rfl⟩ := List.getElem_of_mem hy
 have := h.lt i hi
 simpa [Pk.gd, hi] using this
attribute [local go_sem] run_bits run_frombits run_store_float eqF
set_option maxHeartbeats 1000000 in
theorem bytesEq_any (w : World) (b off cap b' off' cap' : Nat) (L M : List Nat) (hL : ∀ y ∈ L, y < 256) (hM : ∀ y ∈ M, y < 256) (hc : ∀ i, i < L.length → w.cell? ⟨b, off + i, none⟩ = some (.int .u8 (Pk.gd L i : Int))) (hd : ∀ i, i < M.length → w.cell? ⟨b', off' + i, none⟩ = some (.int .u8 (Pk.gd M i : Int))) :
    Calls Tryz.prog 41 #[.slice (some ⟨b, off, none⟩) L.length cap, .slice (some ⟨b', off', none⟩) M.length cap'] w fun e w' => e = .returned (.bool (decide (L = M))) ∧ w' = w := by
 have q1 := row_conv w b off cap L hL hc
 have q2 := row_conv w b' off' cap' M hM hd
 have hI := hid (fun (h : ba L = ba M) => ba_inj hL hM h)
 clear hc hd hL hM
 by_cases e : L = M
 ·subst e
  rw [decide_eq_true rfl]
  go_enter Tryz.func41, Tryz.ntmps41
  go_wp2
  go_ret
  exact ⟨ret_b (by simp), rfl⟩
 ·have hne : ba L ≠ ba M := fun q => e (hI.out q)
  have hb : ((ba L).toList == (ba M).toList) = false := by
   rw [beq_eq_false_iff_ne]
   intro q
   rw [Go.Lib.toList_data, Go.Lib.toList_data] at q
   exact hne (ByteArray.ext (Array.toList_inj.1 q))
  rw [decide_eq_false e]
  generalize ba L = S1 at *
  generalize ba M = S2 at *
  clear e hI
  go_enter Tryz.func41, Tryz.ntmps41
  go_wp2
  go_ret
  exact ⟨rfl, rfl⟩
end Go.Proofs.YtajoodkapiifcaaGreat
namespace Go.Proofs.YtajoodkapiifcaaGreat
open Go.RowKit Go.Lib
set_option linter.unusedVariables false
set_option linter.unusedSimpArgs false
set_option maxRecDepth 20000
structure Sb where
 s1 : Int
 s2 : Int
 s3 : Int
 a1 : Option Addr
 a2 : Option Addr
 a3 : Option Addr
 n1 : Nat
 n2 : Nat
 n3 : Nat
 c1 : Nat
 c2 : Nat
 c3 : Nat
 x1 : Nat → Nat
 x3 : Nat → Nat
 f2 : Nat → Sp
def Sb.v (s : Sb) : Value := .agg #[.int .i64 s.s1, .int .i64 s.s2, .int .i64 s.s3, .slice s.a1 s.n1 s.c1, .slice s.a2 s.n2 s.c2, .slice s.a3 s.n3 s.c3]
structure Sb.Ok (s : Sb) (w : World) : Prop where
 h1 : FRow w (.slice s.a1 s.n1 s.c1) s.n1 s.x1
 h2 : SRow w (.slice s.a2 s.n2 s.c2) s.n2 s.f2
 h3 : FRow w (.slice s.a3 s.n3 s.c3) s.n3 s.x3
 b1 : s.n1 ≤ 17592186044000
 b2 : s.n2 ≤ 5864062014805
 b3 : s.n3 ≤ 17592186044000
theorem Sb.Ok.old {s : Sb} {w w' : World} (h : s.Ok w) (u : Old w w') : s.Ok w' := ⟨h.h1.old u, h.h2.old u, h.h3.old u, h.b1, h.b2, h.b3⟩
def Sb.chk (s : Sb) : Int := chkV s.s1 s.s2 s.s3 s.n1 s.n2 s.n3 s.x1 s.x3 s.f2
def Sb.enc (s : Sb) : List Nat := encS s.s1 s.s2 s.s3 s.n1 s.n2 s.n3 s.x1 s.x3 s.f2
theorem Sb.encode_ok (s : Sb) (w : World) (h : s.Ok w) (hc : s.chk = 0) : Calls Tryz.prog 14 #[.agg #[.int .i64 s.s1, .int .i64 s.s2, .int .i64 s.s3, .slice s.a1 s.n1 s.c1, .slice s.a2 s.n2 s.c2, .slice s.a3 s.n3 s.c3]] w fun e w' => ∃ b g c, e = .returned (.tuple #[.slice (some ⟨b, g, none⟩) s.enc.length c, .int .i64 0]) ∧ Pk.OwnL w.heap.size w' (.slice (some ⟨b, g, none⟩) s.enc.length c) s.enc ∧ (∀ i, i < s.enc.length → w'.cell? ⟨b, g + i, none⟩ = some (.int .u8 (Pk.gd s.enc i : Int))) ∧ Old w w' := by
 refine (_root_.Go.Proofs.YtajoodkapiifcaaGreat.encode_ok s.s1 s.s2 s.s3 s.a1 s.a2 s.a3 s.n1 s.n2 s.n3 s.c1 s.c2 s.c3 s.x1 s.x3 s.f2 w h.h1 h.h2 h.h3 hc).mono ?_
 rintro e w' ⟨v', rfl, o, u⟩
 have hp := chk_parts hc
 have hr := mis_rng hp.1
 have hpos : 0 < s.enc.length := by
  unfold Sb.enc
  rw [encS_bytes]
  exact bytesS_pos _ _ _ _ _ _ _ _ _ _ hr.1.1 hr.1.2
 obtain ⟨b, g, c, e, hcc, _⟩ := o.row.cells hpos
 subst e
 exact ⟨b, g, c, rfl, o, fun i hi => (hcc i hi).2, u⟩
theorem Sb.encode_no (s : Sb) (w : World) (h : s.Ok w) (hc : s.chk ≠ 0) : Calls Tryz.prog 14 #[.agg #[.int .i64 s.s1, .int .i64 s.s2, .int .i64 s.s3, .slice s.a1 s.n1 s.c1, .slice s.a2 s.n2 s.c2, .slice s.a3 s.n3 s.c3]] w fun e w' => e = .returned (.tuple #[.slice none 0 0, .int .i64 s.chk]) ∧ Old w w' :=
 _root_.Go.Proofs.YtajoodkapiifcaaGreat.encode_no s.s1 s.s2 s.s3 s.a1 s.a2 s.a3 s.n1 s.n2 s.n3 s.c1 s.c2 s.c3 s.x1 s.x3 s.f2 h.b1 h.b2 h.b3 w h.h1 h.h2 h.h3 hc
theorem two_new (w : World) (a b : Sb) (w1 : World) (e : (w.alloc (.cells #[.int .i64 a.s1, .int .i64 a.s2, .int .i64 a.s3, .slice a.a1 a.n1 a.c1, .slice a.a2 a.n2 a.c2, .slice a.a3 a.n3 a.c3] 28)).alloc (.cells #[.int .i64 b.s1, .int .i64 b.s2, .int .i64 b.s3, .slice b.a1 b.n1 b.c1, .slice b.a2 b.n2 b.c2, .slice b.a3 b.n3 b.c3] 28) = w1) (m : Nat) (hm : w.heap.size = m) : SubAt m a.s1 a.s2 a.s3 (.slice a.a1 a.n1 a.c1) (.slice a.a2 a.n2 a.c2) (.slice a.a3 a.n3 a.c3) w1 ∧ SubAt (m + 1) b.s1 b.s2 b.s3 (.slice b.a1 b.n1 b.c1) (.slice b.a2 b.n2 b.c2) (.slice b.a3 b.n3 b.c3) w1 ∧ Old w w1 := by
 have h1 := sub_new w a.s1 a.s2 a.s3 (.slice a.a1 a.n1 a.c1) (.slice a.a2 a.n2 a.c2) (.slice a.a3 a.n3 a.c3) _ rfl m hm
 have h2 := sub_new (w.alloc (.cells #[.int .i64 a.s1, .int .i64 a.s2, .int .i64 a.s3, .slice a.a1 a.n1 a.c1, .slice a.a2 a.n2 a.c2, .slice a.a3 a.n3 a.c3] 28)) b.s1 b.s2 b.s3 _ _ _ w1 e (m + 1) (by simp [hm])
 exact ⟨SubAt.old h2.2 h1.1, h2.1, h1.2.trans h2.2⟩
def sameB (a b : Sb) : Bool := decide (a.chk = 0) && decide (b.chk = 0) && decide (a.enc = b.enc)
attribute [local go_sem] run_bits run_frombits run_store_float eqF
set_option maxHeartbeats 4000000 in
theorem subSame_any (a b : Sb) (w : World) (ha : a.Ok w) (hb : b.Ok w) :
    Calls Tryz.prog 17 #[.agg #[.int .i64 a.s1, .int .i64 a.s2, .int .i64 a.s3, .slice a.a1 a.n1 a.c1, .slice a.a2 a.n2 a.c2, .slice a.a3 a.n3 a.c3], .agg #[.int .i64 b.s1, .int .i64 b.s2, .int .i64 b.s3, .slice b.a1 b.n1 b.c1, .slice b.a2 b.n2 b.c2, .slice b.a3 b.n3 b.c3]] w fun e w' => e = .returned (.bool (sameB a b)) ∧ Old w w' := by
 have HAo := hid (fun (q : a.chk = 0) (W : World) (u : Old w W) => a.encode_ok W (ha.old u) q)
 have HAn := hid (fun (q : a.chk ≠ 0) (W : World) (u : Old w W) => a.encode_no W (ha.old u) q)
 have HBo := hid (fun (q : b.chk = 0) (W : World) (u : Old w W) => b.encode_ok W (hb.old u) q)
 have HBn := hid (fun (q : b.chk ≠ 0) (W : World) (u : Old w W) => b.encode_no W (hb.old u) q)
 have HSB := hid (show sameB a b = (decide (a.chk = 0) && decide (b.chk = 0) && decide (a.enc = b.enc)) from rfl)
 clear ha hb
 go_enter Tryz.func17, Tryz.ntmps17
 go_upto_region 1 with fail
 generalize hw1 : (w.alloc (.cells #[.int .i64 a.s1, .int .i64 a.s2, .int .i64 a.s3, .slice a.a1 a.n1 a.c1, .slice a.a2 a.n2 a.c2, .slice a.a3 a.n3 a.c3] 28)).alloc (.cells #[.int .i64 b.s1, .int .i64 b.s2, .int .i64 b.s3, .slice b.a1 b.n1 b.c1, .slice b.a2 b.n2 b.c2, .slice b.a3 b.n3 b.c3] 28) = w1 at *
 have HW := hid (two_new w a b w1 hw1 _ rfl)
 generalize w.heap.size = m at *
 clear hw1
 obtain ⟨⟨t0, t1, t2, t3, t4, t5⟩, ⟨u0, u1, u2, u3, u4, u5⟩, hV⟩ := HW.out
 have HV := hid hV
 clear hV
 by_cases ca : a.chk = 0
 ·have HA := hid (HAo.out ca)
  rw [decide_eq_true ca, Bool.true_and] at HSB
  clear HAo HAn ca
  go_upto_region 2 with (first | (go_at_call 14; refine (HA.out _ HV.out).mono ?_; rintro e w2 ⟨b2, g2, c2, rfl, o2, q2, v2⟩; have O2 := hid o2; have Q2 := hid q2; have V2 := hid v2; clear o2 q2 v2))
  have HW2 := hid (And.intro (SubAt.old V2.out HW.out.1) (SubAt.old V2.out HW.out.2.1))
  have X2 := hid (HV.out.trans V2.out)
  clear t0 t1 t2 t3 t4 t5 u0 u1 u2 u3 u4 u5 HA HW HV
  obtain ⟨⟨t0, t1, t2, t3, t4, t5⟩, ⟨u0, u1, u2, u3, u4, u5⟩⟩ := HW2.out
  by_cases cb : b.chk = 0
  ·have HB := hid (HBo.out cb)
   rw [decide_eq_true cb, Bool.true_and] at HSB
   clear HBo HBn cb
   go_upto_region 3 with (first | (go_at_call 14; refine (HB.out _ X2.out).mono ?_; rintro e w3 ⟨b3, g3, c3, rfl, o3, q3, v3⟩; have O3 := hid o3; have Q3 := hid q3; have V3 := hid v3; clear o3 q3 v3))
   have HE := hid (bytesEq_any w3 b2 g2 c2 b3 g3 c3 a.enc b.enc (gd_lt O2.out) (gd_lt O3.out) (fun i hi => V3.out.keep (Q2.out i hi)) Q3.out)
   have X3 := hid (X2.out.trans V3.out)
   clear t0 t1 t2 t3 t4 t5 u0 u1 u2 u3 u4 u5 HB HW2 X2 V2 V3 Q2 Q3 O2 O3
   go_wp2_with (first | (go_at_call 41; refine HE.out.mono ?_; rintro e w4 ⟨rfl, hq⟩; have hq2 := hq.symm; subst hq2))
   go_ret
   exact ⟨ret_b (by rw [HSB.out]), X3.out⟩
  ·have HB := hid (HBn.out cb)
   rw [decide_eq_false cb, Bool.false_and] at HSB
   have cb2 : (b.chk == 0) = false := by rw [beq_eq_false_iff_ne]; exact cb
   clear HBo HBn cb
   generalize b.chk = r at *
   go_wp2_with (first | (go_at_call 14; refine (HB.out _ X2.out).mono ?_; rintro e w3 ⟨rfl, v3⟩; have V3 := hid v3; clear v3))
   go_ret
   exact ⟨ret_b (by rw [HSB.out]), X2.out.trans V3.out⟩
 ·have HA := hid (HAn.out ca)
  rw [decide_eq_false ca, Bool.false_and, Bool.false_and] at HSB
  have ca2 : (a.chk == 0) = false := by rw [beq_eq_false_iff_ne]; exact ca
  clear HAo HAn ca
  generalize a.chk = r at *
  go_upto_region 2 with (first | (go_at_call 14; refine (HA.out _ HV.out).mono ?_; rintro e w2 ⟨rfl, v2⟩; have V2 := hid v2; clear v2))
  have HW2 := hid (And.intro (SubAt.old V2.out HW.out.1) (SubAt.old V2.out HW.out.2.1))
  have X2 := hid (HV.out.trans V2.out)
  clear t0 t1 t2 t3 t4 t5 u0 u1 u2 u3 u4 u5 HA HW HV
  obtain ⟨⟨t0, t1, t2, t3, t4, t5⟩, ⟨u0, u1, u2, u3, u4, u5⟩⟩ := HW2.out
  by_cases cb : b.chk = 0
  ·have HB := hid (HBo.out cb)
   clear HBo HBn cb
   go_wp2_with (first | (go_at_call 14; refine (HB.out _ X2.out).mono ?_; rintro e w3 ⟨b3, g3, c3, rfl, o3, q3, v3⟩; have V3 := hid v3; clear o3 q3 v3))
   go_ret
   exact ⟨ret_b (by rw [HSB.out]), X2.out.trans V3.out⟩
  ·have HB := hid (HBn.out cb)
   clear HBo HBn cb
   generalize b.chk = r2 at *
   go_wp2_with (first | (go_at_call 14; refine (HB.out _ X2.out).mono ?_; rintro e w3 ⟨rfl, v3⟩; have V3 := hid v3; clear v3))
   go_ret
   exact ⟨ret_b (by rw [HSB.out]), X2.out.trans V3.out⟩
end Go.Proofs.YtajoodkapiifcaaGreat
namespace Go.Proofs.YtajoodkapiifcaaGreat
open Go.RowKit Go.Lib
set_option linter.unusedVariables false
set_option linter.unusedSimpArgs false
set_option maxRecDepth 20000
def refB (a b : Sb) : Bool := decide (a.s1 = b.s1) && (decide (a.s2 = b.s2) && (decide (a.s3 = b.s3) && ((decide (a.n1 = b.n1) && Fl.sameU a.x1 b.x1 a.n1) && ((decide (a.n3 = b.n3) && Fl.sameU a.x3 b.x3 a.n3) && (decide (a.n2 = b.n2) && Fl.spU a.f2 b.f2 a.n2)))))
theorem num_split {z z' : Int} (h1 : -9223372036854775808 ≤ z ∧ z ≤ 9223372036854775807) (h2 : -9223372036854775808 ≤ z' ∧ z' ≤ 9223372036854775807) {A B : List Nat} (h : Pk.numL z ++ A = Pk.numL z' ++ B) : z = z' ∧ A = B := by
 obtain ⟨e1, e2⟩ := Pk.num_at_head z h1.1 h1.2 (Pk.gd (Pk.numL z ++ A)) (Pk.numL z ++ A).length (by simp) (fun i hi => Pk.gd_left _ _ _ hi)
 obtain ⟨f1, f2⟩ := Pk.num_at_head z' h2.1 h2.2 (Pk.gd (Pk.numL z' ++ B)) (Pk.numL z' ++ B).length (by simp) (fun i hi => Pk.gd_left _ _ _ hi)
 rw [h, f1] at e1
 rw [← e1] at h
 exact ⟨e1.symm, List.append_cancel_left h⟩
theorem key_split {x y : Nat} (hx : Fl.W x ∧ Fl.canon x = x) (hy : Fl.W y ∧ Fl.canon y = y) {A B : List Nat} (h : keyB x ++ A = keyB y ++ B) : x = y ∧ A = B := by
 obtain ⟨e, q⟩ := List.append_inj h (by rw [keyB_len, keyB_len])
 refine ⟨?_, q⟩
 have c1 := Pk.key_read (Fl.code x) (by have := Fl.code_le x hx.1; omega) (Pk.gd (keyB x)) (fun i _ => rfl)
 have c2 := Pk.key_read (Fl.code y) (by have := Fl.code_le y hy.1; omega) (Pk.gd (keyB y)) (fun i _ => rfl)
 rw [e, c2] at c1
 rw [← hx.2, ← hy.2, ← Fl.of_code x hx.1, ← Fl.of_code y hy.1, c1]
theorem keys_split {x y : Nat → Nat} {n : Nat} (hx : ∀ i, i < n → Fl.W (x i) ∧ Fl.canon (x i) = x i) (hy : ∀ i, i < n → Fl.W (y i) ∧ Fl.canon (y i) = y i) {A B : List Nat} (d : Nat) : ∀ k, k + d = n → kRest x n k A = kRest y n k B → (∀ i, k ≤ i → i < n → x i = y i) ∧ A = B := by
 induction d with
 | zero =>
  intro k hk h
  obtain rfl : k = n := by omega
  rw [kRest_end, kRest_end] at h
  exact ⟨fun i h1 h2 => by omega, h⟩
 | succ d ih =>
  intro k hk h
  rw [kRest_step x n k A (by omega), kRest_step y n k B (by omega)] at h
  obtain ⟨e, q⟩ := key_split (hx k (by omega)) (hy k (by omega)) h
  obtain ⟨r1, r2⟩ := ih (k + 1) (by omega) q
  exact ⟨fun i h1 h2 => by by_cases j : i = k; (subst j; exact e); exact r1 i (by omega) h2, r2⟩
theorem spans_split {f g : Nat → Sp} {n : Nat} (hx : ∀ i, i < n → (Fl.W (f i).a ∧ Fl.canon (f i).a = (f i).a) ∧ (Fl.W (f i).b ∧ Fl.canon (f i).b = (f i).b)) (hy : ∀ i, i < n → (Fl.W (g i).a ∧ Fl.canon (g i).a = (g i).a) ∧ (Fl.W (g i).b ∧ Fl.canon (g i).b = (g i).b)) {A B : List Nat} (d : Nat) : ∀ k, k + d = n → sRest f n k A = sRest g n k B → (∀ i, k ≤ i → i < n → (f i).a = (g i).a ∧ (f i).b = (g i).b) ∧ A = B := by
 induction d with
 | zero =>
  intro k hk h
  obtain rfl : k = n := by omega
  rw [sRest_end, sRest_end] at h
  exact ⟨fun i h1 h2 => by omega, h⟩
 | succ d ih =>
  intro k hk h
  rw [sRest_step f n k A (by omega), sRest_step g n k B (by omega)] at h
  obtain ⟨e, q⟩ := key_split (hx k (by omega)).1 (hy k (by omega)).1 h
  obtain ⟨e2, q2⟩ := key_split (hx k (by omega)).2 (hy k (by omega)).2 q
  obtain ⟨r1, r2⟩ := ih (k + 1) (by omega) q2
  exact ⟨fun i h1 h2 => by by_cases j : i = k; (subst j; exact ⟨e, e2⟩); exact r1 i (by omega) h2, r2⟩
theorem sameU_of {x y : Nat → Nat} : ∀ {n : Nat}, (∀ i, i < n → x i = y i) → Fl.sameU x y n = true
 | 0, _ => rfl
 | n + 1, h => by
  show (Fl.sameU x y n && decide (x n = y n)) = true
  rw [sameU_of (fun i hi => h i (by omega)), decide_eq_true (h n (by omega))]; rfl
theorem spU_of {f g : Nat → Sp} : ∀ {n : Nat}, (∀ i, i < n → f i = g i) → Fl.spU f g n = true
 | 0, _ => rfl
 | n + 1, h => by
  show (Fl.spU f g n && spEq (f n) (g n)) = true
  rw [spU_of (fun i hi => h i (by omega)), h n (by omega)]; simp [spEq]
theorem enc_same (a b : Sb) (ha : a.chk = 0) (hb : b.chk = 0) (wa : (∀ i, i < a.n1 → Fl.W (a.x1 i)) ∧ (∀ i, i < a.n2 → Fl.W (a.f2 i).a ∧ Fl.W (a.f2 i).b) ∧ ∀ i, i < a.n3 → Fl.W (a.x3 i)) (wb : (∀ i, i < b.n1 → Fl.W (b.x1 i)) ∧ (∀ i, i < b.n2 → Fl.W (b.f2 i).a ∧ Fl.W (b.f2 i).b) ∧ ∀ i, i < b.n3 → Fl.W (b.x3 i)) : decide (a.enc = b.enc) = refB a b := by
 have pa := chk_parts ha
 have pb := chk_parts hb
 have ra := mis_rng pa.1
 have rb := mis_rng pb.1
 have da := crowd_rng pa.2.1
 have db := crowd_rng pb.2.1
 have ka1 := ordF_canon wa.1 pa.2.2.2.2.1
 have ka3 := ordF_canon wa.2.2 pa.2.2.2.2.2.2
 have ka2 := ordS_facts wa.2.1 pa.2.2.2.2.2.1
 have kb1 := ordF_canon wb.1 pb.2.2.2.2.1
 have kb3 := ordF_canon wb.2.2 pb.2.2.2.2.2.2
 have kb2 := ordS_facts wb.2.1 pb.2.2.2.2.2.1
 rw [Bool.eq_iff_iff, decide_eq_true_eq]
 unfold Sb.enc
 rw [encS_bytes, encS_bytes]
 constructor
 ·intro h
  unfold bytesS at h
  obtain ⟨e1, h⟩ := num_split (by omega) (by omega) h
  obtain ⟨e2, h⟩ := num_split (by omega) (by omega) h
  obtain ⟨e3, h⟩ := num_split (by omega) (by omega) h
  obtain ⟨e4, h⟩ := num_split (by omega) (by omega) h
  have e4' : a.n1 = b.n1 := by omega
  rw [← e4'] at h kb1
  obtain ⟨e5, h⟩ := keys_split ka1 kb1 a.n1 0 (by omega) h
  obtain ⟨e6, h⟩ := num_split (by omega) (by omega) h
  have e6' : a.n2 = b.n2 := by omega
  rw [← e6'] at h kb2
  obtain ⟨e7, h⟩ := spans_split ka2.1 kb2.1 a.n2 0 (by omega) h
  obtain ⟨e8, h⟩ := num_split (by omega) (by omega) h
  have e8' : a.n3 = b.n3 := by omega
  rw [← e8'] at h kb3
  obtain ⟨e9, h⟩ := keys_split ka3 kb3 a.n3 0 (by omega) h
  unfold refB
  rw [decide_eq_true e1, decide_eq_true e2, decide_eq_true e3, decide_eq_true e4', decide_eq_true e6', decide_eq_true e8', sameU_of (fun i hi => e5 i (by omega) hi), sameU_of (fun i hi => e9 i (by omega) hi), spU_of (fun i hi => ?_)]
  ·rfl
  ·have q1 := e7 i (by omega) hi
   have q2 := ka2.2 i hi
   have q3 := kb2.2 i hi
   apply sp_ext
   unfold spEq
   rw [q2.1, q2.2, q3.1, q3.2, q1.1, q1.2]
   simp
 ·intro h
  unfold refB at h
  simp only [Bool.and_eq_true, decide_eq_true_eq] at h
  obtain ⟨e1, e2, e3, ⟨e4, e5⟩, ⟨e6, e7⟩, e8, e9⟩ := h
  have f1 := sameU_each e5
  have f3 := sameU_each e7
  have f2 : ∀ i, i < a.n2 → a.f2 i = b.f2 i := fun i hi => sp_ext (spU_each e9 i hi)
  have g1 : rl a.x1 a.n1 = rl b.x1 b.n1 := by rw [← e4]; exact List.map_congr_left fun i hi => f1 i (by simpa using hi)
  have g3 : rl a.x3 a.n3 = rl b.x3 b.n3 := by rw [← e6]; exact List.map_congr_left fun i hi => f3 i (by simpa using hi)
  have g2 : rl a.f2 a.n2 = rl b.f2 b.n2 := by rw [← e8]; exact List.map_congr_left fun i hi => f2 i (by simpa using hi)
  unfold bytesS kRest sRest
  rw [g1, g2, g3, e1, e2, e3, e4, e6, e8]
theorem Sb.Ok.ws {s : Sb} {w : World} (h : s.Ok w) : (∀ i, i < s.n1 → Fl.W (s.x1 i)) ∧ (∀ i, i < s.n2 → Fl.W (s.f2 i).a ∧ Fl.W (s.f2 i).b) ∧ ∀ i, i < s.n3 → Fl.W (s.x3 i) := ⟨h.h1.ws, h.h2.ws, h.h3.ws⟩
theorem sameB_ref (a b : Sb) (w : World) (ha : a.Ok w) (hb : b.Ok w) : sameB a b = (decide (a.chk = 0) && decide (b.chk = 0) && refB a b) := by
 unfold sameB
 by_cases c1 : a.chk = 0
 ·by_cases c2 : b.chk = 0
  ·rw [enc_same a b c1 c2 ha.ws hb.ws]
  ·rw [decide_eq_false c2]; simp
 ·rw [decide_eq_false c1]; simp
attribute [local go_sem] run_bits run_frombits run_store_float eqF
set_option maxHeartbeats 4000000 in
theorem refSameG (a b : Sb) (w : World) (ha : a.Ok w) (hb : b.Ok w) :
    Calls Tryz.prog 13 #[.agg #[.int .i64 a.s1, .int .i64 a.s2, .int .i64 a.s3, .slice a.a1 a.n1 a.c1, .slice a.a2 a.n2 a.c2, .slice a.a3 a.n3 a.c3], .agg #[.int .i64 b.s1, .int .i64 b.s2, .int .i64 b.s3, .slice b.a1 b.n1 b.c1, .slice b.a2 b.n2 b.c2, .slice b.a3 b.n3 b.c3]] w fun e w' => e = .returned (.bool (refB a b)) ∧ Old w w' := by
 have E1 := hid (fun (W : World) (u : Old w W) => sameKeysG _ _ _ _ _ _ W (ha.h1.old u) (hb.h1.old u))
 have E3 := hid (fun (W : World) (u : Old w W) => sameKeysG _ _ _ _ _ _ W (ha.h3.old u) (hb.h3.old u))
 have E2 := hid (fun (W : World) (u : Old w W) => sameSpansG _ _ _ _ _ _ W (ha.h2.old u) (hb.h2.old u))
 have HR := hid (show refB a b = (decide (a.s1 = b.s1) && (decide (a.s2 = b.s2) && (decide (a.s3 = b.s3) && ((decide (a.n1 = b.n1) && Fl.sameU a.x1 b.x1 a.n1) && ((decide (a.n3 = b.n3) && Fl.sameU a.x3 b.x3 a.n3) && (decide (a.n2 = b.n2) && Fl.spU a.f2 b.f2 a.n2)))))) from rfl)
 clear ha hb
 generalize refB a b = r at *
 generalize (decide (a.n1 = b.n1) && Fl.sameU a.x1 b.x1 a.n1) = o1 at *
 generalize (decide (a.n3 = b.n3) && Fl.sameU a.x3 b.x3 a.n3) = o3 at *
 generalize (decide (a.n2 = b.n2) && Fl.spU a.f2 b.f2 a.n2) = o2 at *
 go_enter Tryz.func13, Tryz.ntmps13
 go_upto_region 1 with fail
 generalize hw1 : (w.alloc (.cells #[.int .i64 a.s1, .int .i64 a.s2, .int .i64 a.s3, .slice a.a1 a.n1 a.c1, .slice a.a2 a.n2 a.c2, .slice a.a3 a.n3 a.c3] 28)).alloc (.cells #[.int .i64 b.s1, .int .i64 b.s2, .int .i64 b.s3, .slice b.a1 b.n1 b.c1, .slice b.a2 b.n2 b.c2, .slice b.a3 b.n3 b.c3] 28) = w1 at *
 have HW := hid (two_new w a b w1 hw1 _ rfl)
 generalize w.heap.size = m at *
 clear hw1
 obtain ⟨⟨t0, t1, t2, t3, t4, t5⟩, ⟨u0, u1, u2, u3, u4, u5⟩, hV⟩ := HW.out
 have HV := hid hV
 clear hV
 by_cases qs1 : a.s1 = b.s1
 ·have ps1 : (a.s1 == b.s1) = true := by rw [beq_iff_eq]; exact qs1
  rw [decide_eq_true qs1, Bool.true_and] at HR
  clear qs1
  by_cases qs2 : a.s2 = b.s2
  ·have ps2 : (a.s2 == b.s2) = true := by rw [beq_iff_eq]; exact qs2
   rw [decide_eq_true qs2, Bool.true_and] at HR
   clear qs2
   by_cases qs3 : a.s3 = b.s3
   ·have ps3 : (a.s3 == b.s3) = true := by rw [beq_iff_eq]; exact qs3
    rw [decide_eq_true qs3, Bool.true_and] at HR
    clear qs3
    cases o1
    ·go_wp2_with (first | (go_at_call_of 29 (Value.slice a.a1 a.n1 a.c1); refine (E1.out _ HV.out).mono ?_; rintro e w2 ⟨rfl, v2⟩; have V2 := hid (HV.out.trans v2); have W2 := hid (And.intro (SubAt.old v2 HW.out.1) (SubAt.old v2 HW.out.2.1)); obtain ⟨⟨_, _, _, _, t4', t5'⟩, _, _, _, _, u4', u5'⟩ := W2.out; clear v2))
     go_ret
     exact ⟨ret_b HR.out.symm, V2.out⟩
    ·cases o3
     ·go_wp2_with (first | (go_at_call_of 29 (Value.slice a.a1 a.n1 a.c1); refine (E1.out _ HV.out).mono ?_; rintro e w2 ⟨rfl, v2⟩; have V2 := hid (HV.out.trans v2); have W2 := hid (And.intro (SubAt.old v2 HW.out.1) (SubAt.old v2 HW.out.2.1)); obtain ⟨⟨_, _, _, _, t4', t5'⟩, _, _, _, _, u4', u5'⟩ := W2.out; clear v2) | (go_at_call_of 29 (Value.slice a.a3 a.n3 a.c3); refine (E3.out _ V2.out).mono ?_; rintro e w3 ⟨rfl, v3⟩; have V3 := hid (V2.out.trans v3); have W3 := hid (And.intro (SubAt.old v3 W2.out.1) (SubAt.old v3 W2.out.2)); obtain ⟨⟨_, _, _, _, t4'', _⟩, _, _, _, _, u4'', _⟩ := W3.out; clear v3))
      go_ret
      exact ⟨ret_b HR.out.symm, V3.out⟩
     ·go_wp2_with (first | (go_at_call_of 29 (Value.slice a.a1 a.n1 a.c1); refine (E1.out _ HV.out).mono ?_; rintro e w2 ⟨rfl, v2⟩; have V2 := hid (HV.out.trans v2); have W2 := hid (And.intro (SubAt.old v2 HW.out.1) (SubAt.old v2 HW.out.2.1)); obtain ⟨⟨_, _, _, _, t4', t5'⟩, _, _, _, _, u4', u5'⟩ := W2.out; clear v2) | (go_at_call_of 29 (Value.slice a.a3 a.n3 a.c3); refine (E3.out _ V2.out).mono ?_; rintro e w3 ⟨rfl, v3⟩; have V3 := hid (V2.out.trans v3); have W3 := hid (And.intro (SubAt.old v3 W2.out.1) (SubAt.old v3 W2.out.2)); obtain ⟨⟨_, _, _, _, t4'', _⟩, _, _, _, _, u4'', _⟩ := W3.out; clear v3) | (go_at_call 30; refine (E2.out _ V3.out).mono ?_; rintro e w4 ⟨rfl, v4⟩; have V4 := hid (V3.out.trans v4); clear v4))
      go_ret
      exact ⟨ret_b (by rw [HR.out]; rfl), V4.out⟩
   ·have ps3 : (a.s3 == b.s3) = false := by rw [beq_eq_false_iff_ne]; exact qs3
    rw [decide_eq_false qs3, Bool.false_and] at HR
    clear qs3
    go_wp2
    go_ret
    exact ⟨ret_b HR.out.symm, HV.out⟩
  ·have ps2 : (a.s2 == b.s2) = false := by rw [beq_eq_false_iff_ne]; exact qs2
   rw [decide_eq_false qs2, Bool.false_and] at HR
   clear qs2
   go_wp2
   go_ret
   exact ⟨ret_b HR.out.symm, HV.out⟩
 ·have ps1 : (a.s1 == b.s1) = false := by rw [beq_eq_false_iff_ne]; exact qs1
  rw [decide_eq_false qs1, Bool.false_and] at HR
  clear qs1
  go_wp2
  go_ret
  exact ⟨ret_b HR.out.symm, HV.out⟩
end Go.Proofs.YtajoodkapiifcaaGreat
