/- sub.Decode at all bytes; conditions: the bytes lie in memory. -/
import Derived.Test.YtajoodkapiifcaaGreatIc
import Derived.Test.YtajoodkapiifcaaGreatScN
namespace Go.Proofs.YtajoodkapiifcaaGreat
open Go.RowKit Go.Lib
set_option linter.unusedVariables false
set_option linter.unusedSimpArgs false
set_option maxRecDepth 20000
theorem RL.rd {w : World} {R b0 : Nat} {L : List Nat} (h : RL w R b0 L) : ∃ a c, Pk.Rd w R (.slice a L.length c) 0 true := by
 obtain ⟨v, h1, h2, _⟩ := h
 obtain ⟨a, c, e⟩ := Pk.ByRow.slice h2
 exact ⟨a, c, by rw [← e]; exact h1⟩
theorem RL.opened' (w : World) (a0 : Option Addr) (c : Nat) (L : List Nat) (h : Pk.ByRow w (.slice a0 L.length c) L.length (Pk.gd L)) (sb : Nat) (hsb : sb < w.heap.size) (hfar : ∀ a, a0 = some a → 0 < L.length → a.block ≠ sb) : ∃ b0, b0 ≠ w.heap.size + 1 ∧ b0 < (Pk.opened w (.slice a0 L.length c)).heap.size ∧ sb ≠ b0 ∧ RL (Pk.opened w (.slice a0 L.length c)) (w.heap.size + 1) b0 L := by
 have hos := Pk.opened_size w (.slice a0 L.length c)
 by_cases hz : 0 < L.length
 ·obtain ⟨b, off, cap, e, hcc, _⟩ := h.cells hz
  cases e
  have hb : b < w.heap.size := World.block_lt_of_cell? w _ (hcc 0 hz).2
  exact ⟨b, by omega, by omega, fun q => hfar _ rfl hz q.symm, _, Pk.opened_R w _, h.up (Pk.opened_up w _), .inr rfl⟩
 ·exact ⟨w.heap.size, by omega, by omega, by omega, _, Pk.opened_R w _, h.up (Pk.opened_up w _), .inl (by omega)⟩
attribute [local go_sem] run_bits run_frombits run_store_float eqF
set_option maxHeartbeats 1000000 in
theorem dec1_end (R b0 sb : Nat) (L : List Nat) (w : World) (HR0 : Calls Tryz.prog 24 #[.pointer (some ⟨R, 0, none⟩)] w fun e w' => Ends R w e w') :
    Calls Tryz.prog 23 #[.pointer (some ⟨R, 0, none⟩), .pointer (some ⟨sb, 0, none⟩)] w fun e w' => Pk.Chg [R, sb] w w' ∧ e = .panicked (Pk.ended R) ∧ Pk.RF w' R 30 := by
 have HR := hid HR0
 clear HR0
 unfold Ends Pk.ended at HR
 unfold Pk.ended
 go_enter Tryz.func23, Tryz.ntmps23
 go_wp2_with (first | (go_at_call 24; refine HR.out.mono ?_; rintro e y1 ⟨rfl, r1, c1⟩))
 exact ⟨rfl, c1.mono' (by simp), rfl, r1⟩
set_option maxHeartbeats 2000000 in
theorem dec1_some (R b0 sb : Nat) (r : Raw) (hr : r.Ok) (B : List Nat) (w : World) (h : RL w R b0 (r.enc B)) (hb : b0 ≠ R) (hR : R < w.heap.size) (hb0 : b0 < w.heap.size) (hsb : BX w sb 0 0 0 (.slice none 0 0) (.slice none 0 0) (.slice none 0 0)) (hne : sb ≠ R) (hne2 : sb ≠ b0) (hc : r.chk = 0) :
    Calls Tryz.prog 23 #[.pointer (some ⟨R, 0, none⟩), .pointer (some ⟨sb, 0, none⟩)] w fun e w' => Pk.Chg [R, sb] w w' ∧ e = .returned (.tuple #[]) ∧ RL w' R b0 B := by
 rw [r.enc_bytes hr] at h
 have hn1 := hr.n1
 have hn2 := hr.n2
 have hn3 := hr.n3
 have h1 := hr.f1
 have h2 := hr.f2
 have h3 := hr.f3
 have HR := hid (read_gen R b0 r.s1 r.s2 r.s3 _ _ _ _ _ _ ⟨hr.r1, hr.r2, hr.r3⟩ ⟨hn1, hn2, hn3⟩ h1 h3 h2 B w h hb hR hb0)
 unfold Raw.chk at hc
 generalize r.xs.length = n1 at *
 generalize (prs r.ys).length = n2 at *
 generalize r.zs.length = n3 at *
 generalize atN r.xs = x1 at *
 generalize atN r.zs = x3 at *
 generalize atS (prs r.ys) = f2 at *
 generalize r.s1 = s1 at *
 generalize r.s2 = s2 at *
 generalize r.s3 = s3 at *
 have HSZ := hid (show sb < w.heap.size from World.block_lt_of_cell? w _ hsb.1.1)
 have HCk := hid (show ∀ (W : World) (p1 p2 p3 : Option Addr) (q1 q2 q3 : Nat), FOwn w.heap.size W (.slice p1 n1 q1) (rl x1 n1) → SOwn w.heap.size W (.slice p2 n2 q2) (rl f2 n2) → FOwn w.heap.size W (.slice p3 n3 q3) (rl x3 n3) → Calls Tryz.prog 16 #[.agg #[.int .i64 s1, .int .i64 s2, .int .i64 s3, .slice p1 n1 q1, .slice p2 n2 q2, .slice p3 n3 q3]] W fun e w' => e = .returned (.int .i64 0) ∧ Old W w' from fun W p1 p2 p3 q1 q2 q3 o1 o2 o3 => by
  have q := check_any s1 s2 s3 p1 p2 p3 n1 n2 n3 q1 q2 q3 x1 x3 f2 (by omega) (by omega) (by omega) W (o1.row' (fun i hi => (h1 i hi).1) (by omega)) (o2.row' (fun i hi => ⟨(h2.1 i hi).1.1, (h2.1 i hi).2.1⟩) (by omega)) (o3.row' (fun i hi => (h3 i hi).1) (by omega))
  rw [hc] at q
  exact q)
 have HS := hid hsb
 clear h hsb h1 h2 h3 hc hr hn1 hn2 hn3
 go_enter Tryz.func23, Tryz.ntmps23
 go_upto_region 1 with (first | (go_at_call 24; refine HR.out.mono ?_; rintro e y1 ⟨p1, p2, p3, q1, q2, q3, rfl, o1, o2, o3, r1, c1⟩; have O1 := hid o1; have O2 := hid o2; have O3 := hid o3; have M1 := hid r1; have C1 := hid c1; have S1 := hid (HS.out.chg c1 (by simp; exact hne)); obtain ⟨⟨k0, k1, k2, k3, k4, k5⟩, kf⟩ := S1.out; have f0 := kf 0 (by omega); have f1 := kf 1 (by omega); have f2' := kf 2 (by omega); have f3 := kf 3 (by omega); have f4 := kf 4 (by omega); have f5 := kf 5 (by omega); clear o1 o2 o3 r1 c1 kf))
 generalize hw2 : (((((y1.setCell ⟨sb, 0, none⟩ (.int .i64 s1)).setCell ⟨sb, 1, none⟩ (.int .i64 s2)).setCell ⟨sb, 2, none⟩ (.int .i64 s3)).setCell ⟨sb, 3, none⟩ (.slice p1 n1 q1)).setCell ⟨sb, 4, none⟩ (.slice p2 n2 q2)).setCell ⟨sb, 5, none⟩ (.slice p3 n3 q3) = w2 at *
 have c2 : Pk.Chg [sb] y1 w2 := by rw [← hw2]; exact put_chg _ _ _ _ _ _ _ _
 have S2 := hid (show BX w2 sb s1 s2 s3 (.slice p1 n1 q1) (.slice p2 n2 q2) (.slice p3 n3 q3) from by rw [← hw2]; exact S1.out.put)
 have M2 := hid (M1.out.chg c2 (by simp; exact fun q => hne q.symm) (by simp; exact fun q => hne2 q.symm))
 have hSS : ∀ k ∈ [sb], k < w.heap.size := fun k hk => by simp at hk; subst hk; exact HSZ.out
 have P1 := hid (O1.out.chg c2 hSS)
 have P2 := hid (O2.out.chg c2 hSS)
 have P3 := hid (O3.out.chg c2 hSS)
 have C2 := hid (show Pk.Chg [R, sb] w w2 from (C1.out.mono' (by simp)).trans (c2.mono' (by simp)))
 have HC2 := hid (HCk.out w2 p1 p2 p3 q1 q2 q3 P1.out P2.out P3.out)
 clear hw2 c2 hSS k0 k1 k2 k3 k4 k5 f0 f1 f2' f3 f4 f5 S1 M1 O1 O2 O3 C1 HR HCk HS
 obtain ⟨⟨k0, k1, k2, k3, k4, k5⟩, kf⟩ := S2.out
 clear kf
 go_wp2_with (first | (go_at_call 16; refine HC2.out.mono ?_; rintro e y3 ⟨rfl, u3⟩; have U3 := hid u3; clear u3))
 have c3 : ∀ S, Pk.Chg S w2 y3 := fun S => Pk.Chg.old U3.out
 exact bodyPost_end (v := .tuple #[]) (by simp [results, Tryz.results23, go_sem]) rfl ⟨C2.out.trans (c3 _), rfl, M2.out.chg (c3 []) (by simp) (by simp)⟩
set_option maxHeartbeats 2000000 in
theorem dec1_bad (R b0 sb : Nat) (r : Raw) (hr : r.Ok) (B : List Nat) (w : World) (h : RL w R b0 (r.enc B)) (hb : b0 ≠ R) (hR : R < w.heap.size) (hb0 : b0 < w.heap.size) (hsb : BX w sb 0 0 0 (.slice none 0 0) (.slice none 0 0) (.slice none 0 0)) (hne : sb ≠ R) (hne2 : sb ≠ b0) (hc : r.chk ≠ 0) :
    Calls Tryz.prog 23 #[.pointer (some ⟨R, 0, none⟩), .pointer (some ⟨sb, 0, none⟩)] w fun e w' => Pk.Chg [R, sb] w w' ∧ e = .panicked (Pk.ended R) ∧ Pk.RF w' R 30 := by
 rw [r.enc_bytes hr] at h
 have hn1 := hr.n1
 have hn2 := hr.n2
 have hn3 := hr.n3
 have h1 := hr.f1
 have h2 := hr.f2
 have h3 := hr.f3
 have HR := hid (read_gen R b0 r.s1 r.s2 r.s3 _ _ _ _ _ _ ⟨hr.r1, hr.r2, hr.r3⟩ ⟨hn1, hn2, hn3⟩ h1 h3 h2 B w h hb hR hb0)
 unfold Raw.chk at hc
 generalize r.xs.length = n1 at *
 generalize (prs r.ys).length = n2 at *
 generalize r.zs.length = n3 at *
 generalize atN r.xs = x1 at *
 generalize atN r.zs = x3 at *
 generalize atS (prs r.ys) = f2 at *
 generalize r.s1 = s1 at *
 generalize r.s2 = s2 at *
 generalize r.s3 = s3 at *
 have hc0 : chkV s1 s2 s3 n1 n2 n3 x1 x3 f2 ≠ 0 := hc
 clear hc
 generalize hck : chkV s1 s2 s3 n1 n2 n3 x1 x3 f2 = ck at *
 have HSZ := hid (show sb < w.heap.size from World.block_lt_of_cell? w _ hsb.1.1)
 have HCk := hid (show ∀ (W : World) (p1 p2 p3 : Option Addr) (q1 q2 q3 : Nat), FOwn w.heap.size W (.slice p1 n1 q1) (rl x1 n1) → SOwn w.heap.size W (.slice p2 n2 q2) (rl f2 n2) → FOwn w.heap.size W (.slice p3 n3 q3) (rl x3 n3) → Calls Tryz.prog 16 #[.agg #[.int .i64 s1, .int .i64 s2, .int .i64 s3, .slice p1 n1 q1, .slice p2 n2 q2, .slice p3 n3 q3]] W fun e w' => e = .returned (.int .i64 ck) ∧ Old W w' from fun W p1 p2 p3 q1 q2 q3 o1 o2 o3 => by
  have q := check_any s1 s2 s3 p1 p2 p3 n1 n2 n3 q1 q2 q3 x1 x3 f2 (by omega) (by omega) (by omega) W (o1.row' (fun i hi => (h1 i hi).1) (by omega)) (o2.row' (fun i hi => ⟨(h2.1 i hi).1.1, (h2.1 i hi).2.1⟩) (by omega)) (o3.row' (fun i hi => (h3 i hi).1) (by omega))
  rw [hck] at q
  exact q)
 have HS := hid hsb
 unfold Pk.ended
 clear h hsb h1 h2 h3 hr hn1 hn2 hn3 hck
 go_enter Tryz.func23, Tryz.ntmps23
 go_upto_region 1 with (first | (go_at_call 24; refine HR.out.mono ?_; rintro e y1 ⟨p1, p2, p3, q1, q2, q3, rfl, o1, o2, o3, r1, c1⟩; have O1 := hid o1; have O2 := hid o2; have O3 := hid o3; have M1 := hid r1; have C1 := hid c1; have S1 := hid (HS.out.chg c1 (by simp; exact hne)); obtain ⟨⟨k0, k1, k2, k3, k4, k5⟩, kf⟩ := S1.out; have f0 := kf 0 (by omega); have f1 := kf 1 (by omega); have f2' := kf 2 (by omega); have f3 := kf 3 (by omega); have f4 := kf 4 (by omega); have f5 := kf 5 (by omega); clear o1 o2 o3 r1 c1 kf))
 generalize hw2 : (((((y1.setCell ⟨sb, 0, none⟩ (.int .i64 s1)).setCell ⟨sb, 1, none⟩ (.int .i64 s2)).setCell ⟨sb, 2, none⟩ (.int .i64 s3)).setCell ⟨sb, 3, none⟩ (.slice p1 n1 q1)).setCell ⟨sb, 4, none⟩ (.slice p2 n2 q2)).setCell ⟨sb, 5, none⟩ (.slice p3 n3 q3) = w2 at *
 have c2 : Pk.Chg [sb] y1 w2 := by rw [← hw2]; exact put_chg _ _ _ _ _ _ _ _
 have S2 := hid (show BX w2 sb s1 s2 s3 (.slice p1 n1 q1) (.slice p2 n2 q2) (.slice p3 n3 q3) from by rw [← hw2]; exact S1.out.put)
 have M2 := hid (M1.out.chg c2 (by simp; exact fun q => hne q.symm) (by simp; exact fun q => hne2 q.symm))
 have hSS : ∀ k ∈ [sb], k < w.heap.size := fun k hk => by simp at hk; subst hk; exact HSZ.out
 have P1 := hid (O1.out.chg c2 hSS)
 have P2 := hid (O2.out.chg c2 hSS)
 have P3 := hid (O3.out.chg c2 hSS)
 have C2 := hid (show Pk.Chg [R, sb] w w2 from (C1.out.mono' (by simp)).trans (c2.mono' (by simp)))
 have HC2 := hid (HCk.out w2 p1 p2 p3 q1 q2 q3 P1.out P2.out P3.out)
 clear hw2 c2 hSS k0 k1 k2 k3 k4 k5 f0 f1 f2' f3 f4 f5 S1 M1 O1 O2 O3 C1 HR HCk HS
 obtain ⟨⟨k0, k1, k2, k3, k4, k5⟩, kf⟩ := S2.out
 clear kf
 have HNZ := hid hc0
 have tz : (ck != 0) = true := by rw [bne_iff_ne]; exact hc0
 have tz2 : (ck == 0) = false := by rw [beq_eq_false_iff_ne]; exact hc0
 clear hc0
 go_upto_region 2 with (first | (go_at_call 16; refine HC2.out.mono ?_; rintro e y3 ⟨rfl, u3⟩; have U3 := hid u3; clear u3))
 have c3 : ∀ S, Pk.Chg S w2 y3 := fun S => Pk.Chg.old U3.out
 have M3 := M2.out.chg (c3 []) (by simp) (by simp)
 obtain ⟨ra, rc, rr⟩ := M3.rd
 have HF := hid (Pk.fail_any R _ 30 y3 rr 30 (by simp))
 have HE := hid (show Pk.RF ((y3.setCell ⟨R, 1, none⟩ (.int .i64 30)).setCell ⟨R, 0, none⟩ (.slice none 0 0)) R 30 from (rr.s1 30).s0 _)
 have HCh := hid (show Pk.Chg [R, sb] w ((y3.setCell ⟨R, 1, none⟩ (.int .i64 30)).setCell ⟨R, 0, none⟩ (.slice none 0 0)) from ((C2.out.trans (c3 _)).trans ((Pk.Chg.set' _ ⟨R, 1, none⟩ _).mono' (by simp))).trans ((Pk.Chg.set' _ ⟨R, 0, none⟩ _).mono' (by simp)))
 clear c3 M3 rr k0 k1 k2 k3 k4 k5
 go_wp2_with (first | (go_at_call 25; refine HF.out.mono ?_; rintro e y4 ⟨rfl, rfl⟩))
 exact ⟨rfl, HCh.out, rfl, HE.out⟩
theorem decode_read_no (L : List Nat) (hL : LB L) (hno : ∀ r : Raw, r.Ok → r.chk = 0 → L ≠ r.enc []) (w : World) (a0 : Option Addr) (c sb : Nat) (hB : Pk.ByRow w (.slice a0 L.length c) L.length (Pk.gd L)) (hfar : ∀ a, a0 = some a → 0 < L.length → a.block ≠ sb) (hsb : BX w sb 0 0 0 (.slice none 0 0) (.slice none 0 0) (.slice none 0 0)) :
    Calls Tryz.prog 22 #[.slice a0 L.length c, .func (.func 23) #[] #[.pointer (some ⟨sb, 0, none⟩)]] w fun e w' => e = .returned (.int .i64 30) ∧ Pk.Chg [sb] w w' := by
 have hz : sb < w.heap.size := World.block_lt_of_cell? w _ hsb.1.1
 have hos := Pk.opened_size w (.slice a0 L.length c)
 obtain ⟨b0, g1, g2, g3, hR⟩ := RL.opened' w a0 c L hB sb hz hfar
 have hbx : BX (Pk.opened w (.slice a0 L.length c)) sb 0 0 0 (.slice none 0 0) (.slice none 0 0) (.slice none 0 0) := hsb.chg (S := []) (Pk.Chg.old (Pk.opened_up w _)) (by simp)
 have hd : Calls Tryz.prog 23 #[.pointer (some ⟨w.heap.size + 1, 0, none⟩), .pointer (some ⟨sb, 0, none⟩)] (Pk.opened w (.slice a0 L.length c)) fun e w' => Pk.Chg [w.heap.size + 1, sb] (Pk.opened w (.slice a0 L.length c)) w' ∧ ((e = .returned (.tuple #[]) ∧ ∃ n, (∃ a cap, Pk.Rd w' (w.heap.size + 1) (.slice a n cap) 0 true) ∧ 0 < n) ∨ (e = .panicked (Pk.ended (w.heap.size + 1)) ∧ ∃ cd, cd ≠ 0 ∧ Pk.RF w' (w.heap.size + 1) cd ∧ cd = 30)) := by
  rcases read_all (w.heap.size + 1) b0 L hL _ hR g1 (by omega) g2 with ⟨r, B, _, hr, hE⟩ | ⟨_, hend⟩
  ·have hR2 : RL (Pk.opened w (.slice a0 L.length c)) (w.heap.size + 1) b0 (r.enc B) := by rw [← hE]; exact hR
   by_cases hc : r.chk = 0
   ·refine (dec1_some (w.heap.size + 1) b0 sb r hr B _ hR2 g1 (by omega) g2 hbx (by omega) g3 hc).mono ?_
    rintro e w' ⟨c1, rfl, r1⟩
    obtain ⟨ra, rc, rr⟩ := r1.rd
    refine ⟨c1, .inl ⟨rfl, _, ⟨ra, rc, rr⟩, ?_⟩⟩
    cases B with
    | nil => exact absurd hE (hno r hr hc)
    | cons b t => simp
   ·refine (dec1_bad (w.heap.size + 1) b0 sb r hr B _ hR2 g1 (by omega) g2 hbx (by omega) g3 hc).mono ?_
    rintro e w' ⟨c1, rfl, r1⟩
    exact ⟨c1, .inr ⟨rfl, 30, by omega, r1, rfl⟩⟩
  ·refine (dec1_end (w.heap.size + 1) b0 sb L _ hend).mono ?_
   rintro e w' ⟨c1, rfl, r1⟩
   exact ⟨c1, .inr ⟨rfl, 30, by omega, r1, rfl⟩⟩
 refine (Pk.read_of2 23 #[.pointer (some ⟨sb, 0, none⟩)] ent_dec1 w a0 L.length c [sb] (by simp; exact hz) (fun W n => 0 < n) (fun W cd => cd = 30) hd).mono ?_
 rintro e w' ⟨c1, W2, c2, ⟨k, hk, rfl⟩ | ⟨cd, rfl, rfl⟩⟩
 ·rw [if_pos hk]; exact ⟨rfl, c1⟩
 ·exact ⟨rfl, c1⟩
def NoPost (w : World) (e : Ending) (w' : World) : Prop := e = .returned (.tuple #[.agg #[.int .i64 0, .int .i64 0, .int .i64 0, .slice none 0 0, .slice none 0 0, .slice none 0 0], .int .i64 30]) ∧ Old w w'
set_option maxHeartbeats 2000000 in
theorem decode_no (L : List Nat) (hL : LB L) (hno : ∀ r : Raw, r.Ok → r.chk = 0 → L ≠ r.enc []) (w : World) (v : Value) (hB : Pk.ByRow w v L.length (Pk.gd L)) :
    Calls Tryz.prog 11 #[v] w fun e w' => NoPost w e w' := by
 obtain ⟨a0, cap, rfl⟩ := hB.slice
 have HFar := hid (show ∀ a, a0 = some a → 0 < L.length → a.block < w.heap.size from fun a ha hl => by
  obtain ⟨b, off, cp, e, hcc, _⟩ := hB.cells hl
  have hb : b < w.heap.size := World.block_lt_of_cell? w _ (hcc 0 hl).2
  cases e; cases ha; exact hb)
 have HRd := hid (fun (W : World) (sb : Nat) (q : Pk.ByRow W (.slice a0 L.length cap) L.length (Pk.gd L)) (hf : ∀ a, a0 = some a → 0 < L.length → a.block ≠ sb) (hx : BX W sb 0 0 0 (.slice none 0 0) (.slice none 0 0) (.slice none 0 0)) => decode_read_no L hL hno W a0 cap sb q hf hx)
 have HB := hid hB
 clear hB hL hno
 generalize hN : L.length = N at *
 clear hN
 unfold NoPost
 have hmf : ∀ (fn : Fn) (first cap : Array Value) (w : World), (Instr.makeFunc fn first cap).run Tryz.prog w = .ok (.func fn first cap) w := fun _ _ _ _ => rfl
 go_enter Tryz.func11, Tryz.ntmps11
 go_upto_region 1 with fail
 generalize hw1 : w.alloc (.cells #[.int .i64 0, .int .i64 0, .int .i64 0, .slice none 0 0, .slice none 0 0, .slice none 0 0] 28) = w1 at *
 generalize hrb : w.heap.size = rb at *
 have HB1 := hid (BX.new w w1 hw1 rb hrb)
 have HRB := hid hrb
 clear hw1 hrb
 go_upto_region 2 with fail
 generalize hw2 : w1.alloc (.cells #[.int .i64 0, .int .i64 0, .int .i64 0, .slice none 0 0, .slice none 0 0, .slice none 0 0] 28) = w2 at *
 generalize hsb : w1.heap.size = sb at *
 obtain ⟨hb2, hu2, hz2⟩ := BX.new w1 w2 hw2 sb hsb
 obtain ⟨hb1, hu1, hz1⟩ := HB1.out
 have HZ := hid (show sb = rb + 1 ∧ w.heap.size = rb ∧ w2.heap.size = rb + 2 from ⟨by omega, HRB.out, by omega⟩)
 have U2 := hid (hu1.trans hu2)
 have BR := hid (hb1.chg (S := []) (Pk.Chg.old hu2) (by simp))
 have HR2 := hid (HRd.out w2 sb (HB.out.up U2.out) (fun a ha hl => by have := HFar.out a ha hl; have := HZ.out; omega) hb2)
 clear hw2 hsb hb1 hu1 hz1 hb2 hu2 hz2 HB1 HRB HRd HB
 go_upto_region 3 with (first | (go_at_call 22; refine HR2.out.mono ?_; rintro e w3 ⟨rfl, c3⟩; have C3 := hid c3; clear c3))
 have T3 := hid (BR.out.chg C3.out (by simp; have := HZ.out; omega))
 have U3 := hid (show Old w w3 from Pk.Chg.toOld U2.out C3.out (by simp; have := HZ.out; omega))
 obtain ⟨⟨t0, t1, t2, t3, t4, t5⟩, tf⟩ := T3.out
 have e0 := tf 0 (by omega)
 have e1 := tf 1 (by omega)
 have e2 := tf 2 (by omega)
 have e3 := tf 3 (by omega)
 have e4 := tf 4 (by omega)
 have e5 := tf 5 (by omega)
 clear tf C3 BR U2 HR2 hmf
 go_wp2
 have cF := put_chg w3 rb (.int .i64 0) (.int .i64 0) (.int .i64 0) (.slice none 0 0) (.slice none 0 0) (.slice none 0 0)
 have hzz := HZ.out
 refine bodyPost_ret (v := .tuple #[.agg #[.int .i64 0, .int .i64 0, .int .i64 0, .slice none 0 0, .slice none 0 0, .slice none 0 0], .int .i64 30]) (by simp [results, Tryz.results11, go_sem, *]) rfl ⟨rfl, Pk.Chg.toOld U3.out cF (by simp; omega)⟩
theorem decode_all (L : List Nat) (hL : LB L) (w : World) (v : Value) (hB : Pk.ByRow w v L.length (Pk.gd L)) :
    (∃ r : Raw, r.Ok ∧ r.chk = 0 ∧ L = r.enc [] ∧ Calls Tryz.prog 11 #[v] w fun e w' => DecPost r.s1 r.s2 r.s3 r.xs.length (prs r.ys).length r.zs.length (atN r.xs) (atN r.zs) (atS (prs r.ys)) w e w') ∨ (∀ r : Raw, r.Ok → r.chk = 0 → L ≠ r.enc []) ∧ Calls Tryz.prog 11 #[v] w fun e w' => NoPost w e w' := by
 by_cases h : ∃ r : Raw, r.Ok ∧ r.chk = 0 ∧ L = r.enc []
 ·obtain ⟨r, hr, hc, hE⟩ := h
  refine .inl ⟨r, hr, hc, hE, ?_⟩
  have hE2 := hE
  rw [r.enc_bytes hr] at hE2
  rw [hE2] at hB
  exact decode_ok r.s1 r.s2 r.s3 _ _ _ _ _ _ (fun i hi => (hr.f1 i hi).1) (fun i hi => ⟨(hr.f2.1 i hi).1.1, (hr.f2.1 i hi).2.1⟩) (fun i hi => (hr.f3 i hi).1) hc w v hB
 ·have h2 : ∀ r : Raw, r.Ok → r.chk = 0 → L ≠ r.enc [] := fun r hr hc hE => h ⟨r, hr, hc, hE⟩
  exact .inr ⟨h2, decode_no L hL h2 w v hB⟩
end Go.Proofs.YtajoodkapiifcaaGreat
