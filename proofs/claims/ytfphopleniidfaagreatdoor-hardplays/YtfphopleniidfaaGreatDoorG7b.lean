/- hard.read at all bytes; conditions: the bytes lie in memory, the table is laid. -/
import Derived.Test.YtfphopleniidfaaGreatDoorG7a
namespace Go.Proofs.YtfphopleniidfaaGreatDoor
open Go.RowKit Go.Lib
set_option linter.unusedVariables false
set_option linter.unusedSimpArgs false
set_option maxRecDepth 20000
def R1Post (R b0 pb : Nat) (L : List Nat) (w : World) (e : Ending) (w' : World) : Prop := Pk.Chg [R, pb] w w' ∧ ((∃ t v C, tkP L = some (t, v, C) ∧ e = .returned (.tuple #[]) ∧ RL w' R b0 C ∧ w'.heap[pb]? = some (.cells #[.int .i64 t, .int .i64 v] 62 (0, 0))) ∨ (tkP L = none ∧ e = .panicked (Pk.ended R) ∧ Pk.RF w' R 30))
theorem tkN_no {L : List Nat} (h : tkN L = none) : Pk.lnK (gd L) L.length = 0 := by
  unfold tkN at h
  split at h
  · assumption
  · cases h
theorem tkN_yes {L B : List Nat} {t : Int} (h : tkN L = some (t, B)) : Pk.lnK (gd L) L.length ≠ 0 ∧ t = Pk.lnV (gd L) L.length ∧ B = L.drop (Pk.lnK (gd L) L.length) := by
  unfold tkN at h
  split at h
  · cases h
  · rename_i q; cases h; exact ⟨q, rfl, rfl⟩
set_option maxHeartbeats 2000000 in
set_option maxRecDepth 20000 in
theorem read1_any (R b0 pb : Nat) (L : List Nat) (w : World) (h : RL w R b0 L) (hb : b0 ≠ R) (hp : w.heap[pb]? = some (.cells #[.int .i64 0, .int .i64 0] 62 (0, 0))) (hpR : pb ≠ R) (hpb : pb ≠ b0) :
    Calls Tryz.prog 44 #[.pointer (some ⟨R, 0, none⟩), .pointer (some ⟨pb, 0, none⟩)] w fun e w' => R1Post R b0 pb L w e w' := by
  have HP := hid hp
  have HL := hid h
  clear hp h
  cases h1 : tkN L with
  | none =>
    have HN := hid (show tkP L = none from by unfold tkP; rw [h1])
    have HM := hid (Pk.rnum_no R b0 L.length (gd L) w HL.out (tkN_no h1))
    unfold Pk.ended at HM
    clear h1
    go_enter Tryz.func44, Tryz.ntmps44
    go_wp2_with (go_at_call 45; refine HM.out.mono ?_; rintro e w1 ⟨rfl, r1, c1⟩)
    exact ⟨rfl, c1.mono (by simp), .inr ⟨HN.out, rfl, r1⟩⟩
  | some p =>
    obtain ⟨t, B⟩ := p
    obtain ⟨hk, ht, hB⟩ := tkN_yes h1
    have HM := hid (show Calls Tryz.prog 45 #[.pointer (some ⟨R, 0, none⟩)] w fun e w' => e = .returned (.int .i64 t) ∧ RL w' R b0 B ∧ Pk.Chg [R] w w' from (Pk.rnum_ok R b0 L.length (gd L) w HL.out hb hk).mono fun e w' q => ⟨by rw [ht]; exact q.1, by rw [hB]; exact RL.drop q.2.1, q.2.2⟩)
    have HQ := hid (show ∀ W, RL W R b0 B → ∀ (u : Int) (C : List Nat), tkN B = some (u, C) → 0 ≤ u → u ≤ 7 → Calls Tryz.prog 46 #[.pointer (some ⟨R, 0, none⟩), .int .i64 7] W fun e w' => e = .returned (.int .i64 u) ∧ RL w' R b0 C ∧ Pk.Chg [R] W w' from fun W r u C e u0 u7 => by
      obtain ⟨k2, e2, e3⟩ := tkN_yes e
      refine (Pk.rcount_ok R b0 B.length (gd B) 7 W r hb k2 (by rw [← e2]; exact u0) (by rw [← e2]; exact u7) (by omega)).mono fun e w' q => ⟨by rw [e2]; exact q.1, by rw [e3]; exact RL.drop q.2.1, q.2.2⟩)
    have HQn := hid (show ∀ W, RL W R b0 B → (tkN B = none ∨ ∃ u C, tkN B = some (u, C) ∧ ¬ (0 ≤ u ∧ u ≤ 7)) → Calls Tryz.prog 46 #[.pointer (some ⟨R, 0, none⟩), .int .i64 7] W fun e w' => e = .panicked (Pk.ended R) ∧ Pk.RF w' R 30 ∧ Pk.Chg [R] W w' from fun W r e => by
      refine Pk.rcount_no R b0 B.length (gd B) 7 W r hb ?_
      rcases e with e | ⟨u, C, e, hu⟩
      · exact .inl (tkN_no e)
      · obtain ⟨k2, e2, e3⟩ := tkN_yes e
        rw [← e2]
        right
        omega)
    have HSt := hid (show ∀ w1, Pk.Chg [R] w w1 → RL w1 R b0 B → (w1.cell? ⟨pb, 0, none⟩ = some (.int .i64 0) ∧ w1.frozen? ⟨pb, 0, none⟩ = false) ∧ RL (w1.setCell ⟨pb, 0, none⟩ (.int .i64 t)) R b0 B ∧ (w1.setCell ⟨pb, 0, none⟩ (.int .i64 t)).heap[pb]? = some (.cells #[.int .i64 t, .int .i64 0] 62 (0, 0)) ∧ Pk.Chg [R, pb] w (w1.setCell ⟨pb, 0, none⟩ (.int .i64 t)) from fun w1 c r => by
      have hb1 := c.at HP.out (by simpa using hpR)
      obtain ⟨q0, -, f0, -⟩ := box2 hb1
      exact ⟨⟨q0, f0⟩, r.chg (Pk.Chg.set' w1 ⟨pb, 0, none⟩ _) (by simpa using fun e => hpR e.symm) (by simpa using fun e => hpb e.symm), Go.Joins.block_setCell hb1 _ (i := 0), (c.mono (by simp)).trans ((Pk.Chg.set' w1 ⟨pb, 0, none⟩ _).mono (by simp))⟩)
    have HNx := hid (show tkP L = match tkN B with | none => none | some (v, C) => if 0 ≤ v ∧ v ≤ 7 then some (t, v, C) else none from by unfold tkP; rw [h1]; simp only; cases tkN B <;> rfl)
    clear h1 hk ht hB
    by_cases hgood : ∃ u C, tkN B = some (u, C) ∧ 0 ≤ u ∧ u ≤ 7
    · obtain ⟨u, C, e2, u0, u7⟩ := hgood
      have HN := hid (show tkP L = some (t, u, C) from by rw [HNx.out, e2]; simp only; rw [if_pos ⟨u0, u7⟩])
      have HQ2 := hid (fun W r => HQ.out W r u C e2 u0 u7)
      clear e2 u0 u7 HQ HQn HNx
      go_enter Tryz.func44, Tryz.ntmps44
      go_upto_region 1 with (go_at_call 45; refine HM.out.mono ?_; rintro e w1 ⟨rfl, r1, c1⟩; obtain ⟨⟨q0, qf⟩, s2, s3, s4⟩ := HSt.out w1 c1 r1; have S2 := hid s2; have S3 := hid s3; have S4 := hid s4; clear s2 s3 s4 r1 c1)
      clear q0 qf
      generalize w1.setCell ⟨pb, 0, none⟩ (.int .i64 t) = w2 at *
      obtain ⟨x0, x1, xf0, xf1⟩ := box2 S3.out
      go_wp2_with (go_at_call 46; refine (HQ2.out _ S2.out).mono ?_; rintro e w3 ⟨rfl, r3, c3⟩; have R3 := hid r3; have C3 := hid c3; have B3 := hid (c3.at S3.out (by simpa using hpR)); obtain ⟨y0, y1, yf0, yf1⟩ := box2 B3.out; clear r3 c3)
      (try simp only [Exit.inBlock, Exit.then])
      refine bodyPost_end (v := .tuple #[]) (by simp [results, Tryz.results44, go_sem]) rfl ⟨(S4.out.trans (C3.out.mono (by simp))).trans ((Pk.Chg.set' w3 ⟨pb, 1, none⟩ _).mono (by simp)), .inl ⟨t, u, C, HN.out, rfl, R3.out.chg (Pk.Chg.set' w3 ⟨pb, 1, none⟩ _) (by simpa using fun e => hpR e.symm) (by simpa using fun e => hpb e.symm), Go.Joins.block_setCell B3.out _ (i := 1)⟩⟩
    · have HN := hid (show tkP L = none from by
        rw [HNx.out]
        cases e : tkN B with
        | none => rfl
        | some q =>
          obtain ⟨u, C⟩ := q
          simp only
          rw [if_neg (fun z => hgood ⟨u, C, e, z.1, z.2⟩)])
      have HQ2 := hid (fun W r => HQn.out W r (by
        cases e : tkN B with
        | none => exact .inl rfl
        | some q => obtain ⟨u, C⟩ := q; exact .inr ⟨u, C, rfl, fun z => hgood ⟨u, C, e, z.1, z.2⟩⟩))
      unfold Pk.ended at HQ2
      clear hgood HQ HQn HNx
      go_enter Tryz.func44, Tryz.ntmps44
      go_upto_region 1 with (go_at_call 45; refine HM.out.mono ?_; rintro e w1 ⟨rfl, r1, c1⟩; obtain ⟨⟨q0, qf⟩, s2, s3, s4⟩ := HSt.out w1 c1 r1; have S2 := hid s2; have S3 := hid s3; have S4 := hid s4; clear s2 s3 s4 r1 c1)
      clear q0 qf
      generalize w1.setCell ⟨pb, 0, none⟩ (.int .i64 t) = w2 at *
      go_wp2_with (go_at_call 46; refine (HQ2.out _ S2.out).mono ?_; rintro e w3 ⟨rfl, r3, c3⟩)
      exact ⟨rfl, S4.out.trans (c3.mono (by simp)), .inr ⟨HN.out, rfl, r3⟩⟩
def ldP (L : List Nat) : Option (Int × Int) := match tkP L with | some (t, v, []) => some (t, v) | _ => none
set_option maxHeartbeats 1000000 in
set_option maxRecDepth 20000 in
theorem readRead (L : List Nat) (w : World) (a0 : Option Addr) (c0 pb : Nat) (hB : Rw w (.slice a0 L.length c0) L) (hp : w.heap[pb]? = some (.cells #[.int .i64 0, .int .i64 0] 62 (0, 0))) (hf : ∀ a, a0 = some a → 0 < L.length → a.block ≠ pb) :
    Calls Tryz.prog 43 #[.slice a0 L.length c0, .func (.func 44) #[] #[.pointer (some ⟨pb, 0, none⟩)]] w fun e w' => Pk.Chg [pb] w w' ∧ ((∃ t v, ldP L = some (t, v) ∧ e = .returned (.int .i64 0) ∧ w'.heap[pb]? = some (.cells #[.int .i64 t, .int .i64 v] 62 (0, 0))) ∨ (ldP L = none ∧ e = .returned (.int .i64 30))) := by
  have hz : pb < w.heap.size := heap_lt hp
  have hos := Pk.opened_size w (.slice a0 L.length c0)
  obtain ⟨b0, hL, hb1, hb2, hb3⟩ : ∃ b0, RL (Pk.opened w (.slice a0 L.length c0)) (w.heap.size + 1) b0 L ∧ b0 ≠ w.heap.size + 1 ∧ b0 < w.heap.size + 3 ∧ pb ≠ b0 := by
    by_cases hl : 0 < L.length
    · obtain ⟨b, off, cp, e, hcc, _⟩ := Pk.ByRow.cells hB hl
      have hb : b < w.heap.size := World.block_lt_of_cell? w _ (hcc 0 hl).2
      cases e
      exact ⟨b, ⟨_, Pk.opened_R w _, Pk.ByRow.up hB (Pk.opened_up w _), .inr rfl⟩, by omega, by omega, fun e => hf _ rfl hl e.symm⟩
    · exact ⟨w.heap.size, ⟨_, Pk.opened_R w _, Pk.ByRow.up hB (Pk.opened_up w _), .inl (by omega)⟩, by omega, by omega, by omega⟩
  have hpp : (Pk.opened w (.slice a0 L.length c0)).heap[pb]? = some (.cells #[.int .i64 0, .int .i64 0] 62 (0, 0)) := Old.block (Pk.opened_up w _) hp
  have hd := read1_any (w.heap.size + 1) b0 pb L _ hL hb1 hpp (by omega) hb3
  refine (Pk.read_of2 44 #[.pointer (some ⟨pb, 0, none⟩)] (enters_of Tryz.func44 (by kernel_rfl) rfl) w a0 L.length c0 [pb] (by simp; exact hz) (fun W k => ∃ t v C, k = C.length ∧ tkP L = some (t, v, C) ∧ W.heap[pb]? = some (.cells #[.int .i64 t, .int .i64 v] 62 (0, 0))) (fun _ cd => cd = 30 ∧ tkP L = none) (hd.mono ?_)).mono ?_
  · rintro e w' ⟨c1, q⟩
    refine ⟨c1, ?_⟩
    rcases q with ⟨t, v, C, e1, rfl, r1, b1⟩ | ⟨e1, rfl, r1⟩
    · obtain ⟨vv, hrd, hby, _⟩ := r1
      obtain ⟨pa, pc, e⟩ := Rw.len (L := C) hby
      exact .inl ⟨rfl, C.length, ⟨pa, pc, by rw [← e]; exact hrd⟩, t, v, C, rfl, e1, b1⟩
    · exact .inr ⟨rfl, 30, by decide, r1, rfl, e1⟩
  · rintro e w' ⟨c1, W2, c2, ⟨k, ⟨t, v, C, rfl, e1, b1⟩, rfl⟩ | ⟨cd, ⟨rfl, e1⟩, rfl⟩⟩
    · refine ⟨c1, ?_⟩
      cases C with
      | nil => exact .inl ⟨t, v, by unfold ldP; rw [e1], rfl, c2.at b1 (by simp; omega)⟩
      | cons x r => exact .inr ⟨by unfold ldP; rw [e1], by simp⟩
    · exact ⟨c1, .inr ⟨by unfold ldP; rw [e1], rfl⟩⟩
set_option maxHeartbeats 4000000 in
set_option maxRecDepth 20000 in
theorem read_any (L : List Nat) (a0 : Option Addr) (c0 : Nat) (w : World) (ht : Pk.Tab w) (hB : Rw w (.slice a0 L.length c0) L) (hl : L.length ≤ 140737488355328) : Calls Tryz.prog 20 #[.slice a0 L.length c0] w fun e w' => e = .returned (.agg #[.int .i64 (rdP L).1, .int .i64 (rdP L).2]) ∧ Old w w' := by
  have HUn := hid (fun (W : World) (u : Old w W) => Pk.unframe_any (.slice a0 L.length c0) L.length (gd L) W (ht.up u) (hB.old u))
  have HLd := hid (show Pk.unfE L.length (gd L) = 0 → 8 + Pk.w32 (gd L) = L.length → rdP L = match ldP (L.drop 8) with | some (t, v) => if rgt t v = true then (t, v) else (0, 0) | none => (0, 0) from fun h1 h2 => by
    unfold rdP ldP
    rw [if_pos ⟨h1, h2⟩]
    cases tkP (L.drop 8) with
    | none => rfl
    | some q =>
      obtain ⟨t, v, C⟩ := q
      cases C <;> rfl)
  have HNo := hid (show ¬ (Pk.unfE L.length (gd L) = 0 ∧ 8 + Pk.w32 (gd L) = L.length) → rdP L = (0, 0) from fun h => by unfold rdP; rw [if_neg h])
  have HM := hid (show Pk.unfE L.length (gd L) = 0 → Pk.unfM L.length (gd L) = 8 + Pk.w32 (gd L) ∧ Pk.unfL L.length (gd L) = Pk.w32 (gd L) from fun h => by unfold Pk.unfM Pk.unfL; rw [if_pos h, if_pos h]; exact ⟨rfl, rfl⟩)
  have HOk := hid (show ∀ (W : World) (q : Value), 8 + Pk.w32 (gd L) = L.length → Pk.OwnB w.heap.size W q (Pk.w32 (gd L)) (Pk.sh 8 (gd L)) → ∃ a c, q = .slice a (L.drop 8).length c ∧ Own W (.slice a (L.drop 8).length c) (L.drop 8) ∧ ∀ g, (Value.slice a (L.drop 8).length c).ownBlock = some g → w.heap.size ≤ g from fun W q h o => by
    have e : (L.drop 8).length = Pk.w32 (gd L) := by rw [List.length_drop]; omega
    have o2 : Own W q (L.drop 8) := by
      unfold Own
      rw [e, gd_drop]
      exact o.mono (Nat.zero_le _)
    obtain ⟨a, c, rfl⟩ := o2.len
    exact ⟨a, c, rfl, o2, fun g hg => (o.own.lt g hg).1⟩)
  have HMb := hid (show Pk.unfM L.length (gd L) ≤ 4104 from by unfold Pk.unfM; split; (rename_i h; unfold Pk.unfE at h; (repeat' split at h) <;> omega); omega)
  generalize hE : Pk.unfE L.length (gd L) = E at *
  generalize hMM : Pk.unfM L.length (gd L) = MM at *
  generalize hUL : Pk.unfL L.length (gd L) = UL at *
  have HEl := hid (show E ≤ 32 from by rw [← hE]; unfold Pk.unfE; (repeat' split) <;> omega)
  generalize hW : Pk.w32 (gd L) = W32 at *
  obtain ⟨n, hn⟩ : ∃ n, n = L.length := ⟨_, rfl⟩
  have HN := hid hn
  rw [← hn] at HUn HLd HNo HOk hl ⊢
  clear hE hMM hUL hW hn ht hB
  obtain ⟨D, hD⟩ : ∃ D, D = L.drop 8 := ⟨_, rfl⟩
  rw [← hD] at HLd HOk
  clear hD
  have hmf : ∀ (fn : Fn) (first cap : Array Value) (w : World), (Instr.makeFunc fn first cap).run Tryz.prog w = .ok (.func fn first cap) w := fun _ _ _ _ => rfl
  obtain ⟨rp, hrp⟩ : ∃ rp, rp = rdP L := ⟨_, rfl⟩
  rw [← hrp] at HLd HNo ⊢
  clear hrp
  go_enter Tryz.func20, Tryz.ntmps20
  go_upto_region 1 with (fail)
  have HB := hid (alloc_at w (.cells #[.int .i64 0, .int .i64 0] 62))
  have HU := hid (show Old w (w.alloc (.cells #[.int .i64 0, .int .i64 0] 62)) from (Old.refl w).alloc _)
  generalize w.alloc (.cells #[.int .i64 0, .int .i64 0] 62) = w0 at *
  obtain ⟨g0, hg0⟩ : ∃ g0, g0 = w.heap.size := ⟨_, rfl⟩
  have HG0 := hid (show w.heap.size ≤ g0 from by omega)
  rw [← hg0] at HB ⊢
  clear hg0
  go_upto_region 2 with (go_at_call 42; refine (HUn.out _ HU.out).mono ?_; rintro e w1 ⟨v1, rfl, o1, u1⟩; have O1 := hid o1; have U1 := hid u1; clear o1 u1)
  have B1 := hid (Old.block U1.out HB.out)
  have U01 := hid (HU.out.trans U1.out)
  obtain ⟨x0, x1, xf0, xf1⟩ := box2 B1.out
  by_cases hok : E = 0 ∧ 8 + W32 = n
  · obtain ⟨h1, h2⟩ := hok
    subst h1
    have HR := hid (HLd.out rfl h2)
    obtain ⟨m1, m2⟩ := HM.out rfl
    subst m1 m2
    obtain ⟨a2, c2, e2, o2, f2⟩ := HOk.out w1 v1 h2 (O1.out.mono HU.out.size)
    subst e2
    have O2 := hid o2
    have F2 := hid f2
    subst h2
    clear o2 f2 HLd HNo HM HOk O1 HUn
    go_upto_region 5 with (fail)
    have HB2 := hid (alloc_at w1 (.cells #[.int .i64 0, .int .i64 0] 62))
    have HV := hid (show Old w1 (w1.alloc (.cells #[.int .i64 0, .int .i64 0] 62)) from (Old.refl w1).alloc _)
    have HRd := hid (readRead D (w1.alloc (.cells #[.int .i64 0, .int .i64 0] 62)) a2 c2 w1.heap.size (O2.out.old HV.out).row HB2.out (fun a ha hl => by
      subst ha
      have := O2.out.lt a.block (by simp [Value.ownBlock])
      omega))
    generalize w1.alloc (.cells #[.int .i64 0, .int .i64 0] 62) = w2 at *
    obtain ⟨g2, hg2⟩ : ∃ g2, g2 = w1.heap.size := ⟨_, rfl⟩
    have HG2 := hid (show w.heap.size ≤ g2 ∧ g0 < g2 from by have := U01.out.size; have := heap_lt B1.out; omega)
    rw [← hg2] at HB2 HRd ⊢
    clear hg2
    have B2 := hid (Old.block HV.out B1.out)
    cases hT : ldP D with
    | none =>
      rw [hT] at HR
      have HX := hid (HRd.out.mono (fun e w' q => show e = .returned (.int .i64 30) ∧ Pk.Chg [g2] w2 w' from by
        rcases q with ⟨c, ⟨t, v, e1, _⟩ | ⟨_, q⟩⟩
        · rw [hT] at e1; cases e1
        · exact ⟨q, c⟩))
      clear HRd hT x0 x1 xf0 xf1
      go_upto_region 6 with (go_at_call 43; refine HX.out.mono ?_; rintro e w3 ⟨rfl, c3⟩; have C3 := hid c3; clear c3)
      have B3 := hid (C3.out.at B2.out (by simp; have := HG2.out; omega))
      have U3 := hid (Pk.Chg.toOld (U01.out.trans HV.out) C3.out (by simp; exact HG2.out.1))
      obtain ⟨x0, x1, xf0, xf1⟩ := box2 B3.out
      go_wp2
      have PB : ((w3.setCell ⟨g0, 0, none⟩ (.int .i64 0)).setCell ⟨g0, 1, none⟩ (.int .i64 0)).heap[g0]? = some (.cells #[.int .i64 0, .int .i64 0] 62 (0, 0)) := Go.Joins.block_setCell (Go.Joins.block_setCell B3.out _ (i := 0)) _ (i := 1)
      obtain ⟨y0, y1, -, -⟩ := box2 PB
      refine bodyPost_ret (v := .agg #[.int .i64 0, .int .i64 0]) (by simp [results, Tryz.results20, go_sem, y0, y1]) rfl ⟨by rw [HR.out], (U3.out.setCell (p := ⟨g0, 0, none⟩) HG0.out _).setCell (p := ⟨g0, 1, none⟩) HG0.out _⟩
    | some p =>
      obtain ⟨t, v⟩ := p
      rw [hT] at HR
      have HX := hid (HRd.out.mono (fun e w' q => show e = .returned (.int .i64 0) ∧ Pk.Chg [g2] w2 w' ∧ w'.heap[g2]? = some (.cells #[.int .i64 t, .int .i64 v] 62 (0, 0)) from by
        rcases q with ⟨c, ⟨t', v', e1, e2, q1⟩ | ⟨e1, _⟩⟩
        · rw [hT] at e1; cases e1; exact ⟨e2, c, q1⟩
        · rw [hT] at e1; cases e1))
      have HRg := hid (fun (W : World) => right_any t v W)
      clear HRd hT x0 x1 xf0 xf1
      go_upto_region 6 with (go_at_call 43; refine HX.out.mono ?_; rintro e w3 ⟨rfl, c3, q3⟩; have C3 := hid c3; have Q3 := hid q3; clear c3 q3)
      have B3 := hid (C3.out.at B2.out (by simp; have := HG2.out; omega))
      have U3 := hid (Pk.Chg.toOld (U01.out.trans HV.out) C3.out (by simp; exact HG2.out.1))
      obtain ⟨z0, z1, -, -⟩ := box2 Q3.out
      cases hg : rgt t v with
      | true =>
        rw [hg] at HRg
        have HR2 := hid (show rp = (t, v) from by rw [HR.out, if_pos hg])
        clear hg HR
        go_upto_region 8 with (go_at_call 27; refine (HRg.out _).mono ?_; rintro e w4 ⟨rfl, u4⟩; have U4 := hid u4; clear u4)
        clear z0 z1
        have B4 := hid (U4.out.block B3.out)
        obtain ⟨x0, x1, xf0, xf1⟩ := box2 B4.out
        obtain ⟨z0, z1, -, -⟩ := box2 (U4.out.block Q3.out)
        go_wp2
        have PB : ((w4.setCell ⟨g0, 0, none⟩ (.int .i64 t)).setCell ⟨g0, 1, none⟩ (.int .i64 v)).heap[g0]? = some (.cells #[.int .i64 t, .int .i64 v] 62 (0, 0)) := Go.Joins.block_setCell (Go.Joins.block_setCell B4.out _ (i := 0)) _ (i := 1)
        obtain ⟨y0, y1, -, -⟩ := box2 PB
        refine bodyPost_ret (v := .agg #[.int .i64 t, .int .i64 v]) (by simp [results, Tryz.results20, go_sem, y0, y1]) rfl ⟨by rw [HR2.out], ((U3.out.trans U4.out).setCell (p := ⟨g0, 0, none⟩) HG0.out _).setCell (p := ⟨g0, 1, none⟩) HG0.out _⟩
      | false =>
        rw [hg] at HRg
        have HR2 := hid (show rp = (0, 0) from by rw [HR.out, if_neg (by rw [hg]; decide)])
        clear hg HR
        go_upto_region 7 with (go_at_call 27; refine (HRg.out _).mono ?_; rintro e w4 ⟨rfl, u4⟩; have U4 := hid u4; clear u4)
        clear z0 z1
        have B4 := hid (U4.out.block B3.out)
        obtain ⟨x0, x1, xf0, xf1⟩ := box2 B4.out
        go_wp2
        have PB : ((w4.setCell ⟨g0, 0, none⟩ (.int .i64 0)).setCell ⟨g0, 1, none⟩ (.int .i64 0)).heap[g0]? = some (.cells #[.int .i64 0, .int .i64 0] 62 (0, 0)) := Go.Joins.block_setCell (Go.Joins.block_setCell B4.out _ (i := 0)) _ (i := 1)
        obtain ⟨y0, y1, -, -⟩ := box2 PB
        refine bodyPost_ret (v := .agg #[.int .i64 0, .int .i64 0]) (by simp [results, Tryz.results20, go_sem, y0, y1]) rfl ⟨by rw [HR2.out], ((U3.out.trans U4.out).setCell (p := ⟨g0, 0, none⟩) HG0.out _).setCell (p := ⟨g0, 1, none⟩) HG0.out _⟩
  · have HR := hid (HNo.out hok)
    have PB : ((w1.setCell ⟨g0, 0, none⟩ (.int .i64 0)).setCell ⟨g0, 1, none⟩ (.int .i64 0)).heap[g0]? = some (.cells #[.int .i64 0, .int .i64 0] 62 (0, 0)) := Go.Joins.block_setCell (Go.Joins.block_setCell B1.out _ (i := 0)) _ (i := 1)
    obtain ⟨y0, y1, -, -⟩ := box2 PB
    have HUf := hid (show Old w ((w1.setCell ⟨g0, 0, none⟩ (.int .i64 0)).setCell ⟨g0, 1, none⟩ (.int .i64 0)) from (U01.out.setCell (p := ⟨g0, 0, none⟩) HG0.out _).setCell (p := ⟨g0, 1, none⟩) HG0.out _)
    clear PB
    by_cases h1 : E = 0
    · subst h1
      obtain ⟨m1, m2⟩ := HM.out rfl
      have hne : ¬ MM = n := fun e => hok ⟨rfl, by omega⟩
      have k1 : ((MM : Int) != (n : Int)) = true := by rw [bne_iff_ne]; omega
      have k2 : ((MM : Int) == (n : Int)) = false := by rw [beq_eq_false_iff_ne]; omega
      clear hok m1 m2 hne HM HLd HOk HUn
      go_wp2
      refine bodyPost_ret (v := .agg #[.int .i64 0, .int .i64 0]) (by simp [results, Tryz.results20, go_sem, y0, y1]) rfl ⟨by rw [HR.out], HUf.out⟩
    · have k1 : ((E : Int) != 0) = true := by rw [bne_iff_ne]; omega
      have k2 : ((E : Int) == 0) = false := by rw [beq_eq_false_iff_ne]; omega
      clear hok h1 HM HLd HOk HUn
      go_wp2
      refine bodyPost_ret (v := .agg #[.int .i64 0, .int .i64 0]) (by simp [results, Tryz.results20, go_sem, y0, y1]) rfl ⟨by rw [HR.out], HUf.out⟩
end Go.Proofs.YtfphopleniidfaaGreatDoor
