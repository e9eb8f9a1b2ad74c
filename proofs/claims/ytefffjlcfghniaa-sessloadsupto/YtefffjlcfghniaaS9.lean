/- The document's Look, of layer 13; conditions: the items lie in memory, and are a table's. -/
import Derived.Test.YtefffjlcfghniaaS8
namespace Go.Proofs.Ytefffjlcfghniaa
open Go.RowKit Go.Lib
set_option linter.unusedVariables false
set_option linter.unusedSimpArgs false
set_option maxRecDepth 20000
/-- A new variable of an item. -/
structure Q4 (rb : Nat) (w : World) : Prop where
  a : w.cell? ⟨rb, 0, none⟩ = some (.int .i64 0)
  b : w.cell? ⟨rb, 1, none⟩ = some (.int .i64 0)
  c : w.cell? ⟨rb, 2, none⟩ = some (.int .i64 0)
  d : w.cell? ⟨rb, 3, none⟩ = some (.int .i64 0)
  fa : w.frozen? ⟨rb, 0, none⟩ = false
  fb : w.frozen? ⟨rb, 1, none⟩ = false
  fc : w.frozen? ⟨rb, 2, none⟩ = false
  fd : w.frozen? ⟨rb, 3, none⟩ = false
theorem Q4.old {rb : Nat} {w w' : World} (u : Old w w') (h : Q4 rb w) : Q4 rb w' := ⟨u.keep h.a, u.keep h.b, u.keep h.c, u.keep h.d, u.keepF h.a h.fa, u.keepF h.b h.fb, u.keepF h.c h.fc, u.keepF h.d h.fd⟩
theorem Q4.new (w : World) : Q4 w.heap.size (w.alloc (.cells #[.int .i64 0, .int .i64 0, .int .i64 0, .int .i64 0] 44)) := ⟨by simp, by simp, by simp, by simp, by simp, by simp, by simp, by simp⟩
theorem oth4 {W : World} {b j b' j' : Nat} {v u : Value} (h : W.cell? ⟨b, j, none⟩ = some v) (hn : b' ≠ b ∨ j' ≠ j) : (W.setCell ⟨b', j', none⟩ u).cell? ⟨b, j, none⟩ = some v := by
  rw [World.cell?_setCell_other _ _ _ _ (by intro e; cases e; rcases hn with h | h <;> exact h rfl)]
  exact h
theorem four_set {W : World} {rb : Nat} {p q r s : Value} (h0 : W.cell? ⟨rb, 0, none⟩ = some p) (h1 : W.cell? ⟨rb, 1, none⟩ = some q) (h2 : W.cell? ⟨rb, 2, none⟩ = some r) (h3 : W.cell? ⟨rb, 3, none⟩ = some s) (a b c d : Value) :
    ((((W.setCell ⟨rb, 0, none⟩ a).setCell ⟨rb, 1, none⟩ b).setCell ⟨rb, 2, none⟩ c).setCell ⟨rb, 3, none⟩ d).cell? ⟨rb, 0, none⟩ = some a ∧ ((((W.setCell ⟨rb, 0, none⟩ a).setCell ⟨rb, 1, none⟩ b).setCell ⟨rb, 2, none⟩ c).setCell ⟨rb, 3, none⟩ d).cell? ⟨rb, 1, none⟩ = some b ∧ ((((W.setCell ⟨rb, 0, none⟩ a).setCell ⟨rb, 1, none⟩ b).setCell ⟨rb, 2, none⟩ c).setCell ⟨rb, 3, none⟩ d).cell? ⟨rb, 2, none⟩ = some c ∧ ((((W.setCell ⟨rb, 0, none⟩ a).setCell ⟨rb, 1, none⟩ b).setCell ⟨rb, 2, none⟩ c).setCell ⟨rb, 3, none⟩ d).cell? ⟨rb, 3, none⟩ = some d := by
  have e0 : (W.setCell ⟨rb, 0, none⟩ a).cell? ⟨rb, 0, none⟩ = some a := World.cell?_setCell_same _ _ _ h0
  have e1 : ((W.setCell ⟨rb, 0, none⟩ a).setCell ⟨rb, 1, none⟩ b).cell? ⟨rb, 1, none⟩ = some b := World.cell?_setCell_same _ _ _ (u := q) (oth4 h1 (.inr (by omega)))
  have e2 : (((W.setCell ⟨rb, 0, none⟩ a).setCell ⟨rb, 1, none⟩ b).setCell ⟨rb, 2, none⟩ c).cell? ⟨rb, 2, none⟩ = some c := World.cell?_setCell_same _ _ _ (u := r) (oth4 (oth4 h2 (.inr (by omega))) (.inr (by omega)))
  exact ⟨oth4 (oth4 (oth4 e0 (.inr (by omega))) (.inr (by omega))) (.inr (by omega)), oth4 (oth4 e1 (.inr (by omega))) (.inr (by omega)), oth4 e2 (.inr (by omega)), World.cell?_setCell_same _ _ _ (u := s) (oth4 (oth4 (oth4 h3 (.inr (by omega))) (.inr (by omega))) (.inr (by omega)))⟩
theorem lookV_zero {ks : List Int} {L : Int → List It} {s q : Int} (h : lookC ks L s q ≠ 5) : lookV L s q = (0, 0) := by
  unfold lookV
  by_cases f : foundB q (L s) = true
  · exact absurd (by unfold lookC; rw [if_pos f]) h
  · rw [if_neg f]
set_option maxHeartbeats 400000 in
set_option maxRecDepth 20000 in
theorem rnumber_any (z : Int) (w : World) : Calls Try.prog 36 #[.int .i64 z] w fun e w' => e = .returned (.bool (!outB z 1 1099511627776)) ∧ Old w w' := by
  unfold outB
  go_enter Try.func36, Try.ntmps36
  by_cases q : z ≥ 1
  · by_cases r : z ≤ 1099511627776
    · go_wp2
      go_ret
      exact ⟨ret_b (by rw [decide_eq_false (by omega), decide_eq_false (by omega)]; rfl), Old.refl _⟩
    · go_wp2
      go_ret
      exact ⟨ret_b (by first | rfl | (rw [decide_eq_true (show 1099511627776 < z by omega), Bool.or_true]; rfl)), Old.refl _⟩
  · go_wp2
    go_ret
    exact ⟨ret_b (by first | rfl | (rw [decide_eq_true (show z < 1 by omega), Bool.true_or]; rfl)), Old.refl _⟩
set_option maxHeartbeats 8000000 in
set_option maxRecDepth 20000 in
theorem rLook_any (v : Value) (T : List Opv) (ks : List Int) (L : Int → List It) (s q : Int) (w : World) (hv : RRow w v T) (hrel : Rel T ks L) (hok : TOk ks L) (hnd : ks.Nodup) (hnil : ∀ k, k ∉ ks → L k = []) :
    Calls Try.prog 13 #[.agg #[v], .int .i64 s, .int .i64 q] w fun e w' => ∃ a b, e = .returned (.tuple #[.agg #[.int .i64 a, .int .i64 b, .int .i64 (lookV L s q).1, .int .i64 (lookV L s q).2], .int .i64 (lookC ks L s q)]) ∧ Old w w' := by
  have HN1 := hid (fun W => rnumber_any s W)
  have HN2 := hid (fun W => rnumber_any q W)
  have HH := hid (fun (W : World) (u : Old w W) => rHighest_any v T s W (hv.old u))
  rw [hrel.hi hok s] at HH
  have HSe := hid (fun (W : World) (u : Old w W) => (rSessions_any v T W (hv.old u) (fun i hi => (hok.rng _ (hrel.of _ (opA_mem T i hi)).2).1)).mono (R' := fun e w' => ∃ v' O, e = .returned v' ∧ O.length = ks.length ∧ OwnN W.heap.size w' v' O ∧ Old W w') (fun e w' ⟨v', O, h1, h2, h3, h4, h5⟩ => ⟨v', O, h1, hrel.many hok hnd h2, h4, h5⟩))
  have HCo := hid (hrel.code hok hnil s q)
  have HFo := hid (hrel.found hok s q)
  have hh := hok.hi s
  have hmany := hok.many
  obtain ⟨hm, p, c, rfl, hc⟩ := hv
  have HC := hid hc
  clear hc hrel hok hnd hnil
  generalize hiL (L s) = hi at *
  generalize ks.length = kl at *
  go_enter Try.func13, Try.ntmps13
  go_upto_region 1 with fail
  generalize hw1 : (w.alloc (.cells #[.slice p T.length c] 42)).alloc (.cells #[.int .i64 0, .int .i64 0, .int .i64 0, .int .i64 0] 44) = w1
  have O1 := hid (show Old w w1 from by rw [← hw1]; exact ((Old.refl _).alloc _).alloc _)
  have t0 : w1.cell? ⟨w.heap.size, 0, none⟩ = some (.slice p T.length c) := by rw [← hw1]; exact ((Old.refl _).alloc _).keep (by simp)
  have QQ := hid (show Q4 (w.heap.size + 1) w1 from by
    rw [← hw1]
    have h := Q4.new (w.alloc (.cells #[.slice p T.length c] 42))
    simpa using h)
  have HZ := hid (show w.heap.size ≤ w.heap.size + 1 from by omega)
  clear hw1
  obtain ⟨rb, hrb⟩ : ∃ rb, w.heap.size + 1 = rb := ⟨_, rfl⟩
  obtain ⟨tb, htb⟩ : ∃ tb, w.heap.size = tb := ⟨_, rfl⟩
  rw [hrb] at QQ HZ ⊢
  rw [htb] at t0 ⊢
  clear hrb htb
  have UU := hid (Old.refl w1)
  have HH1 := hid (fun (W : World) (u : Old w1 W) => HH.out W (O1.out.trans u))
  have HSe1 := hid (fun (W : World) (u : Old w1 W) => HSe.out W (O1.out.trans u))
  clear HH HSe
  have HLV0 := hid (fun (h : lookC ks L s q ≠ 5) => lookV_zero h)
  have tok1 : True := trivial
  cases os : outB s 1 1099511627776 with
  | true =>
    rw [os] at HN1
    have HLC := hid (show lookC ks L s q = 43 from by rw [HCo.out, os, Bool.true_or, if_pos rfl])
    have HLV := hid (HLV0.out (by rw [HLC.out]; decide))
    clear HFo HCo
    go_upto_region 2 with (go_at_call 36; refine (HN1.out _).mono ?_; rintro e w8 ⟨rfl, u8⟩; have UV := hid (UU.out.trans u8); have T8 := u8.keep t0; have Q8 := hid (Q4.old u8 QQ.out); clear UU t0 QQ u8; have UU := UV; have t0 := T8; have QQ := Q8; clear UV T8 Q8)
    obtain ⟨k0, k1, k2, k3, f0, f1, f2, f3⟩ := QQ.out
    obtain ⟨z0, z1, z2, z3⟩ := four_set k0 k1 k2 k3 (.int .i64 0) (.int .i64 0) (.int .i64 0) (.int .i64 0)
    have Z := hid (And.intro z0 (And.intro z1 (And.intro z2 z3)))
    clear z0 z1 z2 z3
    go_wp2
    obtain ⟨z0, z1, z2, z3⟩ := Z.out
    exact bodyPost_ret (v := .tuple #[.agg #[.int .i64 0, .int .i64 0, .int .i64 0, .int .i64 0], .int .i64 43]) (by simp [results, Try.results13, go_sem, z0, z1, z2, z3]) rfl ⟨0, 0, by rw [HLV.out, HLC.out], (((((O1.out.trans UU.out).setCell HZ.out _).setCell HZ.out _).setCell HZ.out _).setCell HZ.out _)⟩
  | false =>
    rw [os] at HN1
    cases oq : outB q 1 1099511627776 with
    | true =>
      rw [oq] at HN2
      have HLC := hid (show lookC ks L s q = 43 from by rw [HCo.out, os, oq, Bool.or_true, if_pos rfl])
      have HLV := hid (HLV0.out (by rw [HLC.out]; decide))
      clear HFo HCo
      go_upto_region 2 with (first | (go_at_call 36; have _t := tok1; clear tok1 _t; refine (HN1.out _).mono ?_; rintro e w8 ⟨rfl, u8⟩; have UV := hid (UU.out.trans u8); have T8 := u8.keep t0; have Q8 := hid (Q4.old u8 QQ.out); clear UU t0 QQ u8; have UU := UV; have t0 := T8; have QQ := Q8; clear UV T8 Q8) | (go_at_call 36; refine (HN2.out _).mono ?_; rintro e w8 ⟨rfl, u8⟩; have UV := hid (UU.out.trans u8); have T8 := u8.keep t0; have Q8 := hid (Q4.old u8 QQ.out); clear UU t0 QQ u8; have UU := UV; have t0 := T8; have QQ := Q8; clear UV T8 Q8))
      obtain ⟨k0, k1, k2, k3, f0, f1, f2, f3⟩ := QQ.out
      obtain ⟨z0, z1, z2, z3⟩ := four_set k0 k1 k2 k3 (.int .i64 0) (.int .i64 0) (.int .i64 0) (.int .i64 0)
      have Z := hid (And.intro z0 (And.intro z1 (And.intro z2 z3)))
      clear z0 z1 z2 z3
      go_wp2
      obtain ⟨z0, z1, z2, z3⟩ := Z.out
      exact bodyPost_ret (v := .tuple #[.agg #[.int .i64 0, .int .i64 0, .int .i64 0, .int .i64 0], .int .i64 43]) (by simp [results, Try.results13, go_sem, z0, z1, z2, z3]) rfl ⟨0, 0, by rw [HLV.out, HLC.out], (((((O1.out.trans UU.out).setCell HZ.out _).setCell HZ.out _).setCell HZ.out _).setCell HZ.out _)⟩
    | false =>
      rw [oq] at HN2
      have HC2 := hid (show lookC ks L s q = if hi = 0 ∧ 16 ≤ kl then 131 else if 0 < hi ∧ q ≤ hi - 8 then 130 else if foundB q (L s) = true then 5 else 0 from by rw [HCo.out, os, oq]; rfl)
      clear HCo
      by_cases h0 : hi = 0
      · have e0 : (hi == 0) = true := by rw [beq_iff_eq]; exact h0
        by_cases hk : 16 ≤ kl
        · have g1 : (kl : Int) ≥ 16 := by omega
          have HLC := hid (show lookC ks L s q = 131 from by rw [HC2.out, if_pos ⟨h0, hk⟩])
          have HLV := hid (HLV0.out (by rw [HLC.out]; decide))
          clear HFo HC2
          go_upto_region 5 with (first | (go_at_call 36; have _t := tok1; clear tok1 _t; refine (HN1.out _).mono ?_; rintro e w8 ⟨rfl, u8⟩; have UV := hid (UU.out.trans u8); have T8 := u8.keep t0; have Q8 := hid (Q4.old u8 QQ.out); clear UU t0 QQ u8; have UU := UV; have t0 := T8; have QQ := Q8; clear UV T8 Q8) | (go_at_call 36; refine (HN2.out _).mono ?_; rintro e w8 ⟨rfl, u8⟩; have UV := hid (UU.out.trans u8); have T8 := u8.keep t0; have Q8 := hid (Q4.old u8 QQ.out); clear UU t0 QQ u8; have UU := UV; have t0 := T8; have QQ := Q8; clear UV T8 Q8) | (go_at_call 18; refine (HH1.out _ UU.out).mono ?_; rintro e w8 ⟨rfl, u8⟩; have UV := hid (UU.out.trans u8); have T8 := u8.keep t0; have Q8 := hid (Q4.old u8 QQ.out); clear UU t0 QQ u8; have UU := UV; have t0 := T8; have QQ := Q8; clear UV T8 Q8) | (go_at_call 37; refine (HSe1.out _ UU.out).mono ?_; rintro e w8 ⟨v8, O8, rfl, hl8, o8, u8⟩; obtain ⟨p8, c8, e8⟩ := o8.len; rw [hl8] at e8; subst e8; clear o8 hl8; have UV := hid (UU.out.trans u8); have T8 := u8.keep t0; have Q8 := hid (Q4.old u8 QQ.out); clear UU t0 QQ u8; have UU := UV; have t0 := T8; have QQ := Q8; clear UV T8 Q8))
          obtain ⟨k0, k1, k2, k3, f0, f1, f2, f3⟩ := QQ.out
          obtain ⟨z0, z1, z2, z3⟩ := four_set k0 k1 k2 k3 (.int .i64 0) (.int .i64 0) (.int .i64 0) (.int .i64 0)
          have Z := hid (And.intro z0 (And.intro z1 (And.intro z2 z3)))
          clear z0 z1 z2 z3
          go_wp2
          obtain ⟨z0, z1, z2, z3⟩ := Z.out
          exact bodyPost_ret (v := .tuple #[.agg #[.int .i64 0, .int .i64 0, .int .i64 0, .int .i64 0], .int .i64 131]) (by simp [results, Try.results13, go_sem, z0, z1, z2, z3]) rfl ⟨0, 0, by rw [HLV.out, HLC.out], (((((O1.out.trans UU.out).setCell HZ.out _).setCell HZ.out _).setCell HZ.out _).setCell HZ.out _)⟩
        · have g1 : ¬ (kl : Int) ≥ 16 := by omega
          have g1n : ¬ 16 ≤ kl := hk
          have g2 : ¬ hi > 0 := by omega
          have HC3 := hid (show lookC ks L s q = if foundB q (L s) = true then 5 else 0 from by rw [HC2.out, if_neg (fun z => hk z.2), if_neg (fun z => g2 z.1)])
          clear HC2
          go_upto_region 9 with (first | (go_at_call 36; have _t := tok1; clear tok1 _t; refine (HN1.out _).mono ?_; rintro e w8 ⟨rfl, u8⟩; have UV := hid (UU.out.trans u8); have T8 := u8.keep t0; have Q8 := hid (Q4.old u8 QQ.out); clear UU t0 QQ u8; have UU := UV; have t0 := T8; have QQ := Q8; clear UV T8 Q8) | (go_at_call 36; refine (HN2.out _).mono ?_; rintro e w8 ⟨rfl, u8⟩; have UV := hid (UU.out.trans u8); have T8 := u8.keep t0; have Q8 := hid (Q4.old u8 QQ.out); clear UU t0 QQ u8; have UU := UV; have t0 := T8; have QQ := Q8; clear UV T8 Q8) | (go_at_call 18; refine (HH1.out _ UU.out).mono ?_; rintro e w8 ⟨rfl, u8⟩; have UV := hid (UU.out.trans u8); have T8 := u8.keep t0; have Q8 := hid (Q4.old u8 QQ.out); clear UU t0 QQ u8; have UU := UV; have t0 := T8; have QQ := Q8; clear UV T8 Q8) | (go_at_call 37; refine (HSe1.out _ UU.out).mono ?_; rintro e w8 ⟨v8, O8, rfl, hl8, o8, u8⟩; obtain ⟨p8, c8, e8⟩ := o8.len; rw [hl8] at e8; subst e8; clear o8 hl8; have UV := hid (UU.out.trans u8); have T8 := u8.keep t0; have Q8 := hid (Q4.old u8 QQ.out); clear UU t0 QQ u8; have UU := UV; have t0 := T8; have QQ := Q8; clear UV T8 Q8))
          clear HN1 HN2 HH1 HSe1 HLV0
          obtain ⟨n, hn⟩ : ∃ n, T.length = n := ⟨_, rfl⟩
          rw [hn] at t0 HC HFo hm ⊢
          clear hn
          have ln : (n : Int) ≤ 1000 := by omega
          have HT0 := hid t0
          go_loopw [9] (fun i wr => ∃ k : Nat, k ≤ n ∧ i = .int .i64 (k : Nat) ∧ (∀ i, i < k → ¬ ((opA T i).s = s ∧ (opA T i).x.n = q)) ∧ Old w8 wr) (fun i _ => n - (intOf i).toNat)
          case atStart => exact ⟨0, Nat.zero_le _, rfl, fun i hi => by omega, Old.refl _⟩
          case round =>
            obtain ⟨k, hk9, rfl, hno, hu⟩ := hrel
            have V := hid hu
            have HNo := hid hno
            have t1 := hu.keep HT0.out
            clear hu hno t0
            by_cases hlt : k < n
            · obtain ⟨b, ea, hI⟩ := HC.out k hlt
              subst ea
              obtain ⟨z0, z1, z2, z3⟩ := hI.old ((O1.out.trans UU.out).trans V.out)
              have l1 : (0 : Int) ≤ (k : Int) := by omega
              have l2 : (k : Int) < (n : Int) := by omega
              have HFk := hid (HFo.out.1 k hlt)
              clear hI HC
              by_cases q1 : (opA T k).s = s
              · by_cases q2 : (opA T k).x.n = q
                · obtain ⟨f1, f2⟩ := HFk.out q1 q2
                  have r1 : ((opA T k).s == s) = true := by rw [beq_iff_eq]; exact q1
                  have r2 : ((opA T k).x.n == q) = true := by rw [beq_iff_eq]; exact q2
                  have HLC := hid (show lookC ks L s q = 5 from by rw [HC3.out, if_pos f1])
                  have HLV := hid f2
                  have QV := hid (Q4.old V.out QQ.out)
                  obtain ⟨k0, k1, k2, k3, f0, f1', f2', f3⟩ := QV.out
                  obtain ⟨y0, y1, y2, y3⟩ := four_set k0 k1 k2 k3 (.int .i64 (opA T k).s) (.int .i64 (opA T k).x.n) (.int .i64 (opA T k).x.c) (.int .i64 (opA T k).x.m)
                  have Y := hid (And.intro y0 (And.intro y1 (And.intro y2 y3)))
                  clear y0 y1 y2 y3 q1 q2 f1 f2 HFo HFk HC3 HNo
                  generalize opA T k = o at *
                  go_wp2
                  obtain ⟨y0, y1, y2, y3⟩ := Y.out
                  exact bodyPost_ret (v := .tuple #[.agg #[.int .i64 o.s, .int .i64 o.x.n, .int .i64 o.x.c, .int .i64 o.x.m], .int .i64 5]) (by simp [results, Try.results13, go_sem, y0, y1, y2, y3]) rfl ⟨o.s, o.x.n, by rw [HLV.out, HLC.out], ((((((O1.out.trans UU.out).trans V.out).setCell HZ.out _).setCell HZ.out _).setCell HZ.out _).setCell HZ.out _)⟩
                · have r1 : ((opA T k).s == s) = true := by rw [beq_iff_eq]; exact q1
                  have r2 : ((opA T k).x.n == q) = false := by rw [beq_eq_false_iff_ne]; exact q2
                  have HN' := hid (show ∀ i, i < k + 1 → ¬ ((opA T i).s = s ∧ (opA T i).x.n = q) from fun i hi z => by
                    by_cases e : i = k
                    · rw [e] at z; exact q2 z.2
                    · exact HNo.out i (by omega) z)
                  clear q1 q2 HFo HFk HC3 HNo
                  generalize opA T k = o at *
                  go_wp2
                  go_roundw
                  case rel => exact ⟨k + 1, hlt, by go_num, HN'.out, V.out⟩
                  case measure => simp [intOf]; omega
              · have r1 : ((opA T k).s == s) = false := by rw [beq_eq_false_iff_ne]; exact q1
                have HN' := hid (show ∀ i, i < k + 1 → ¬ ((opA T i).s = s ∧ (opA T i).x.n = q) from fun i hi z => by
                  by_cases e : i = k
                  · rw [e] at z; exact q1 z.1
                  · exact HNo.out i (by omega) z)
                clear q1 HFo HFk HC3 HNo
                generalize opA T k = o at *
                go_wp2
                go_roundw
                case rel => exact ⟨k + 1, hlt, by go_num, HN'.out, V.out⟩
                case measure => simp [intOf]; omega
            · obtain rfl : k = n := by omega
              obtain ⟨f1, f2⟩ := HFo.out.2 HNo.out
              have HLC := hid (show lookC ks L s q = 0 from by rw [HC3.out, f1]; rfl)
              have HLV := hid f2
              have QV := hid (Q4.old V.out QQ.out)
              obtain ⟨k0, k1, k2, k3, f0, f1', f2', f3⟩ := QV.out
              obtain ⟨y0, y1, y2, y3⟩ := four_set k0 k1 k2 k3 (.int .i64 0) (.int .i64 0) (.int .i64 0) (.int .i64 0)
              have Y := hid (And.intro y0 (And.intro y1 (And.intro y2 y3)))
              clear y0 y1 y2 y3 f1 f2 HFo HC3 HNo HC
              go_wp2
              obtain ⟨y0, y1, y2, y3⟩ := Y.out
              exact bodyPost_ret (v := .tuple #[.agg #[.int .i64 0, .int .i64 0, .int .i64 0, .int .i64 0], .int .i64 0]) (by simp [results, Try.results13, go_sem, y0, y1, y2, y3]) rfl ⟨0, 0, by rw [HLV.out, HLC.out], ((((((O1.out.trans UU.out).trans V.out).setCell HZ.out _).setCell HZ.out _).setCell HZ.out _).setCell HZ.out _)⟩
      · have e0 : (hi == 0) = false := by rw [beq_eq_false_iff_ne]; exact h0
        have g2 : hi > 0 := by omega
        by_cases hq : q ≤ hi - 8
        · have HLC := hid (show lookC ks L s q = 130 from by rw [HC2.out, if_neg (fun z => h0 z.1), if_pos ⟨g2, hq⟩])
          have HLV := hid (HLV0.out (by rw [HLC.out]; decide))
          have lw : IntKind.i64.wrap (hi - 8) = hi - 8 := IntWalk.i64_in _ (by omega)
          clear HFo HC2
          go_upto_region 7 with (first | (go_at_call 36; have _t := tok1; clear tok1 _t; refine (HN1.out _).mono ?_; rintro e w8 ⟨rfl, u8⟩; have UV := hid (UU.out.trans u8); have T8 := u8.keep t0; have Q8 := hid (Q4.old u8 QQ.out); clear UU t0 QQ u8; have UU := UV; have t0 := T8; have QQ := Q8; clear UV T8 Q8) | (go_at_call 36; refine (HN2.out _).mono ?_; rintro e w8 ⟨rfl, u8⟩; have UV := hid (UU.out.trans u8); have T8 := u8.keep t0; have Q8 := hid (Q4.old u8 QQ.out); clear UU t0 QQ u8; have UU := UV; have t0 := T8; have QQ := Q8; clear UV T8 Q8) | (go_at_call 18; refine (HH1.out _ UU.out).mono ?_; rintro e w8 ⟨rfl, u8⟩; have UV := hid (UU.out.trans u8); have T8 := u8.keep t0; have Q8 := hid (Q4.old u8 QQ.out); clear UU t0 QQ u8; have UU := UV; have t0 := T8; have QQ := Q8; clear UV T8 Q8))
          obtain ⟨k0, k1, k2, k3, f0, f1, f2, f3⟩ := QQ.out
          obtain ⟨z0, z1, z2, z3⟩ := four_set k0 k1 k2 k3 (.int .i64 0) (.int .i64 0) (.int .i64 0) (.int .i64 0)
          have Z := hid (And.intro z0 (And.intro z1 (And.intro z2 z3)))
          clear z0 z1 z2 z3
          go_wp2
          obtain ⟨z0, z1, z2, z3⟩ := Z.out
          exact bodyPost_ret (v := .tuple #[.agg #[.int .i64 0, .int .i64 0, .int .i64 0, .int .i64 0], .int .i64 130]) (by simp [results, Try.results13, go_sem, z0, z1, z2, z3]) rfl ⟨0, 0, by rw [HLV.out, HLC.out], (((((O1.out.trans UU.out).setCell HZ.out _).setCell HZ.out _).setCell HZ.out _).setCell HZ.out _)⟩
        · have lw : IntKind.i64.wrap (hi - 8) = hi - 8 := IntWalk.i64_in _ (by omega)
          have HC3 := hid (show lookC ks L s q = if foundB q (L s) = true then 5 else 0 from by rw [HC2.out, if_neg (fun z => h0 z.1), if_neg (fun z => hq z.2)])
          clear HC2
          go_upto_region 9 with (first | (go_at_call 36; have _t := tok1; clear tok1 _t; refine (HN1.out _).mono ?_; rintro e w8 ⟨rfl, u8⟩; have UV := hid (UU.out.trans u8); have T8 := u8.keep t0; have Q8 := hid (Q4.old u8 QQ.out); clear UU t0 QQ u8; have UU := UV; have t0 := T8; have QQ := Q8; clear UV T8 Q8) | (go_at_call 36; refine (HN2.out _).mono ?_; rintro e w8 ⟨rfl, u8⟩; have UV := hid (UU.out.trans u8); have T8 := u8.keep t0; have Q8 := hid (Q4.old u8 QQ.out); clear UU t0 QQ u8; have UU := UV; have t0 := T8; have QQ := Q8; clear UV T8 Q8) | (go_at_call 18; refine (HH1.out _ UU.out).mono ?_; rintro e w8 ⟨rfl, u8⟩; have UV := hid (UU.out.trans u8); have T8 := u8.keep t0; have Q8 := hid (Q4.old u8 QQ.out); clear UU t0 QQ u8; have UU := UV; have t0 := T8; have QQ := Q8; clear UV T8 Q8))
          clear HN1 HN2 HH1 HSe1 HLV0
          obtain ⟨n, hn⟩ : ∃ n, T.length = n := ⟨_, rfl⟩
          rw [hn] at t0 HC HFo hm ⊢
          clear hn
          have ln : (n : Int) ≤ 1000 := by omega
          have HT0 := hid t0
          go_loopw [9] (fun i wr => ∃ k : Nat, k ≤ n ∧ i = .int .i64 (k : Nat) ∧ (∀ i, i < k → ¬ ((opA T i).s = s ∧ (opA T i).x.n = q)) ∧ Old w8 wr) (fun i _ => n - (intOf i).toNat)
          case atStart => exact ⟨0, Nat.zero_le _, rfl, fun i hi => by omega, Old.refl _⟩
          case round =>
            obtain ⟨k, hk9, rfl, hno, hu⟩ := hrel
            have V := hid hu
            have HNo := hid hno
            have t1 := hu.keep HT0.out
            clear hu hno t0
            by_cases hlt : k < n
            · obtain ⟨b, ea, hI⟩ := HC.out k hlt
              subst ea
              obtain ⟨z0, z1, z2, z3⟩ := hI.old ((O1.out.trans UU.out).trans V.out)
              have l1 : (0 : Int) ≤ (k : Int) := by omega
              have l2 : (k : Int) < (n : Int) := by omega
              have HFk := hid (HFo.out.1 k hlt)
              clear hI HC
              by_cases q1 : (opA T k).s = s
              · by_cases q2 : (opA T k).x.n = q
                · obtain ⟨f1, f2⟩ := HFk.out q1 q2
                  have r1 : ((opA T k).s == s) = true := by rw [beq_iff_eq]; exact q1
                  have r2 : ((opA T k).x.n == q) = true := by rw [beq_iff_eq]; exact q2
                  have HLC := hid (show lookC ks L s q = 5 from by rw [HC3.out, if_pos f1])
                  have HLV := hid f2
                  have QV := hid (Q4.old V.out QQ.out)
                  obtain ⟨k0, k1, k2, k3, f0, f1', f2', f3⟩ := QV.out
                  obtain ⟨y0, y1, y2, y3⟩ := four_set k0 k1 k2 k3 (.int .i64 (opA T k).s) (.int .i64 (opA T k).x.n) (.int .i64 (opA T k).x.c) (.int .i64 (opA T k).x.m)
                  have Y := hid (And.intro y0 (And.intro y1 (And.intro y2 y3)))
                  clear y0 y1 y2 y3 q1 q2 f1 f2 HFo HFk HC3 HNo
                  generalize opA T k = o at *
                  go_wp2
                  obtain ⟨y0, y1, y2, y3⟩ := Y.out
                  exact bodyPost_ret (v := .tuple #[.agg #[.int .i64 o.s, .int .i64 o.x.n, .int .i64 o.x.c, .int .i64 o.x.m], .int .i64 5]) (by simp [results, Try.results13, go_sem, y0, y1, y2, y3]) rfl ⟨o.s, o.x.n, by rw [HLV.out, HLC.out], ((((((O1.out.trans UU.out).trans V.out).setCell HZ.out _).setCell HZ.out _).setCell HZ.out _).setCell HZ.out _)⟩
                · have r1 : ((opA T k).s == s) = true := by rw [beq_iff_eq]; exact q1
                  have r2 : ((opA T k).x.n == q) = false := by rw [beq_eq_false_iff_ne]; exact q2
                  have HN' := hid (show ∀ i, i < k + 1 → ¬ ((opA T i).s = s ∧ (opA T i).x.n = q) from fun i hi z => by
                    by_cases e : i = k
                    · rw [e] at z; exact q2 z.2
                    · exact HNo.out i (by omega) z)
                  clear q1 q2 HFo HFk HC3 HNo
                  generalize opA T k = o at *
                  go_wp2
                  go_roundw
                  case rel => exact ⟨k + 1, hlt, by go_num, HN'.out, V.out⟩
                  case measure => simp [intOf]; omega
              · have r1 : ((opA T k).s == s) = false := by rw [beq_eq_false_iff_ne]; exact q1
                have HN' := hid (show ∀ i, i < k + 1 → ¬ ((opA T i).s = s ∧ (opA T i).x.n = q) from fun i hi z => by
                  by_cases e : i = k
                  · rw [e] at z; exact q1 z.1
                  · exact HNo.out i (by omega) z)
                clear q1 HFo HFk HC3 HNo
                generalize opA T k = o at *
                go_wp2
                go_roundw
                case rel => exact ⟨k + 1, hlt, by go_num, HN'.out, V.out⟩
                case measure => simp [intOf]; omega
            · obtain rfl : k = n := by omega
              obtain ⟨f1, f2⟩ := HFo.out.2 HNo.out
              have HLC := hid (show lookC ks L s q = 0 from by rw [HC3.out, f1]; rfl)
              have HLV := hid f2
              have QV := hid (Q4.old V.out QQ.out)
              obtain ⟨k0, k1, k2, k3, f0, f1', f2', f3⟩ := QV.out
              obtain ⟨y0, y1, y2, y3⟩ := four_set k0 k1 k2 k3 (.int .i64 0) (.int .i64 0) (.int .i64 0) (.int .i64 0)
              have Y := hid (And.intro y0 (And.intro y1 (And.intro y2 y3)))
              clear y0 y1 y2 y3 f1 f2 HFo HC3 HNo HC
              go_wp2
              obtain ⟨y0, y1, y2, y3⟩ := Y.out
              exact bodyPost_ret (v := .tuple #[.agg #[.int .i64 0, .int .i64 0, .int .i64 0, .int .i64 0], .int .i64 0]) (by simp [results, Try.results13, go_sem, y0, y1, y2, y3]) rfl ⟨0, 0, by rw [HLV.out, HLC.out], ((((((O1.out.trans UU.out).trans V.out).setCell HZ.out _).setCell HZ.out _).setCell HZ.out _).setCell HZ.out _)⟩
end Go.Proofs.Ytefffjlcfghniaa
