/- The law SessLoads, where the bytes are no more than 1048576. -/
import Derived.Test.YtefffjlcfghniaaS23
namespace Go.Proofs.Ytefffjlcfghniaa
open Go.ChangeShapes Go.WideShapes Go.ChangeAt Go.RowKit Go.Joins Go.Lib
set_option linter.unusedVariables false
set_option linter.unusedSimpArgs false
set_option maxRecDepth 20000
theorem byRow_list {w : World} {v : Value} {n : Nat} {x : Nat → Nat} (h : Pk.ByRow w v n x) : ∃ L : List Nat, L.length = n ∧ Pk.ByRow w v L.length (Pk.gd L) := by
  have hl : ((List.range n).map x).length = n := by simp
  refine ⟨(List.range n).map x, hl, ?_⟩
  rw [hl]
  rcases h with h | ⟨hn, hm, b, off, cap, hv, hc, hcp⟩
  · exact .inl h
  · refine .inr ⟨hn, hm, b, off, cap, hv, fun i hi => ?_, hcp⟩
    have e : Pk.gd ((List.range n).map x) i = x i := by
      unfold Pk.gd
      rw [List.getD_eq_getElem?_getD, List.getElem?_map, List.getElem?_range hi]
      rfl
    rw [e]
    exact hc i hi
theorem len_row {H : Type} {enc : TypeId × Value → H} {P : Program} {w : World} {base : Nat} {spare : Nat → Bool} {held : Bool} {fuel : Nat} {t e : TypeId} {a : Option Addr} {n c : Nat} {y : DataW H × List MemPlace} (ht : P.underlying t = some (.slice e)) (h : DataW.trod enc P w base spare held fuel t [.slice a n c] = some y) : n = 0 ∨ ∃ els sp, y.1 = .slice els sp ∧ els.length = n := by
  rcases DataW.trod_slice ht h with ⟨hcs, _⟩ | ⟨a', len, cap, elems, rest, m, _, hcs, hx, hb, hl, hm, hlen, hel, _, _⟩
  · simp at hcs; exact .inl hcs.2.1
  · simp at hcs
    obtain ⟨_, hln, _⟩ := hcs
    subst hx
    exact .inr ⟨_, _, rfl, by simp [hlen, hln]⟩
set_option maxHeartbeats 8000000 in
set_option maxRecDepth 20000 in
theorem loadsLaw (v0 : Value) (n : Nat) (x : Nat → Nat) (w : World) (h0 : Pk.ByRow w v0 n x) (hn : n ≤ 1048576) :
    Calls Try.prog 5 #[v0] w fun e w' => e = .returned (.bool true) ∧ Old w w' := by
  obtain ⟨L, hL, hB⟩ := byRow_list h0
  have HL := hid (show L.length ≤ 1048576 by omega)
  have HB := hid hB
  have hby := byt_of hB
  obtain ⟨pa, ca, rfl⟩ := byRow_slice hB
  have HRl := hid (fun (W : World) (u : Old w W) => rLoad_any L W _ (HB.out.up u) HL.out)
  clear h0 hB hL hn
  go_enter Try.func5, Try.ntmps5
  by_cases hT : ∃ Lm S, IsT L Lm S
  · obtain ⟨Lm, S, hI⟩ := hT
    have HLo := hid (fun (W : World) (u : Old w W) => show Calls Try.prog 9 #[.slice pa L.length ca] W fun e w' => ∃ tb Bs, e = .returned (.tuple #[.pointer (some ⟨tb, 0, none⟩), .int .i64 0]) ∧ TabIs w' tb Bs S Lm ∧ Old W w' from by
      have hb := HB.out.up u
      have := load_ok Lm S W (.slice pa L.length ca) (by rw [← hI.bytes]; exact hb) hI.few hI.rise hI.rng hI.kp
      refine this.mono ?_
      rintro e w' ⟨tb, Bs, rfl, t, _, u'⟩
      rw [LT_full hI.nil] at t
      exact ⟨tb, Bs, rfl, t, u'⟩)
    have HR1 := hid (fun (W : World) (u : Old w W) => (HRl.out W u).mono (R' := fun e w' => ∃ T p c, e = .returned (.tuple #[.agg #[.slice p T.length c], .bool true]) ∧ RRow w' (.slice p T.length c) T ∧ Rel T S Lm ∧ Old W w') (fun e w' h => by
      obtain ⟨u', ⟨T, p, c, Lm', S', h1, rfl, r, rl⟩ | ⟨hno, _⟩⟩ := h
      · obtain ⟨rfl, rfl⟩ := hI.uniq h1
        exact ⟨T, p, c, rfl, r, rl, u'⟩
      · exact absurd hI (hno Lm S)))
    have HI := hid hI
    clear HRl hI
    have HRow := hid (fun (W : World) (u : Old w W) => HB.out.up u)
    have HBy := hid (fun (tb : Nat) (Bs : List Nat) (W : World) (h : TabIs W tb Bs S Lm) => (bytes_any tb Bs S Lm W h HI.out.ok HI.out.vo).mono (R' := fun e w' => ∃ v', e = .returned v' ∧ Pk.OwnL W.heap.size w' v' L ∧ Old W w') (by
      rintro e w' ⟨v', S', rfl, h1, h2, o, u'⟩
      have := sort_one (List.Perm.refl S) h1 (List.Perm.refl _) (HI.out.rise.imp (fun h => by omega)) h2
      subst this
      rw [← HI.out.bytes] at o
      exact ⟨v', rfl, o, u'⟩))
    have HSB := hid (fun (vB : Value) (W : World) (h1 : Pk.ByRow W vB L.length (Pk.gd L)) (h2 : Pk.ByRow W (.slice pa L.length ca) L.length (Pk.gd L)) => sameBytesL vB (.slice pa L.length ca) L W h1 h2)
    have HOL := hid (fun (b : Nat) (W : World) (v : Value) (h : Pk.OwnL b W v L) => show Pk.ByRow W v L.length (Pk.gd L) from h.row)
    generalize L.length = ln at *
    go_upto_region 4 with (first | (go_at_call 7; refine (alive_any _).mono ?_; rintro e w1 ⟨rfl, o1⟩; have O1 := hid o1; clear o1) | (go_at_call 9; refine (HLo.out _ O1.out).mono ?_; rintro e w2 ⟨tb, Bs, rfl, t2, o2⟩; have T2 := hid t2; have O2 := hid (O1.out.trans o2); clear t2 o2))
    clear HLo
    go_upto_region 5 with (go_at_call 20; refine (HR1.out _ O2.out).mono ?_; rintro e w4 ⟨T, p, c, rfl, r4, rl4, o4⟩; have R4 := hid r4; have RL4 := hid rl4; have O4 := hid o4; clear o4 r4 rl4)
    have y0 : (w4.alloc (.cells #[.slice p T.length c] 42)).cell? ⟨w4.heap.size, 0, none⟩ = some (.slice p T.length c) := by simp
    have U4 := hid (show Old w4 (w4.alloc (.cells #[.slice p T.length c] 42)) from (Old.refl w4).alloc _)
    generalize w4.alloc (.cells #[.slice p T.length c] 42) = w5 at *
    generalize w4.heap.size = mb at *
    clear HR1
    have T5 := hid (T2.out.old (O4.out.trans U4.out))
    have O5 := hid (O2.out.trans (O4.out.trans U4.out))
    have HAl := hid (alike_any tb Bs S Lm (.slice p T.length c) T w5 T5.out HI.out.ok (R4.out.old U4.out) RL4.out HI.out.nod)
    clear T2 R4 RL4 O4 U4 O1 O2
    generalize T.length = tn at *
    go_wp2_with (first | (go_at_call 16; refine HAl.out.mono ?_; rintro e w6 ⟨rfl, u6⟩; have U6 := hid u6; clear u6) | (go_at_call 10; refine (HBy.out tb Bs _ (T5.out.old U6.out)).mono ?_; rintro e w7 ⟨vB, rfl, ob, u7⟩; have OB := hid ob; have U7 := hid (U6.out.trans u7); clear ob u7) | (go_at_call 12; refine (HSB.out vB _ (HOL.out _ _ _ OB.out) (HRow.out _ (O5.out.trans U7.out))).mono ?_; rintro e w8 ⟨rfl, u8⟩; have U8 := hid (U7.out.trans u8); clear u8))
    go_ret
    exact ⟨rfl, O5.out.trans U8.out⟩
  · have hno : ∀ Lm S, ¬ IsT L Lm S := fun Lm S h => hT ⟨Lm, S, h⟩
    have hld : ldT L = none := by
      cases e : ldT L with
      | none => rfl
      | some ss =>
        obtain ⟨h1, h2, h3, h4, h5, h6⟩ := ldT_form hby e
        exact absurd (⟨h2, h3, h4, h5, h6, h1⟩ : IsT L _ _) (hno _ _)
    have HLo := hid (fun (W : World) (u : Old w W) => (loadA L W _ (HB.out.up u)).mono (R' := fun e w' => e = .returned (.tuple #[.pointer none, .int .i64 30]) ∧ Old W w') (fun e w' h => by
      obtain ⟨u', ⟨ss, tb, Bs, q, _⟩ | ⟨_, rfl⟩⟩ := h
      · rw [hld] at q; cases q
      · exact ⟨rfl, u'⟩))
    have HR1 := hid (fun (W : World) (u : Old w W) => (HRl.out W u).mono (R' := fun e w' => (∃ p n c, e = .returned (.tuple #[.agg #[.slice p n c], .bool false])) ∧ Old W w') (fun e w' h => by
      obtain ⟨u', ⟨T, p, c, Lm', S', h1, _⟩ | ⟨_, q⟩⟩ := h
      · exact absurd h1 (hno _ _)
      · exact ⟨q, u'⟩))
    clear HRl hT hno hld hby HB HL
    generalize L.length = ln at *
    go_upto_region 4 with (first | (go_at_call 7; refine (alive_any _).mono ?_; rintro e w1 ⟨rfl, o1⟩; have O1 := hid o1; clear o1) | (go_at_call 9; refine (HLo.out _ O1.out).mono ?_; rintro e w2 ⟨rfl, o2⟩; have O2 := hid (O1.out.trans o2); clear o2))
    go_upto_region 5 with (go_at_call 20; refine (HR1.out _ O2.out).mono ?_; rintro e w4 ⟨⟨p, m, c, rfl⟩, o4⟩; have O4 := hid o4; clear o4)
    have U4 := hid (O4.out.alloc (.cells #[.slice p m c] 42))
    generalize w4.alloc (.cells #[.slice p m c] 42) = w5 at *
    clear HLo HR1
    go_wp2
    go_ret
    exact ⟨rfl, O2.out.trans U4.out⟩
end Go.Proofs.Ytefffjlcfghniaa
