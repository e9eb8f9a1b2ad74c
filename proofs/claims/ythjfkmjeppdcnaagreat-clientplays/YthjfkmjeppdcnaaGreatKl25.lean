/- The document's client beside the program's: its New, Add and Heard as they lie; conditions: submissions lie in memory. -/
import Derived.Test.YthjfkmjeppdcnaaGreatKl24
namespace Go.Proofs.YthjfkmjeppdcnaaGreat
open Go.RowKit Go.Lib
set_option linter.unusedVariables false
set_option linter.unusedSimpArgs false
set_option maxRecDepth 20000
theorem DcAt.new {base : Nat} {w : World} {mv : Value} {ss : Int} {n : Nat} {f : Nat → Int} (h : Ci.OwnI base w mv (msL f n)) : DcAt base mv (.slice none 0 0) (.slice none 0 0) [] (newC ss f n) w :=
 ⟨h, World.ownsRow_nil w base _ 2, World.ownsRow_nil w base _ 3, fun d q => absurd q (by simp), rfl⟩
theorem DcAt.addR {base : Nat} {ma oa ra : Option Addr} {mn mc on oc rn rc : Nat} {D : List Dt} {s : Cs} {w : World} (h : DcAt base (.slice ma mn mc) (.slice oa on oc) (.slice ra rn rc) D s w) (hok : CsOk s) (hlo : base ≤ w.heap.size) (x : Sb) (hx : x.Ok w) :
    Calls Tryz.prog 16 #[.agg #[.int .i64 s.ss, .int .i64 s.la, .slice ma mn mc, .int .i64 (tgt s), .slice oa on oc, .slice ra rn rc], .agg #[.int .i64 x.s1, .int .i64 x.s2, .int .i64 x.s3, .slice x.a1 x.n1 x.c1, .slice x.a2 x.n2 x.c2, .slice x.a3 x.n3 x.c3]] w fun e w' =>
     (addK s x ≠ 0 ∧ e = .returned (.tuple #[.agg #[.int .i64 s.ss, .int .i64 s.la, .slice ma mn mc, .int .i64 (tgt s), .slice oa on oc, .slice ra rn rc], .int .i64 0, .int .i64 (addK s x)]) ∧ Old w w') ∨
     (addK s x = 0 ∧ ∃ pa pn pc D', e = .returned (.tuple #[.agg #[.int .i64 s.ss, .int .i64 (s.la + 1), .slice ma mn mc, .int .i64 (tgt s), .slice pa pn pc, .slice ra rn rc], .int .i64 (s.la + 1), .int .i64 0]) ∧ (∀ p1 p2 p3 q1 q2 q3, DcAt base (.slice ma mn mc) (.slice pa pn pc) (.slice ra rn rc) D' (addC s (mkC (aSb s x) p1 p2 p3 q1 q2 q3)) w') ∧ (∀ g ∈ dbl (.slice ma mn mc) (.slice pa pn pc) (.slice ra rn rc) D', g ∈ dbl (.slice ma mn mc) (.slice oa on oc) (.slice ra rn rc) D ∨ w.heap.size ≤ g) ∧ Old w w') := by
 have hl := h.len
 obtain ⟨a0, c0, e0⟩ := h.opn.len
 simp only [Value.slice.injEq] at e0
 have hf := hok.few
 have hdl : 0 < D.length → 1 ≤ dlo D ∧ dlo D ≤ s.la := fun q => by
  rw [← lsO_dlo D s.op h.eq]
  cases ho : s.op with
  | nil => exact absurd (show D.length = 0 from by rw [hl, ho]; rfl) (by omega)
  | cons p O => exact hok.rg p (by rw [ho]; exact List.mem_cons_self)
 refine (rAdd_any s.ss s.la (tgt s) base ma oa ra mn on rn mc oc rc D x w h.opn e0.2.1 (by omega) hok.la hdl hx).mono ?_
 rw [addK_ra h.eq x]
 rintro e w' (⟨hz, rfl, u⟩ | ⟨hz, ov, d, rfl, o, dq, dB, ⟨b, hb, ob⟩, u⟩)
 ·exact .inl ⟨hz, rfl, u⟩
 ·obtain ⟨pa, pc, rfl⟩ := o.len
  refine .inr ⟨hz, pa, _, pc, D ++ [d], rfl, fun p1 p2 p3 q1 q2 q3 => ⟨h.mem.up u, own_low o hlo, own_old h.res u, fun d' q => ?_, ?_⟩, fun g q => ?_, u⟩
  ·rcases List.mem_append.1 q with z | z
   ·obtain ⟨b', hb', o'⟩ := h.by_ d' z
    exact ⟨b', hb', OwnL.old' o' u⟩
   ·simp only [List.mem_singleton] at z; subst z
    exact ⟨b, Nat.le_trans hlo hb, ob⟩
  ·rw [List.map_append, h.eq]
   show _ = (s.op ++ [(s.la + 1, mkC (aSb s x) p1 p2 p3 q1 q2 q3)]).map _
   rw [List.map_append]
   simp only [List.map_cons, List.map_nil, dq, dB]
   rfl
  ·rcases mem_dbl.1 q with z | z | z | ⟨d', hd, z⟩
   ·exact .inl (mem_dbl.2 (.inl z))
   ·exact .inr (World.ownsRow.lt o g z).1
   ·exact .inl (mem_dbl.2 (.inr (.inr (.inl z))))
   ·rcases List.mem_append.1 hd with y | y
    ·exact .inl (mem_dbl.2 (.inr (.inr (.inr ⟨d', y, z⟩))))
    ·simp only [List.mem_singleton] at y; subst y
     exact .inr (Nat.le_trans hb (OwnL.lt' ob g z).1)
theorem DcAt.heardR {base : Nat} {ma oa ra : Option Addr} {mn mc on oc rn rc : Nat} {D : List Dt} {s : Cs} {w : World} (h : DcAt base (.slice ma mn mc) (.slice oa on oc) (.slice ra rn rc) D s w) (hok : CsOk s) (hlo : base ≤ w.heap.size) (q vc vn e lead : Int) :
    Calls Tryz.prog 17 #[.agg #[.int .i64 s.ss, .int .i64 s.la, .slice ma mn mc, .int .i64 (tgt s), .slice oa on oc, .slice ra rn rc], .int .i64 q, .int .i64 vc, .int .i64 vn, .int .i64 e, .int .i64 lead] w fun x w' =>
     ∃ t' pa pn pc ta tn tc D', x = .returned (.agg #[.int .i64 s.ss, .int .i64 s.la, .slice ma mn mc, .int .i64 t', .slice pa pn pc, .slice ta tn tc]) ∧ (∀ k, LdAt s lead k → t' = tgt (heardC s q vc vn e k) ∧ DcAt base (.slice ma mn mc) (.slice pa pn pc) (.slice ta tn tc) D' (heardC s q vc vn e k) w') ∧ (∀ g ∈ dbl (.slice ma mn mc) (.slice pa pn pc) (.slice ta tn tc) D', g ∈ dbl (.slice ma mn mc) (.slice oa on oc) (.slice ra rn rc) D ∨ w.heap.size ≤ g) ∧ Old w w' := by
 have hl := h.len
 obtain ⟨a0, c0, e0⟩ := h.opn.len
 obtain ⟨a1, c1, e1⟩ := h.res.len
 obtain ⟨a2, c2, e2⟩ := h.mem.len
 simp only [Value.slice.injEq] at e0 e1 e2
 have hf := hok.few
 have m1 := hok.m1
 have hct := hok.ct
 have hla := hok.la
 refine (rHeard_any s.ss s.la (tgt s) q vc vn e lead base ma oa ra mn on rn mc oc rc D s.rs s.ms w (h.mem.rowL (by omega) e2.2.1.symm fun i hi => rfl) h.opn h.res e0.2.1 e1.2.1 e2.2.1 (by omega) (by omega) (by omega)).mono ?_
 rintro x w' ⟨t', ov, rv, rfl, u, z⟩
 have hne := all_ne q D s.op h.eq
 have same : (∀ k, LdAt s lead k → t' = tgt (heardC s q vc vn e k) ∧ (heardC s q vc vn e k).op = s.op ∧ (heardC s q vc vn e k).rs = s.rs) → ov = .slice oa on oc → rv = .slice ra rn rc → ∃ t'_1 pa pn pc ta tn tc D', (Ending.returned (.agg #[.int .i64 s.ss, .int .i64 s.la, .slice ma mn mc, .int .i64 t', ov, rv])) = .returned (.agg #[.int .i64 s.ss, .int .i64 s.la, .slice ma mn mc, .int .i64 t'_1, .slice pa pn pc, .slice ta tn tc]) ∧ (∀ k, LdAt s lead k → t'_1 = tgt (heardC s q vc vn e k) ∧ DcAt base (.slice ma mn mc) (.slice pa pn pc) (.slice ta tn tc) D' (heardC s q vc vn e k) w') ∧ (∀ g ∈ dbl (.slice ma mn mc) (.slice pa pn pc) (.slice ta tn tc) D', g ∈ dbl (.slice ma mn mc) (.slice oa on oc) (.slice ra rn rc) D ∨ w.heap.size ≤ g) ∧ Old w w' := by
  rintro hh rfl rfl
  refine ⟨t', oa, on, oc, ra, rn, rc, D, rfl, fun k hk => ⟨(hh k hk).1, ?_⟩, fun g y => .inl y, u⟩
  have hm := heardC_ms s q vc vn e k
  have h2 := h.old u
  exact ⟨by rw [hm.1]; exact h2.mem, h2.opn, by rw [(hh k hk).2.2]; exact h2.res, h2.by_, by rw [(hh k hk).2.1]; exact h2.eq⟩
 rcases z with ⟨hn, rfl, ho, hr⟩ | ⟨hn, he, rfl, ho, hr⟩ | ⟨hn, he, ht, ho, hr⟩
 ·have hn2 := hne.1 hn
  exact same (fun k hk => by unfold heardC; rw [if_pos hn2]; exact ⟨rfl, rfl, rfl⟩) ho hr
 ·have hn2 : ¬ ∀ p ∈ s.op, p.1 ≠ q := fun y => hn (hne.2 y)
  obtain ⟨pa, pc, rfl⟩ := ho.len
  obtain ⟨ta, tc, rfl⟩ := hr.len
  refine ⟨tgt s, pa, _, pc, ta, _, tc, flD q D, rfl, fun k hk => ?_, fun g y => ?_, u⟩
  ·have eh : heardC s q vc vn e k = { s with op := s.op.filter fun p => decide (p.1 ≠ q), rs := s.rs ++ [(q, vc, vn)] } := by unfold heardC; rw [if_neg hn2, if_pos he]
   rw [eh]
   refine ⟨rfl, h.mem.up u, own_low ho hlo, ownQ_low hr hlo, fun d y => ?_, flD_op q D s.op h.eq⟩
   obtain ⟨b, hb, o⟩ := h.by_ d (List.mem_filter.1 y).1
   exact ⟨b, hb, OwnL.old' o u⟩
  ·rcases mem_dbl.1 y with z | z | z | ⟨d', hd, z⟩
   ·exact .inl (mem_dbl.2 (.inl z))
   ·exact .inr (World.ownsRow.lt ho g z).1
   ·exact .inr (World.ownsRow.lt hr g z).1
   ·exact .inl (mem_dbl.2 (.inr (.inr (.inr ⟨d', (List.mem_filter.1 hd).1, z⟩))))
 ·have hn2 : ¬ ∀ p ∈ s.op, p.1 ≠ q := fun y => hn (hne.2 y)
  refine same (fun k hk => ⟨ht.trans (tgR_heard hok q vc vn e lead k hk hn2 he), ?_⟩) ho hr
  unfold heardC
  rw [if_neg hn2, if_neg he]
  split
  ·exact ⟨rfl, rfl⟩
  ·split <;> exact ⟨rfl, rfl⟩
end Go.Proofs.YthjfkmjeppdcnaaGreat
