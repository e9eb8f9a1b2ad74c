/- The law VersPlays at every number, row of calls, key and span; no condition. -/
import Derived.Test.YtbjikfcegiagjaaXy
import Derived.Test.YtbjikfcegiagjaaXm
namespace Go.Proofs.Ytbjikfcegiagjaa
open Go.RowKit Go.Lib
set_option linter.unusedVariables false
set_option linter.unusedSimpArgs false
set_option maxRecDepth 20000
theorem ent_len (args : Array Value) (w : World) : (callFunc 19 args).run Try.prog w = .ok (.enter 19 args) w := by kernel_rfl
theorem ent_rat (args : Array Value) (w : World) : (callFunc 15 args).run Try.prog w = .ok (.enter 15 args) w := by kernel_rfl
theorem ent_rover (args : Array Value) (w : World) : (callFunc 21 args).run Try.prog w = .ok (.enter 21 args) w := by kernel_rfl
theorem ent_drop (args : Array Value) (w : World) : (callFunc 17 args).run Try.prog w = .ok (.enter 17 args) w := by kernel_rfl
theorem ent_all (args : Array Value) (w : World) : (callFunc 22 args).run Try.prog w = .ok (.enter 22 args) w := by kernel_rfl
theorem ent_rall (args : Array Value) (w : World) : (callFunc 23 args).run Try.prog w = .ok (.enter 23 args) w := by kernel_rfl
/-- The document's table in its variable. -/
def BoxM (mb : Nat) (most : Int) (v : Value) (w : World) : Prop := w.cell? ⟨mb, 0, none⟩ = some (.int .i64 most) ∧ w.cell? ⟨mb, 1, none⟩ = some v ∧ w.frozen? ⟨mb, 0, none⟩ = false ∧ w.frozen? ⟨mb, 1, none⟩ = false
theorem BoxM.old {mb : Nat} {most : Int} {v : Value} {w w' : World} (h : BoxM mb most v w) (u : Old w w') : BoxM mb most v w' := ⟨u.keep h.1, u.keep h.2.1, u.keepF h.1 h.2.2.1, u.keepF h.2.1 h.2.2.2⟩
theorem BoxM.chg {mb : Nat} {most : Int} {v : Value} {S : List Nat} {w w' : World} (h : BoxM mb most v w) (u : Chg S w w') (hn : mb ∉ S) : BoxM mb most v w' := ⟨u.cell h.1 hn, u.cell h.2.1 hn, u.keepF h.1 h.2.2.1 hn, u.keepF h.2.1 h.2.2.2 hn⟩
/-- The two tables in the middle of the rounds. -/
structure Play (tb mb : Nat) (most : Int) (w0 : World) (v : Value) (L : List It) (vM : Value) (M : List It) (w : World) : Prop where
  tab : TabAt tb w tb most v L
  good : Good L
  len : (L.length : Int) ≤ most
  perm : M.Perm L
  own : OwnM tb w vM M
  box : BoxM mb most vM w
  ap : ∀ g, g ∈ blks tb v → g ∉ blks mb vM
  ne : vM.ownBlock ≠ some mb
  old : Old w0 w
theorem Play.to {tb mb : Nat} {most : Int} {w0 : World} {v : Value} {L : List It} {vM : Value} {M : List It} {w w' : World} (h : Play tb mb most w0 v L vM M w) (u : Old w w') : Play tb mb most w0 v L vM M w' := ⟨h.tab.old u, h.good, h.len, h.perm, h.own.old u, h.box.old u, h.ap, h.ne, h.old.trans u⟩
theorem Play.w {tb mb : Nat} {most : Int} {w0 : World} {v : Value} {L : List It} {vM : Value} {M : List It} {w : World} (h : Play tb mb most w0 v L vM M w) : ∀ x ∈ M, Fl.W x.k := fun x hx => (h.good.2 x (h.perm.mem_iff.1 hx)).1
/-- The program's table has turned. -/
theorem Play.turn {tb mb : Nat} {most : Int} {w0 : World} {v : Value} {L : List It} {vM : Value} {M : List It} {w w' : World} (h : Play tb mb most w0 v L vM M w) (c : Chg (blks tb v) w w') (hb : tb = w0.heap.size) : OwnM tb w' vM M ∧ BoxM mb most vM w' ∧ Old w0 w' :=
  ⟨h.own.chg c (fun g hg e => h.ap g e (mem_blks.2 (.inr hg))), h.box.chg c (fun e => h.ap mb e (mem_blks.2 (.inl rfl))), h.old.below (Below.mono (h.tab.below c) (by omega))⟩
/-- A new value in the document's variable. -/
theorem box_put {tb mb : Nat} {most : Int} {w0 : World} {v : Value} {L : List It} {vM vM' : Value} {M' : List It} {w w' : World} (e : (w.setCell ⟨mb, 0, none⟩ (.int .i64 most)).setCell ⟨mb, 1, none⟩ vM' = w') (tab : TabAt tb w tb most v L) (own : OwnM tb w vM' M') (box : BoxM mb most vM w) (hmb : mb ∉ blks tb v) (ne : vM'.ownBlock ≠ some mb) (old : Old w0 w) (hb : w0.heap.size ≤ mb) :
    TabAt tb w' tb most v L ∧ OwnM tb w' vM' M' ∧ BoxM mb most vM' w' ∧ Old w0 w' ∧ Chg [mb] w w' := by
  subst e
  have c : Chg [mb] w ((w.setCell ⟨mb, 0, none⟩ (.int .i64 most)).setCell ⟨mb, 1, none⟩ vM') := (Chg.set w ⟨mb, 0, none⟩ _ (by simp)).trans (Chg.set _ ⟨mb, 1, none⟩ _ (by simp))
  have k0 : (w.setCell ⟨mb, 0, none⟩ (.int .i64 most)).cell? ⟨mb, 1, none⟩ = some vM := by rw [World.cell?_setCell_other _ _ _ _ (by simp)]; exact box.2.1
  refine ⟨tab.chg c (fun e => ?_) (fun g hg e => ?_), own.chg c (fun g hg e => ?_), ⟨?_, World.cell?_setCell_same _ _ _ k0, ?_, ?_⟩, ?_, c⟩
  · simp at e; exact hmb (mem_blks.2 (.inl e.symm))
  · simp at e; subst e; exact hmb (mem_blks.2 (.inr hg))
  · simp at e; subst e; exact ne hg
  · rw [World.cell?_setCell_other _ _ _ _ (by simp)]; exact World.cell?_setCell_same _ _ _ box.1
  · rw [World.frozen?_setCell, World.frozen?_setCell]; exact box.2.2.1
  · rw [World.frozen?_setCell, World.frozen?_setCell]; exact box.2.2.2
  · exact (old.setCell (p := ⟨mb, 0, none⟩) hb _).setCell (p := ⟨mb, 1, none⟩) hb _
theorem box_nil {tb mb : Nat} {most : Int} {w0 : World} {v : Value} {L : List It} {vM : Value} {w w' : World} (e : w.setCell ⟨mb, 1, none⟩ (.slice none 0 0) = w') (tab : TabAt tb w tb most v L) (box : BoxM mb most vM w) (hmb : mb ∉ blks tb v) (old : Old w0 w) (hb : w0.heap.size ≤ mb) :
    TabAt tb w' tb most v L ∧ OwnM tb w' (.slice none 0 0) [] ∧ BoxM mb most (.slice none 0 0) w' ∧ Old w0 w' := by
  subst e
  have c : Chg [mb] w (w.setCell ⟨mb, 1, none⟩ (.slice none 0 0)) := Chg.set _ ⟨mb, 1, none⟩ _ (by simp)
  refine ⟨tab.chg c (fun e => ?_) (fun g hg e => ?_), OwnM.nil _ _, ⟨?_, World.cell?_setCell_same _ _ _ box.2.1, ?_, ?_⟩, old.setCell (p := ⟨mb, 1, none⟩) hb _⟩
  · simp at e; exact hmb (mem_blks.2 (.inl e.symm))
  · simp at e; subst e; exact hmb (mem_blks.2 (.inr hg))
  · rw [World.cell?_setCell_other _ _ _ _ (by simp)]; exact box.1
  · rw [World.frozen?_setCell]; exact box.2.2.1
  · rw [World.frozen?_setCell]; exact box.2.2.2
theorem keep_good {L : List It} (h : Good L) (m : Int) : Good (keepL m L) := ⟨h.1.filter _, fun x hx => h.2 x (List.mem_filter.1 hx).1⟩
def PlayI (tb mb : Nat) (most : Int) (w0 w : World) : Prop := ∃ v L vM M, Play tb mb most w0 v L vM M w
theorem play_new (tb : Nat) (most : Int) (hm : 0 ≤ most) (w w3 w4 : World) (mb : Nat) (hmb : w3.heap.size = mb) (e : w3.alloc (.cells #[.int .i64 most, .slice none 0 0] 31) = w4) (t : TabAt tb w3 tb most (.slice none 0 0) []) (u : Old w w3) : PlayI tb mb most w w4 ∧ tb < mb := by
  subst e hmb
  have hh := alloc_heap w3 (.cells #[.int .i64 most, .slice none 0 0] 31) _ rfl
  have u2 := (Old.refl w3).alloc (.cells #[.int .i64 most, .slice none 0 0] 31)
  have hl := t.lt
  refine ⟨⟨_, [], .slice none 0 0, [], t.old u2, good0, by simpa using hm, List.Perm.refl _, OwnM.nil _ _, ⟨by rw [cell_of_heap hh]; rfl, by rw [cell_of_heap hh]; rfl, frozen_of_heap hh _, frozen_of_heap hh _⟩, fun g hg hg2 => ?_, by simp [Value.ownBlock], u.trans u2⟩, hl⟩
  rcases mem_blks.1 hg with e1 | e1
  · rcases mem_blks.1 hg2 with e2 | e2
    · omega
    · simp [Value.ownBlock] at e2
  · simp [Value.ownBlock] at e1
abbrev SB (mb : Nat) (most : Int) (a : Option Addr) (n c sb x y : Nat) (p q : Bool) (w : World) : Prop := SpAt sb x y p q w ∧ w.cell? ⟨mb, 0, none⟩ = some (.int .i64 most) ∧ w.cell? ⟨mb, 1, none⟩ = some (.slice a n c)
theorem SB.old {mb : Nat} {most : Int} {a : Option Addr} {n c sb x y : Nat} {p q : Bool} {w w' : World} (u : Old w w') (h : SB mb most a n c sb x y p q w) : SB mb most a n c sb x y p q w' := ⟨⟨u.keep h.1.1, u.keep h.1.2.1, u.keep h.1.2.2.1, u.keep h.1.2.2.2⟩, u.keep h.2.1, u.keep h.2.2⟩
abbrev SO (mb : Nat) (most : Int) (a : Option Addr) (n c ob : Nat) (z : Opv) (w : World) : Prop := w.cell? ⟨ob, 1, none⟩ = some (.float .f64 z.k) ∧ w.cell? ⟨ob, 2, none⟩ = some (.int .i64 z.n) ∧ w.cell? ⟨mb, 0, none⟩ = some (.int .i64 most) ∧ w.cell? ⟨mb, 1, none⟩ = some (.slice a n c)
theorem SO.old {mb : Nat} {most : Int} {a : Option Addr} {n c ob : Nat} {z : Opv} {w w' : World} (u : Old w w') (h : SO mb most a n c ob z w) : SO mb most a n c ob z w' := ⟨u.keep h.1, u.keep h.2.1, u.keep h.2.2.1, u.keep h.2.2.2⟩
theorem SO.chg {mb : Nat} {most : Int} {a : Option Addr} {n c ob : Nat} {z : Opv} {S : List Nat} {w w' : World} (u : Chg S w w') (h : SO mb most a n c ob z w) (h1 : ob ∉ S) (h2 : mb ∉ S) : SO mb most a n c ob z w' := ⟨u.cell h.1 h1, u.cell h.2.1 h1, u.cell h.2.2.1 h2, u.cell h.2.2.2 h2⟩
abbrev S32 (g gB j : Nat) (z : It) (w : World) : Prop := w.cell? ⟨g, j * 2, none⟩ = some (.float .f64 z.k) ∧ w.cell? ⟨g, j * 2 + 1, none⟩ = some (.int .i64 z.n) ∧ w.cell? ⟨gB, j * 2, none⟩ = some (.float .f64 z.k) ∧ w.cell? ⟨gB, j * 2 + 1, none⟩ = some (.int .i64 z.n)
theorem S32.old {g gB j : Nat} {z : It} {w w' : World} (u : Old w w') (h : S32 g gB j z w) : S32 g gB j z w' := ⟨u.keep h.1, u.keep h.2.1, u.keep h.2.2.1, u.keep h.2.2.2⟩
theorem Play.lens {tb mb : Nat} {most : Int} {w0 : World} {v : Value} {L : List It} {vM : Value} {M : List It} {w : World} (h : Play tb mb most w0 v L vM M w) : ∃ a c, vM = .slice a L.length c := by
  obtain ⟨a, c, e⟩ := h.own.len
  exact ⟨a, c, by rw [e, h.perm.length_eq]⟩
attribute [local go_sem] run_bits run_frombits run_store_float
set_option maxHeartbeats 16000000 in
set_option maxRecDepth 20000 in
theorem playsLaw (m0 : Int) (vs : Value) (N : Nat) (f : Nat → Opv) (key : Nat) (hkey : Fl.W key) (x y : Nat) (p q : Bool) (hx : Fl.W x) (hy : Fl.W y) (w0 : World) (h : ORow w0 vs N f) :
    Calls Try.prog 3 #[.int .i64 m0, vs, .float .f64 key, .agg #[.float .f64 x, .float .f64 y, .bool p, .bool q]] w0 fun e w' => e = .returned (.bool true) ∧ Old w0 w' := by
  have hV := hid ((Old.refl w0).alloc (.cells #[.float .f64 x, .float .f64 y, .bool p, .bool q] 25))
  have HS := hid (show SpAt w0.heap.size x y p q (w0.alloc (.cells #[.float .f64 x, .float .f64 y, .bool p, .bool q] 25)) by simp [SpAt])
  have HO := hid (h.old hV.out)
  obtain ⟨hbN, sa, sc, hvs, hsc, _⟩ := h
  subst hvs
  have hm64 := hid (show mostC m0 ≤ 64 by unfold mostC; omega)
  have hm0 := hid (show 0 ≤ mostC m0 by unfold mostC; omega)
  have HN := hid (fun W => new_any m0 W)
  have HRN := hid (fun W => rNew_any m0 W)
  generalize mostC m0 = most at *
  go_enter Try.func3, Try.ntmps3
  go_upto_region 1 with fail
  generalize w0.alloc (.cells #[.float .f64 x, .float .f64 y, .bool p, .bool q] 25) = w at *
  generalize w0.heap.size = sb at *
  go_upto_region 4 with (first | (go_at_call 9; refine (HN.out _).mono ?_; rintro e w1 ⟨rfl, t1, u1⟩; have T1 := hid t1; have U1 := hid u1; clear t1 u1) | (go_at_call 10; refine (alive_any _).mono ?_; rintro e w2 ⟨rfl, u2⟩; have T2 := hid (T1.out.old u2); have U2 := hid (U1.out.trans u2); clear u2))
  clear T1 U1 HN
  generalize htb : w.heap.size = tb at *
  have HTB := hid htb
  clear htb
  go_upto_region 5 with (first | (go_at_call 11; refine (HRN.out _).mono ?_; rintro e w3 ⟨rfl, u3⟩; have T3 := hid (T2.out.old u3); have U3 := hid (U2.out.trans u3); clear u3))
  generalize hmb : w3.heap.size = mb at *
  generalize hw4 : w3.alloc (.cells #[.int .i64 most, .slice none 0 0] 31) = w4 at *
  have HI := hid (play_new tb most hm0.out w w3 w4 mb hmb hw4 T3.out U3.out)
  have HMB := hid (show w.heap.size ≤ mb by have := HI.out.2; have := HTB.out; omega)
  have HTM := hid HI.out.2
  have HI0 := hid HI.out.1
  clear T2 T3 U2 U3 HRN hmb hw4 HI hbN hsc
  go_wp2
  go_loopw [32] (fun i wr => ∃ k : Nat, k ≤ N ∧ i = .int .i64 (k : Nat) ∧ PlayI tb mb most w wr) (fun i _ => N - (intOf i).toNat)
  case atStart => exact ⟨0, Nat.zero_le _, rfl, HI0.out⟩
  case round =>
    obtain ⟨k, hk, rfl, v, L, vM, M, hP⟩ := hrel
    obtain ⟨a, c, hvM⟩ := hP.lens
    subst hvM
    have P0 := hid hP
    clear hP HI0
    have hlL : L.length ≤ 1000000 := by have := P0.out.len; have := hm64.out; omega
    have hlM : M.length ≤ 1000000 := by rw [P0.out.perm.length_eq]; exact hlL
    by_cases hlt : k < N
    · obtain ⟨_, a', c', e', _, hc⟩ := HO.out.old P0.out.old
      obtain ⟨b', off, hsa, hW, o0, o1, o2⟩ := hc k hlt
      simp only [Value.slice.injEq] at e'
      obtain ⟨rfl, _, rfl⟩ := e'
      subst hsa
      have l1 : (0 : Int) ≤ (k : Int) := by omega
      have l2 : (k : Int) < (N : Int) := by omega
      clear hc
      generalize hfk : f k = z at *
      go_upto_region 8 with fail
      have B4 := hid (op_new wr z _ rfl)
      have U4 := hid ((Old.refl wr).alloc (.cells #[.int .i64 z.kd, .float .f64 z.k, .int .i64 z.n] 34))
      have P4 := hid (P0.out.to U4.out)
      have hob := hid (show wr.heap.size ∉ blks tb v ∧ wr.heap.size ≠ mb from ⟨fun e => by have := (P0.out.tab.blk _ e).2; omega, fun e => by have := World.block_lt_of_cell? wr _ P0.out.box.1; simp at this; omega⟩)
      clear o0 o1 o2 P0 hfk
      generalize wr.alloc (.cells #[.int .i64 z.kd, .float .f64 z.k, .int .i64 z.n] 34) = w4 at *
      generalize wr.heap.size = ob at *
      obtain ⟨o0, o1, o2⟩ := B4.out
      have hmbn := hid (show mb ∉ blks tb v from fun e => P4.out.ap mb e (mem_blks.2 (.inl rfl)))
      by_cases k1 : z.kd = 1
      · have j1 : (z.kd == 1) = true := by rw [beq_iff_eq]; exact k1
        clear k1
        have HPP := hid (put_perm P4.out.perm P4.out.good z.k hW z.n most)
        have HPt := hid (put_any tb tb most z.n v L z.k hW w4 P4.out.tab P4.out.good hlL)
        have HR := hid (fun (W : World) (own : OwnM tb W (.slice a L.length c) M) (hb : tb ≤ W.heap.size) => rPut_any tb most z.n (.slice a L.length c) M z.k hW P4.out.w W own hb hlM)
        rw [HPP.out.1] at HR
        have HG5 := hid (put_good (n := z.n) (most := most) hW P4.out.good)
        have HM5 := hid (put_most (key := z.k) (n := z.n) P4.out.good P4.out.len)
        generalize (putM z.k z.n most M).2 = M1 at *
        have HPe := hid HPP.out.2
        clear HPP
        generalize (putR z.k z.n most L).2 = L1 at *
        generalize (putR z.k z.n most L).1 = ec at *
        go_upto_region 11 with (first | (go_at_call 12; refine HPt.out.mono ?_; rintro e w5 ⟨v5, rfl, t5, c5, n5⟩; have T5 := hid t5; have C5 := hid c5; have N5 := hid n5; clear t5 c5 n5))
        have R5 := hid (P4.out.turn C5.out HTB.out.symm)
        have p1 := C5.out.cell o1 hob.out.1
        have p2 := C5.out.cell o2 hob.out.1
        obtain ⟨b0, b1, f0, f1⟩ := R5.out.2.1
        have HMB5 := hid (show mb ∉ blks tb v5 from fun e => by
          rcases mem_blks.1 e with q | q
          · have := HTM.out; omega
          · rcases N5.out mb q with r | r
            · exact hmbn.out (mem_blks.2 (.inr r))
            · have := World.block_lt_of_cell? w4 _ P4.out.box.1; simp at this; omega)
        have HAP5 := hid (show ∀ g, g ∈ blks tb v5 → g ∉ blks mb (.slice a L.length c) from fun g hg hg2 => by
          rcases mem_blks.1 hg with q | q
          · exact P4.out.ap g (mem_blks.2 (.inl q)) hg2
          · rcases N5.out g q with r | r
            · exact P4.out.ap g (mem_blks.2 (.inr r)) hg2
            · rcases mem_blks.1 hg2 with s | s
              · have := World.block_lt_of_cell? w4 _ P4.out.box.1; simp at this; omega
              · have := (P4.out.own.lt g s).2; omega)
        have HNE := hid P4.out.ne
        have HBs := hid (show tb ≤ w5.heap.size from Nat.le_of_lt T5.out.lt)
        clear o0 o1 o2 B4 P4 HPt C5 N5
        go_upto_region 12 with (first | (go_at_call 13; refine (HR.out _ R5.out.1 HBs.out).mono ?_; rintro e w6 ⟨v6, rfl, om, u6, n6⟩; obtain ⟨a6, c6, hv6⟩ := om.len; rw [HPe.out.length_eq] at hv6; subst hv6; have O6 := hid om; have U6 := hid u6; have N6 := hid n6; clear om u6 n6))
        have U7 := hid (U6.out.alloc (.cells #[.int .i64 most, .slice a6 L1.length c6] 31))
        have O7 := hid (O6.out.old ((Old.refl w6).alloc (.cells #[.int .i64 most, .slice a6 L1.length c6] 31)))
        have hh := alloc_heap w6 (.cells #[.int .i64 most, .slice a6 L1.length c6] 31) _ rfl
        have r0 : (w6.alloc (.cells #[.int .i64 most, .slice a6 L1.length c6] 31)).cell? ⟨w6.heap.size, 0, none⟩ = some (.int .i64 most) := by rw [cell_of_heap hh]; rfl
        have r1 : (w6.alloc (.cells #[.int .i64 most, .slice a6 L1.length c6] 31)).cell? ⟨w6.heap.size, 1, none⟩ = some (.slice a6 L1.length c6) := by rw [cell_of_heap hh]; rfl
        clear hh
        generalize w6.alloc (.cells #[.int .i64 most, .slice a6 L1.length c6] 31) = w7 at *
        generalize w6.heap.size = nb at *
        have q0 := U7.out.keep b0
        have q1 := U7.out.keep b1
        have g0 := U7.out.keepF b0 f0
        have g1 := U7.out.keepF b1 f1
        clear b0 b1 f0 f1 O6 U6
        go_upto_region 13 with fail
        have HN6 := hid (show (Value.slice a6 L1.length c6).ownBlock ≠ some mb from fun e => by
          rcases N6.out mb e with r | r
          · exact HNE.out r
          · have := World.block_lt_of_cell? w5 _ R5.out.2.1.1; simp at this; omega)
        generalize hw8 : (w7.setCell ⟨mb, 0, none⟩ (.int .i64 most)).setCell ⟨mb, 1, none⟩ (.slice a6 L1.length c6) = w8 at *
        have K8 := hid (box_put hw8 (T5.out.old U7.out) O7.out (R5.out.2.1.old U7.out) HMB5.out HN6.out (R5.out.2.2.trans U7.out) HMB.out)
        clear hw8
        have P8 := hid (show Play tb mb most w v5 L1 (.slice a6 L1.length c6) M1 w8 from ⟨K8.out.1, HG5.out, HM5.out, HPe.out, K8.out.2.1, K8.out.2.2.1, fun g hg hg2 => by
          rcases mem_blks.1 hg2 with s | s
          · exact HAP5.out g hg (mem_blks.2 (.inl s))
          · rcases N6.out g s with r | r
            · exact HAP5.out g hg (mem_blks.2 (.inr r))
            · have := (T5.out.blk g hg).2; omega, HN6.out, K8.out.2.2.2.1⟩)
        have hnn : ob ∉ [mb] := by simp; exact hob.out.2
        have S8 := hid (show SO mb most a6 L1.length c6 ob z w8 from ⟨K8.out.2.2.2.2.cell (U7.out.keep p1) hnn, K8.out.2.2.2.2.cell (U7.out.keep p2) hnn, P8.out.box.1, P8.out.box.2.1⟩)
        have hl1 : L1.length ≤ 1000000 := by have := P8.out.len; have := hm64.out; omega
        have hl2 : M1.length ≤ 1000000 := by rw [P8.out.perm.length_eq]; exact hl1
        have HA1 := hid (fun (W : World) (u : Old w8 W) => at_any tb tb most v5 L1 z.k hW W (P8.out.tab.old u) P8.out.good hl1)
        have HA2 := hid (fun (W : World) (u : Old w8 W) => rAt_any tb most (.slice a6 L1.length c6) M1 z.k hW P8.out.w W (P8.out.own.old u) hl2)
        rw [at_perm P8.out.perm P8.out.good.1] at HA2
        generalize atL (Fl.code z.k) L1 = A1 at *
        clear p1 p2 q0 q1 g0 g1 r0 r1 HAP5 HNE HBs N6 HN6 K8 O7 U7 R5 T5 HMB5 HG5 HM5 HPe HR hnn
        refine wp_region_noPanic ?_
        refine wp_region_held_drew (S := SO mb most a6 L1.length c6 ob z) (by kernel_rfl) ?_ (fun hHeld => ?_)
        · exact SO.old ((Old.refl _).drew) S8.out
        (try simp only [Act.put]); (try simp only [List.setIfInBounds_toArray]); (try simp only [List.set_cons_succ]); (try simp only [List.set_cons_zero])
        clear hHeld
        refine wpAnyH_take (i := 0) (oi := { dst := some 56, op := Op.move (Operand.tmp 13), type := 35, pos := "law.go:43", after := #[], guard := none }) (v := ?vk1) rfl (by kernel_rfl) (by kernel_rfl) (by kernel_rfl) (fun _ _ _ h => h) (Or.inl ⟨by rfl, ?hk1⟩) (SO.old ((Old.refl w8).drew) S8.out) ?rk1
        case hk1 => (intro wz hSw; (try dsimp only at hSw); go_simp; try with_reducible rfl)
        (try simp only [Act.put]); (try simp only [List.setIfInBounds_toArray]); (try simp only [List.set_cons_succ]); (try simp only [List.set_cons_zero])
        refine wpAnyH_take (i := 1) (oi := { dst := some 57, op := Op.move (Operand.tmp 15), type := 3, pos := "law.go:43", after := #[], guard := none }) (v := ?vk2) rfl (by kernel_rfl) (by kernel_rfl) (by kernel_rfl) (fun _ _ _ h => h) (Or.inl ⟨by rfl, ?hk2⟩) (SO.old ((Old.refl w8).drew) S8.out) ?rk2
        case hk2 => (intro wz hSw; (try dsimp only at hSw); go_simp; try with_reducible rfl)
        (try simp only [Act.put]); (try simp only [List.setIfInBounds_toArray]); (try simp only [List.set_cons_succ]); (try simp only [List.set_cons_zero])
        refine wpAnyH_take (i := 2) (oi := { dst := some 58, op := Op.binOp BinOp.neq 3 (Operand.tmp 56) (Operand.tmp 57) 3, type := 4, pos := "law.go:43", after := #[{ on := 0, ground := Ground.data }, { on := 1, ground := Ground.data }], guard := none }) (v := ?vk3) rfl (by kernel_rfl) (by kernel_rfl) (by kernel_rfl) (fun _ _ _ h => h) (Or.inl ⟨by rfl, ?hk3⟩) (SO.old ((Old.refl w8).drew) S8.out) ?rk3
        case hk3 => (intro wz hSw; (try dsimp only at hSw); go_simp; try with_reducible rfl)
        (try simp only [Act.put]); (try simp only [List.setIfInBounds_toArray]); (try simp only [List.set_cons_succ]); (try simp only [List.set_cons_zero])
        refine wpAnyH_take (i := 3) (oi := { dst := some 59, op := Op.move (Operand.tmp 58), type := 4, pos := "law.go:43", after := #[{ on := 2, ground := Ground.data }], guard := none }) (v := ?vk4) rfl (by kernel_rfl) (by kernel_rfl) (by kernel_rfl) (fun _ _ _ h => h) (Or.inl ⟨by rfl, ?hk4⟩) (SO.old ((Old.refl w8).drew) S8.out) ?rk4
        case hk4 => (intro wz hSw; (try dsimp only at hSw); go_simp; try with_reducible rfl)
        (try simp only [Act.put]); (try simp only [List.setIfInBounds_toArray]); (try simp only [List.set_cons_succ]); (try simp only [List.set_cons_zero])
        refine wpAnyH_take (i := 4) (oi := { dst := some 60, op := Op.move (Operand.tmp 9), type := 26, pos := "law.go:43", after := #[{ on := 3, ground := Ground.guard }], guard := some (3, false) }) (v := ?vk5) rfl (by kernel_rfl) (by kernel_rfl) (by kernel_rfl) (fun _ _ _ h => h) (Or.inl ⟨by rfl, ?hk5⟩) (SO.old ((Old.refl w8).drew) S8.out) ?rk5
        case hk5 => (intro wz hSw; (try dsimp only at hSw); go_simp; try with_reducible rfl)
        (try simp only [Act.put]); (try simp only [List.setIfInBounds_toArray]); (try simp only [List.set_cons_succ]); (try simp only [List.set_cons_zero])
        refine wpAnyH_take (i := 5) (oi := { dst := some 61, op := Op.fieldAddr 34 (Operand.tmp 12) 1, type := 0, pos := "law.go:43", after := #[{ on := 3, ground := Ground.guard }], guard := some (3, false) }) (v := ?vk6) rfl (by kernel_rfl) (by kernel_rfl) (by kernel_rfl) (fun _ _ _ h => h) (Or.inl ⟨by rfl, ?hk6⟩) (SO.old ((Old.refl w8).drew) S8.out) ?rk6
        case hk6 => (intro wz hSw; (try dsimp only at hSw); go_simp; try with_reducible rfl)
        (try simp only [Act.put]); (try simp only [List.setIfInBounds_toArray]); (try simp only [List.set_cons_succ]); (try simp only [List.set_cons_zero])
        refine wpAnyH_take (i := 6) (oi := { dst := some 62, op := Op.load 23 (Operand.tmp 61), type := 23, pos := "law.go:43", after := #[{ on := 5, ground := Ground.data }, { on := 3, ground := Ground.guard }], guard := some (3, false) }) (v := ?vk7) rfl (by kernel_rfl) (by kernel_rfl) (by kernel_rfl) (fun _ _ _ h => h) (Or.inl ⟨by rfl, ?hk7⟩) (SO.old ((Old.refl w8).drew) S8.out) ?rk7
        case hk7 => (intro wz hSw; (try dsimp only at hSw); go_simp; try with_reducible rfl)
        (try simp only [Act.put]); (try simp only [List.setIfInBounds_toArray]); (try simp only [List.set_cons_succ]); (try simp only [List.set_cons_zero])
        refine wpAnyH_take (i := 8) (oi := { dst := some 64, op := Op.load 31 (Operand.tmp 10), type := 31, pos := "law.go:43", after := #[{ on := 3, ground := Ground.guard }], guard := some (3, false) }) (v := ?vk8) rfl (by kernel_rfl) (by kernel_rfl) (by kernel_rfl) (fun _ _ _ h => h) (Or.inl ⟨by rfl, ?hk8⟩) (SO.old ((Old.refl w8).drew) S8.out) ?rk8
        case hk8 => (intro wz hSw; (try dsimp only at hSw); go_simp; try with_reducible rfl)
        (try simp only [Act.put]); (try simp only [List.setIfInBounds_toArray]); (try simp only [List.set_cons_succ]); (try simp only [List.set_cons_zero])
        refine wpAnyH_take (i := 9) (oi := { dst := some 65, op := Op.fieldAddr 34 (Operand.tmp 12) 1, type := 0, pos := "law.go:43", after := #[{ on := 3, ground := Ground.guard }], guard := some (3, false) }) (v := ?vk9) rfl (by kernel_rfl) (by kernel_rfl) (by kernel_rfl) (fun _ _ _ h => h) (Or.inl ⟨by rfl, ?hk9⟩) (SO.old ((Old.refl w8).drew) S8.out) ?rk9
        case hk9 => (intro wz hSw; (try dsimp only at hSw); go_simp; try with_reducible rfl)
        (try simp only [Act.put]); (try simp only [List.setIfInBounds_toArray]); (try simp only [List.set_cons_succ]); (try simp only [List.set_cons_zero])
        refine wpAnyH_take (i := 10) (oi := { dst := some 66, op := Op.load 23 (Operand.tmp 65), type := 23, pos := "law.go:43", after := #[{ on := 9, ground := Ground.data }, { on := 3, ground := Ground.guard }], guard := some (3, false) }) (v := ?vk10) rfl (by kernel_rfl) (by kernel_rfl) (by kernel_rfl) (fun _ _ _ h => h) (Or.inl ⟨by rfl, ?hk10⟩) (SO.old ((Old.refl w8).drew) S8.out) ?rk10
        case hk10 => (intro wz hSw; (try dsimp only at hSw); go_simp; try with_reducible rfl)
        (try simp only [Act.put]); (try simp only [List.setIfInBounds_toArray]); (try simp only [List.set_cons_succ]); (try simp only [List.set_cons_zero])
        refine wpAnyH_ready (rs := [7]) (by kernel_rfl) (by simp) ?_
        refine AllReadyH.cons (o := { dst := some 63, op := Op.call { callee := Callee.value (Operand.func 14), args := #[Operand.tmp 60, Operand.tmp 62], argTypes := #[26, 23] }, type := 2, pos := "law.go:43", after := #[{ on := 4, ground := Ground.data }, { on := 6, ground := Ground.data }, { on := 3, ground := Ground.chain }, { on := 3, ground := Ground.guard }], guard := some (3, false) }) rfl (fun K hK => ?_) AllReadyH.nil
        refine wantCall2 ?_ 14 (.tmp 60) (.tmp 62) #[26, 23] ?_ (.pointer (some ⟨tb, 0, none⟩)) (.float .f64 z.k) ?_ ?_ ?_ (ent_at _ _) ?_
        · rfl
        · rfl
        · rfl
        · rfl
        · rfl
        refine (HA1.out _ ((Old.refl w8).drew)).mono ?_
        rintro o x11 ⟨rfl, b11⟩
        refine ⟨_, rfl, ?_⟩
        have U11 := ((Old.refl w8).drew).trans b11
        refine hK.out _ _ (SO.old U11 S8.out) (fun _ => ?_)
        clear hK K
        (try simp only [Act.put]); (try simp only [List.setIfInBounds_toArray]); (try simp only [List.set_cons_succ]); (try simp only [List.set_cons_zero])
        refine wpAnyH_ready (rs := [11]) (by kernel_rfl) (by simp) ?_
        refine AllReadyH.cons (o := { dst := some 67, op := Op.call { callee := Callee.value (Operand.func 15), args := #[Operand.tmp 64, Operand.tmp 66], argTypes := #[31, 23] }, type := 2, pos := "law.go:43", after := #[{ on := 8, ground := Ground.data }, { on := 10, ground := Ground.data }, { on := 7, ground := Ground.chain }, { on := 3, ground := Ground.guard }], guard := some (3, false) }) rfl (fun K hK => ?_) AllReadyH.nil
        refine wantCall2 ?_ 15 (.tmp 64) (.tmp 66) #[31, 23] ?_ (.agg #[.int .i64 most, .slice a6 L1.length c6]) (.float .f64 z.k) ?_ ?_ ?_ (ent_rat _ _) ?_
        · rfl
        · rfl
        · rfl
        · rfl
        · rfl
        refine (HA2.out _ U11).mono ?_
        rintro o x12 ⟨rfl, b12⟩
        refine ⟨_, rfl, ?_⟩
        have U12 := U11.trans b12
        refine hK.out _ _ (SO.old U12 S8.out) (fun _ => ?_)
        clear hK K
        (try simp only [Act.put]); (try simp only [List.setIfInBounds_toArray]); (try simp only [List.set_cons_succ]); (try simp only [List.set_cons_zero])
        refine wpAnyH_take (i := 12) (oi := { dst := some 68, op := Op.binOp BinOp.neq 2 (Operand.tmp 63) (Operand.tmp 67) 2, type := 4, pos := "law.go:43", after := #[{ on := 7, ground := Ground.data }, { on := 11, ground := Ground.data }, { on := 3, ground := Ground.guard }], guard := some (3, false) }) (v := ?vk13) rfl (by kernel_rfl) (by kernel_rfl) (by kernel_rfl) (fun _ _ _ h => h) (Or.inl ⟨by rfl, ?hk13⟩) (SO.old U12 S8.out) ?rk13
        case hk13 => (intro wz hSw; (try dsimp only at hSw); go_simp; try with_reducible rfl)
        (try simp only [Act.put]); (try simp only [List.setIfInBounds_toArray]); (try simp only [List.set_cons_succ]); (try simp only [List.set_cons_zero])
        refine wpAnyH_take (i := 13) (oi := { dst := some 69, op := Op.pick (Operand.tmp 59) (Operand.const (Value.bool true)) (Operand.tmp 68), type := 4, pos := "law.go:43", after := #[{ on := 3, ground := Ground.data }, { on := 12, ground := Ground.data }], guard := none }) (v := ?vk14) rfl (by kernel_rfl) (by kernel_rfl) (by kernel_rfl) (fun _ _ _ h => h) (Or.inl ⟨by rfl, ?hk14⟩) (SO.old U12 S8.out) ?rk14
        case hk14 => (intro wz hSw; (try dsimp only at hSw); go_simp; try with_reducible rfl)
        (try simp only [Act.put]); (try simp only [List.setIfInBounds_toArray]); (try simp only [List.set_cons_succ]); (try simp only [List.set_cons_zero])
        refine wpAnyH_done (by kernel_rfl) ?_ _
        refine NoPanic.normal ?_
        have U9 := hid U12
        have PX := hid (P8.out.to U9.out)
        clear HA1 HA2 S8 P8
        generalize x12 = wX at *
        have SBT := hid (show SB mb most a6 L1.length c6 sb x y p q wX from ⟨⟨PX.out.old.keep HS.out.1, PX.out.old.keep HS.out.2.1, PX.out.old.keep HS.out.2.2.1, PX.out.old.keep HS.out.2.2.2⟩, PX.out.box.1, PX.out.box.2.1⟩)
        have hz1 : L1.length ≤ 1000000 := by have := PX.out.len; have := hm64.out; omega
        have hz2 : M1.length ≤ 1000000 := by rw [PX.out.perm.length_eq]; exact hz1
        have HLn := hid (fun (W : World) (u : Old wX W) => (len_any tb tb most v5 L1 W (PX.out.tab.old u)).mono fun e w' h => (⟨h.1, by rw [h.2]; exact Old.refl _⟩ : _ ∧ Old W w'))
        have HK1 := hid (fun (W : World) (u : Old wX W) => at_any tb tb most v5 L1 key hkey W (PX.out.tab.old u) PX.out.good hz1)
        have HK2 := hid (fun (W : World) (u : Old wX W) => rAt_any tb most (.slice a6 L1.length c6) M1 key hkey PX.out.w W (PX.out.own.old u) hz2)
        rw [at_perm PX.out.perm PX.out.good.1] at HK2
        have HV1 := hid (fun (W : World) (u : Old wX W) => over_any tb tb most v5 L1 x y hx hy p q W (PX.out.tab.old u) PX.out.good hz1)
        have HV2 := hid (fun (W : World) (u : Old wX W) => rOver_any tb most (.slice a6 L1.length c6) M1 x y p q hx hy PX.out.w W (PX.out.own.old u) hz2)
        rw [over_perm PX.out.perm] at HV2
        generalize atL (Fl.code key) L1 = A at *
        generalize overT (hasB x y p q) L1 L1.length = R at *
        go_upto_region 23 with fail
        refine wp_region_noPanic ?_
        refine wp_region_held_drew (S := SB mb most a6 L1.length c6 sb x y p q) (by kernel_rfl) ?_ (fun hHeld => ?_)
        · exact SB.old ((Old.refl _).drew) SBT.out
        (try simp only [Act.put]); (try simp only [List.setIfInBounds_toArray]); (try simp only [List.set_cons_succ]); (try simp only [List.set_cons_zero])
        clear hHeld
        refine wpAnyH_take (i := 0) (oi := { dst := some 94, op := Op.move (Operand.tmp 9), type := 26, pos := "law.go:56", after := #[], guard := none }) (v := ?vk15) rfl (by kernel_rfl) (by kernel_rfl) (by kernel_rfl) (fun _ _ _ h => h) (Or.inl ⟨by rfl, ?hk15⟩) (SB.old ((Old.refl wX).drew) SBT.out) ?rk15
        case hk15 => (intro wz hSw; (try dsimp only at hSw); go_simp; try with_reducible rfl)
        (try simp only [Act.put]); (try simp only [List.setIfInBounds_toArray]); (try simp only [List.set_cons_succ]); (try simp only [List.set_cons_zero])
        refine wpAnyH_take (i := 2) (oi := { dst := some 96, op := Op.fieldAddr 31 (Operand.tmp 10) 1, type := 0, pos := "law.go:56", after := #[], guard := none }) (v := ?vk16) rfl (by kernel_rfl) (by kernel_rfl) (by kernel_rfl) (fun _ _ _ h => h) (Or.inl ⟨by rfl, ?hk16⟩) (SB.old ((Old.refl wX).drew) SBT.out) ?rk16
        case hk16 => (intro wz hSw; (try dsimp only at hSw); go_simp; try with_reducible rfl)
        (try simp only [Act.put]); (try simp only [List.setIfInBounds_toArray]); (try simp only [List.set_cons_succ]); (try simp only [List.set_cons_zero])
        refine wpAnyH_take (i := 3) (oi := { dst := some 97, op := Op.load 29 (Operand.tmp 96), type := 29, pos := "law.go:56", after := #[{ on := 2, ground := Ground.data }], guard := none }) (v := ?vk17) rfl (by kernel_rfl) (by kernel_rfl) (by kernel_rfl) (fun _ _ _ h => h) (Or.inl ⟨by rfl, ?hk17⟩) (SB.old ((Old.refl wX).drew) SBT.out) ?rk17
        case hk17 => (intro wz hSw; (try dsimp only at hSw); go_simp; try with_reducible rfl)
        (try simp only [Act.put]); (try simp only [List.setIfInBounds_toArray]); (try simp only [List.set_cons_succ]); (try simp only [List.set_cons_zero])
        refine wpAnyH_take (i := 4) (oi := { dst := some 98, op := Op.call { callee := Callee.builtin Builtin.len, args := #[Operand.tmp 97], argTypes := #[29] }, type := 3, pos := "law.go:56", after := #[{ on := 3, ground := Ground.data }], guard := none }) (v := ?vk18) rfl (by kernel_rfl) (by kernel_rfl) (by kernel_rfl) (fun _ _ _ h => h) (Or.inl ⟨by rfl, ?hk18⟩) (SB.old ((Old.refl wX).drew) SBT.out) ?rk18
        case hk18 => (intro wz hSw; (try dsimp only at hSw); go_simp; try with_reducible rfl)
        (try simp only [Act.put]); (try simp only [List.setIfInBounds_toArray]); (try simp only [List.set_cons_succ]); (try simp only [List.set_cons_zero])
        refine wpAnyH_ready (rs := [1]) (by kernel_rfl) (by simp) ?_
        refine AllReadyH.cons (o := { dst := some 95, op := Op.call { callee := Callee.value (Operand.func 19), args := #[Operand.tmp 94], argTypes := #[26] }, type := 3, pos := "law.go:56", after := #[{ on := 0, ground := Ground.data }], guard := none }) rfl (fun K hK => ?_) AllReadyH.nil
        refine wantCall1 ?_ 19 (.tmp 94) #[26] ?_ (.pointer (some ⟨tb, 0, none⟩)) ?_ ?_ (ent_len _ _) ?_
        · rfl
        · rfl
        · rfl
        · rfl
        refine (HLn.out _ ((Old.refl wX).drew)).mono ?_
        rintro o x19 ⟨rfl, b19⟩
        refine ⟨_, rfl, ?_⟩
        have U19 := ((Old.refl wX).drew).trans b19
        refine hK.out _ _ (SB.old U19 SBT.out) (fun _ => ?_)
        clear hK K
        (try simp only [Act.put]); (try simp only [List.setIfInBounds_toArray]); (try simp only [List.set_cons_succ]); (try simp only [List.set_cons_zero])
        refine wpAnyH_take (i := 5) (oi := { dst := some 99, op := Op.binOp BinOp.neq 3 (Operand.tmp 95) (Operand.tmp 98) 3, type := 4, pos := "law.go:56", after := #[{ on := 1, ground := Ground.data }, { on := 4, ground := Ground.data }], guard := none }) (v := ?vk20) rfl (by kernel_rfl) (by kernel_rfl) (by kernel_rfl) (fun _ _ _ h => h) (Or.inl ⟨by rfl, ?hk20⟩) (SB.old U19 SBT.out) ?rk20
        case hk20 => (intro wz hSw; (try dsimp only at hSw); go_simp; try with_reducible rfl)
        (try simp only [Act.put]); (try simp only [List.setIfInBounds_toArray]); (try simp only [List.set_cons_succ]); (try simp only [List.set_cons_zero])
        refine wpAnyH_take (i := 6) (oi := { dst := some 100, op := Op.move (Operand.tmp 99), type := 4, pos := "law.go:56", after := #[{ on := 5, ground := Ground.data }, { on := 1, ground := Ground.chain }], guard := none }) (v := ?vk21) rfl (by kernel_rfl) (by kernel_rfl) (by kernel_rfl) (fun _ _ _ h => h) (Or.inl ⟨by rfl, ?hk21⟩) (SB.old U19 SBT.out) ?rk21
        case hk21 => (intro wz hSw; (try dsimp only at hSw); go_simp; try with_reducible rfl)
        (try simp only [Act.put]); (try simp only [List.setIfInBounds_toArray]); (try simp only [List.set_cons_succ]); (try simp only [List.set_cons_zero])
        refine wpAnyH_take (i := 7) (oi := { dst := some 101, op := Op.move (Operand.tmp 9), type := 26, pos := "law.go:56", after := #[{ on := 6, ground := Ground.guard }], guard := some (6, false) }) (v := ?vk22) rfl (by kernel_rfl) (by kernel_rfl) (by kernel_rfl) (fun _ _ _ h => h) (Or.inl ⟨by rfl, ?hk22⟩) (SB.old U19 SBT.out) ?rk22
        case hk22 => (intro wz hSw; (try dsimp only at hSw); go_simp; try with_reducible rfl)
        (try simp only [Act.put]); (try simp only [List.setIfInBounds_toArray]); (try simp only [List.set_cons_succ]); (try simp only [List.set_cons_zero])
        refine wpAnyH_take (i := 8) (oi := { dst := some 102, op := Op.move (Operand.tmp 2), type := 23, pos := "law.go:56", after := #[{ on := 6, ground := Ground.guard }], guard := some (6, false) }) (v := ?vk23) rfl (by kernel_rfl) (by kernel_rfl) (by kernel_rfl) (fun _ _ _ h => h) (Or.inl ⟨by rfl, ?hk23⟩) (SB.old U19 SBT.out) ?rk23
        case hk23 => (intro wz hSw; (try dsimp only at hSw); go_simp; try with_reducible rfl)
        (try simp only [Act.put]); (try simp only [List.setIfInBounds_toArray]); (try simp only [List.set_cons_succ]); (try simp only [List.set_cons_zero])
        refine wpAnyH_take (i := 10) (oi := { dst := some 104, op := Op.load 31 (Operand.tmp 10), type := 31, pos := "law.go:56", after := #[{ on := 6, ground := Ground.guard }], guard := some (6, false) }) (v := ?vk24) rfl (by kernel_rfl) (by kernel_rfl) (by kernel_rfl) (fun _ _ _ h => h) (Or.inl ⟨by rfl, ?hk24⟩) (SB.old U19 SBT.out) ?rk24
        case hk24 => (intro wz hSw; (try dsimp only at hSw); go_simp; try with_reducible rfl)
        (try simp only [Act.put]); (try simp only [List.setIfInBounds_toArray]); (try simp only [List.set_cons_succ]); (try simp only [List.set_cons_zero])
        refine wpAnyH_take (i := 11) (oi := { dst := some 105, op := Op.move (Operand.tmp 2), type := 23, pos := "law.go:56", after := #[{ on := 6, ground := Ground.guard }], guard := some (6, false) }) (v := ?vk25) rfl (by kernel_rfl) (by kernel_rfl) (by kernel_rfl) (fun _ _ _ h => h) (Or.inl ⟨by rfl, ?hk25⟩) (SB.old U19 SBT.out) ?rk25
        case hk25 => (intro wz hSw; (try dsimp only at hSw); go_simp; try with_reducible rfl)
        (try simp only [Act.put]); (try simp only [List.setIfInBounds_toArray]); (try simp only [List.set_cons_succ]); (try simp only [List.set_cons_zero])
        refine wpAnyH_ready (rs := [9]) (by kernel_rfl) (by simp) ?_
        refine AllReadyH.cons (o := { dst := some 103, op := Op.call { callee := Callee.value (Operand.func 14), args := #[Operand.tmp 101, Operand.tmp 102], argTypes := #[26, 23] }, type := 2, pos := "law.go:56", after := #[{ on := 7, ground := Ground.data }, { on := 8, ground := Ground.data }, { on := 6, ground := Ground.chain }, { on := 6, ground := Ground.guard }], guard := some (6, false) }) rfl (fun K hK => ?_) AllReadyH.nil
        refine wantCall2 ?_ 14 (.tmp 101) (.tmp 102) #[26, 23] ?_ (.pointer (some ⟨tb, 0, none⟩)) (.float .f64 key) ?_ ?_ ?_ (ent_at _ _) ?_
        · rfl
        · rfl
        · rfl
        · rfl
        · rfl
        refine (HK1.out _ U19).mono ?_
        rintro o x26 ⟨rfl, b26⟩
        refine ⟨_, rfl, ?_⟩
        have U26 := U19.trans b26
        refine hK.out _ _ (SB.old U26 SBT.out) (fun _ => ?_)
        clear hK K
        (try simp only [Act.put]); (try simp only [List.setIfInBounds_toArray]); (try simp only [List.set_cons_succ]); (try simp only [List.set_cons_zero])
        refine wpAnyH_ready (rs := [12]) (by kernel_rfl) (by simp) ?_
        refine AllReadyH.cons (o := { dst := some 106, op := Op.call { callee := Callee.value (Operand.func 15), args := #[Operand.tmp 104, Operand.tmp 105], argTypes := #[31, 23] }, type := 2, pos := "law.go:56", after := #[{ on := 10, ground := Ground.data }, { on := 11, ground := Ground.data }, { on := 9, ground := Ground.chain }, { on := 6, ground := Ground.guard }], guard := some (6, false) }) rfl (fun K hK => ?_) AllReadyH.nil
        refine wantCall2 ?_ 15 (.tmp 104) (.tmp 105) #[31, 23] ?_ (.agg #[.int .i64 most, .slice a6 L1.length c6]) (.float .f64 key) ?_ ?_ ?_ (ent_rat _ _) ?_
        · rfl
        · rfl
        · rfl
        · rfl
        · rfl
        refine (HK2.out _ U26).mono ?_
        rintro o x27 ⟨rfl, b27⟩
        refine ⟨_, rfl, ?_⟩
        have U27 := U26.trans b27
        refine hK.out _ _ (SB.old U27 SBT.out) (fun _ => ?_)
        clear hK K
        (try simp only [Act.put]); (try simp only [List.setIfInBounds_toArray]); (try simp only [List.set_cons_succ]); (try simp only [List.set_cons_zero])
        refine wpAnyH_take (i := 13) (oi := { dst := some 107, op := Op.binOp BinOp.neq 2 (Operand.tmp 103) (Operand.tmp 106) 2, type := 4, pos := "law.go:56", after := #[{ on := 9, ground := Ground.data }, { on := 12, ground := Ground.data }, { on := 6, ground := Ground.guard }], guard := some (6, false) }) (v := ?vk28) rfl (by kernel_rfl) (by kernel_rfl) (by kernel_rfl) (fun _ _ _ h => h) (Or.inl ⟨by rfl, ?hk28⟩) (SB.old U27 SBT.out) ?rk28
        case hk28 => (intro wz hSw; (try dsimp only at hSw); go_simp; try with_reducible rfl)
        (try simp only [Act.put]); (try simp only [List.setIfInBounds_toArray]); (try simp only [List.set_cons_succ]); (try simp only [List.set_cons_zero])
        refine wpAnyH_take (i := 14) (oi := { dst := some 108, op := Op.pick (Operand.tmp 100) (Operand.const (Value.bool true)) (Operand.tmp 107), type := 4, pos := "law.go:56", after := #[{ on := 6, ground := Ground.data }, { on := 13, ground := Ground.data }], guard := none }) (v := ?vk29) rfl (by kernel_rfl) (by kernel_rfl) (by kernel_rfl) (fun _ _ _ h => h) (Or.inl ⟨by rfl, ?hk29⟩) (SB.old U27 SBT.out) ?rk29
        case hk29 => (intro wz hSw; (try dsimp only at hSw); go_simp; try with_reducible rfl)
        (try simp only [Act.put]); (try simp only [List.setIfInBounds_toArray]); (try simp only [List.set_cons_succ]); (try simp only [List.set_cons_zero])
        refine wpAnyH_take (i := 15) (oi := { dst := some 109, op := Op.move (Operand.tmp 108), type := 4, pos := "law.go:56", after := #[{ on := 14, ground := Ground.data }, { on := 12, ground := Ground.chain }], guard := none }) (v := ?vk30) rfl (by kernel_rfl) (by kernel_rfl) (by kernel_rfl) (fun _ _ _ h => h) (Or.inl ⟨by rfl, ?hk30⟩) (SB.old U27 SBT.out) ?rk30
        case hk30 => (intro wz hSw; (try dsimp only at hSw); go_simp; try with_reducible rfl)
        (try simp only [Act.put]); (try simp only [List.setIfInBounds_toArray]); (try simp only [List.set_cons_succ]); (try simp only [List.set_cons_zero])
        refine wpAnyH_take (i := 16) (oi := { dst := some 110, op := Op.move (Operand.tmp 9), type := 26, pos := "law.go:56", after := #[{ on := 15, ground := Ground.guard }], guard := some (15, false) }) (v := ?vk31) rfl (by kernel_rfl) (by kernel_rfl) (by kernel_rfl) (fun _ _ _ h => h) (Or.inl ⟨by rfl, ?hk31⟩) (SB.old U27 SBT.out) ?rk31
        case hk31 => (intro wz hSw; (try dsimp only at hSw); go_simp; try with_reducible rfl)
        (try simp only [Act.put]); (try simp only [List.setIfInBounds_toArray]); (try simp only [List.set_cons_succ]); (try simp only [List.set_cons_zero])
        refine wpAnyH_take (i := 17) (oi := { dst := some 111, op := Op.load 25 (Operand.tmp 7), type := 25, pos := "law.go:56", after := #[{ on := 15, ground := Ground.guard }], guard := some (15, false) }) (v := ?vk32) rfl (by kernel_rfl) (by kernel_rfl) (by kernel_rfl) (fun _ _ _ h => h) (Or.inl ⟨by rfl, ?hk32⟩) (SB.old U27 SBT.out) ?rk32
        case hk32 => (intro wz hSw; (try dsimp only at hSw); go_simp; try with_reducible rfl)
        (try simp only [Act.put]); (try simp only [List.setIfInBounds_toArray]); (try simp only [List.set_cons_succ]); (try simp only [List.set_cons_zero])
        refine wpAnyH_take (i := 19) (oi := { dst := some 113, op := Op.load 31 (Operand.tmp 10), type := 31, pos := "law.go:56", after := #[{ on := 15, ground := Ground.guard }], guard := some (15, false) }) (v := ?vk33) rfl (by kernel_rfl) (by kernel_rfl) (by kernel_rfl) (fun _ _ _ h => h) (Or.inl ⟨by rfl, ?hk33⟩) (SB.old U27 SBT.out) ?rk33
        case hk33 => (intro wz hSw; (try dsimp only at hSw); go_simp; try with_reducible rfl)
        (try simp only [Act.put]); (try simp only [List.setIfInBounds_toArray]); (try simp only [List.set_cons_succ]); (try simp only [List.set_cons_zero])
        refine wpAnyH_take (i := 20) (oi := { dst := some 114, op := Op.load 25 (Operand.tmp 7), type := 25, pos := "law.go:56", after := #[{ on := 15, ground := Ground.guard }], guard := some (15, false) }) (v := ?vk34) rfl (by kernel_rfl) (by kernel_rfl) (by kernel_rfl) (fun _ _ _ h => h) (Or.inl ⟨by rfl, ?hk34⟩) (SB.old U27 SBT.out) ?rk34
        case hk34 => (intro wz hSw; (try dsimp only at hSw); go_simp; try with_reducible rfl)
        (try simp only [Act.put]); (try simp only [List.setIfInBounds_toArray]); (try simp only [List.set_cons_succ]); (try simp only [List.set_cons_zero])
        refine wpAnyH_ready (rs := [18]) (by kernel_rfl) (by simp) ?_
        refine AllReadyH.cons (o := { dst := some 112, op := Op.call { callee := Callee.value (Operand.func 20), args := #[Operand.tmp 110, Operand.tmp 111], argTypes := #[26, 25] }, type := 2, pos := "law.go:56", after := #[{ on := 16, ground := Ground.data }, { on := 17, ground := Ground.data }, { on := 15, ground := Ground.chain }, { on := 15, ground := Ground.guard }], guard := some (15, false) }) rfl (fun K hK => ?_) AllReadyH.nil
        refine wantCall2 ?_ 20 (.tmp 110) (.tmp 111) #[26, 25] ?_ (.pointer (some ⟨tb, 0, none⟩)) (.agg #[.float .f64 x, .float .f64 y, .bool p, .bool q]) ?_ ?_ ?_ (ent_over _ _) ?_
        · rfl
        · rfl
        · rfl
        · rfl
        · rfl
        refine (HV1.out _ U27).mono ?_
        rintro o x35 ⟨rfl, b35⟩
        refine ⟨_, rfl, ?_⟩
        have U35 := U27.trans b35
        refine hK.out _ _ (SB.old U35 SBT.out) (fun _ => ?_)
        clear hK K
        (try simp only [Act.put]); (try simp only [List.setIfInBounds_toArray]); (try simp only [List.set_cons_succ]); (try simp only [List.set_cons_zero])
        refine wpAnyH_ready (rs := [21]) (by kernel_rfl) (by simp) ?_
        refine AllReadyH.cons (o := { dst := some 115, op := Op.call { callee := Callee.value (Operand.func 21), args := #[Operand.tmp 113, Operand.tmp 114], argTypes := #[31, 25] }, type := 2, pos := "law.go:56", after := #[{ on := 19, ground := Ground.data }, { on := 20, ground := Ground.data }, { on := 18, ground := Ground.chain }, { on := 15, ground := Ground.guard }], guard := some (15, false) }) rfl (fun K hK => ?_) AllReadyH.nil
        refine wantCall2 ?_ 21 (.tmp 113) (.tmp 114) #[31, 25] ?_ (.agg #[.int .i64 most, .slice a6 L1.length c6]) (.agg #[.float .f64 x, .float .f64 y, .bool p, .bool q]) ?_ ?_ ?_ (ent_rover _ _) ?_
        · rfl
        · rfl
        · rfl
        · rfl
        · rfl
        refine (HV2.out _ U35).mono ?_
        rintro o x36 ⟨rfl, b36⟩
        refine ⟨_, rfl, ?_⟩
        have U36 := U35.trans b36
        refine hK.out _ _ (SB.old U36 SBT.out) (fun _ => ?_)
        clear hK K
        (try simp only [Act.put]); (try simp only [List.setIfInBounds_toArray]); (try simp only [List.set_cons_succ]); (try simp only [List.set_cons_zero])
        refine wpAnyH_take (i := 22) (oi := { dst := some 116, op := Op.binOp BinOp.neq 2 (Operand.tmp 112) (Operand.tmp 115) 2, type := 4, pos := "law.go:56", after := #[{ on := 18, ground := Ground.data }, { on := 21, ground := Ground.data }, { on := 15, ground := Ground.guard }], guard := some (15, false) }) (v := ?vk37) rfl (by kernel_rfl) (by kernel_rfl) (by kernel_rfl) (fun _ _ _ h => h) (Or.inl ⟨by rfl, ?hk37⟩) (SB.old U36 SBT.out) ?rk37
        case hk37 => (intro wz hSw; (try dsimp only at hSw); go_simp; try with_reducible rfl)
        (try simp only [Act.put]); (try simp only [List.setIfInBounds_toArray]); (try simp only [List.set_cons_succ]); (try simp only [List.set_cons_zero])
        refine wpAnyH_take (i := 23) (oi := { dst := some 117, op := Op.pick (Operand.tmp 109) (Operand.const (Value.bool true)) (Operand.tmp 116), type := 4, pos := "law.go:56", after := #[{ on := 15, ground := Ground.data }, { on := 22, ground := Ground.data }], guard := none }) (v := ?vk38) rfl (by kernel_rfl) (by kernel_rfl) (by kernel_rfl) (fun _ _ _ h => h) (Or.inl ⟨by rfl, ?hk38⟩) (SB.old U36 SBT.out) ?rk38
        case hk38 => (intro wz hSw; (try dsimp only at hSw); go_simp; try with_reducible rfl)
        (try simp only [Act.put]); (try simp only [List.setIfInBounds_toArray]); (try simp only [List.set_cons_succ]); (try simp only [List.set_cons_zero])
        refine wpAnyH_done (by kernel_rfl) ?_ _
        refine NoPanic.normal ?_
        have U10 := hid U36
        clear HLn HK1 HK2 HV1 HV2 SBT
        go_wp2
        go_roundw
        case rel => exact ⟨k + 1, hlt, by go_num, _, _, _, _, PX.out.to U10.out⟩
        case measure => simp [intOf]; omega
      · have j1 : (z.kd == 1) = false := by rw [beq_eq_false_iff_ne]; exact k1
        clear k1
        by_cases k2 : z.kd = 2
        · have j2 : (z.kd == 2) = true := by rw [beq_iff_eq]; exact k2
          clear k2
          have HRD := hid (fun (W : World) (own : OwnM tb W (.slice a L.length c) M) => rDrop_any tb most z.n (.slice a L.length c) M W own hlM)
          have HKp := hid (keep_perm P4.out.perm z.n)
          obtain ⟨b0, b1, f0, f1⟩ := P4.out.box
          go_upto_region 17 with fail
          go_upto_region 18 with (first | (go_at_call 16; refine (HRD.out _ P4.out.own).mono ?_; rintro e w5 ⟨v5, rfl, om, u5⟩; obtain ⟨a5, c5, hv5⟩ := om.len; rw [HKp.out.length_eq] at hv5; subst hv5; have O5 := hid om; have U5 := hid u5; clear om u5; have q0 := U5.out.keep b0; have q1 := U5.out.keep b1; have g0 := U5.out.keepF b0 f0; have g1 := U5.out.keepF b1 f1))
          have hmw := hid (show mb < w4.heap.size by have := World.block_lt_of_cell? w4 _ P4.out.box.1; simpa using this)
          have HN5 := hid (show (Value.slice a5 (keepL z.n L).length c5).ownBlock ≠ some mb from fun e => by have := (O5.out.lt mb e).1; have := hmw.out; omega)
          generalize hw6 : (w5.setCell ⟨mb, 0, none⟩ (.int .i64 most)).setCell ⟨mb, 1, none⟩ (.slice a5 (keepL z.n L).length c5) = w6 at *
          have K6 := hid (box_put hw6 (P4.out.tab.old U5.out) (O5.out.mono (Nat.le_of_lt P4.out.tab.lt)) (P4.out.box.old U5.out) hmbn.out HN5.out (P4.out.old.trans U5.out) HMB.out)
          clear hw6
          have hnn : ob ∉ [mb] := by simp; exact hob.out.2
          have S6 := hid (show SO mb most a5 (keepL z.n L).length c5 ob z w6 from ⟨K6.out.2.2.2.2.cell (U5.out.keep o1) hnn, K6.out.2.2.2.2.cell (U5.out.keep o2) hnn, K6.out.2.2.1.1, K6.out.2.2.1.2.1⟩)
          have HDr := hid (fun (W : World) (u : Old w6 W) => drop_any tb tb most z.n v L W hlL (K6.out.1.old u))
          have hle := List.length_filter_le (fun x => decide (z.n < x.n)) L
          have hw1 : IntKind.i64.wrap ((L.length : Int) - ((keepL z.n L).length : Int)) = ((L.length - (keepL z.n L).length : Nat) : Int) := by
            rw [IntKind.wrap_i64]
            unfold keepL
            omega
          generalize ((L.length - (keepL z.n L).length : Nat) : Int) = dd at *
          clear q0 q1 g0 g1 b0 b1 f0 f1 o0 o1 o2 B4 hnn HRD hle
          refine wp_region_noPanic ?_
          refine wp_region_held_drew (S := SO mb most a5 (keepL z.n L).length c5 ob z) (by kernel_rfl) ?_ (fun hHeld => ?_)
          · exact SO.old ((Old.refl w6).drew) S6.out
          (try simp only [Act.put]); (try simp only [List.setIfInBounds_toArray]); (try simp only [List.set_cons_succ]); (try simp only [List.set_cons_zero])
          clear hHeld
          refine wpAnyH_take (i := 0) (oi := { dst := some 79, op := Op.move (Operand.tmp 9), type := 26, pos := "law.go:49", after := #[], guard := none }) (v := ?vk39) rfl (by kernel_rfl) (by kernel_rfl) (by kernel_rfl) (fun _ _ _ h => h) (Or.inl ⟨by rfl, ?hk39⟩) (SO.old ((Old.refl w6).drew) S6.out) ?rk39
          case hk39 => (intro wz hSw; (try dsimp only at hSw); go_simp; try with_reducible rfl)
          (try simp only [Act.put]); (try simp only [List.setIfInBounds_toArray]); (try simp only [List.set_cons_succ]); (try simp only [List.set_cons_zero])
          refine wpAnyH_take (i := 1) (oi := { dst := some 80, op := Op.fieldAddr 34 (Operand.tmp 12) 2, type := 0, pos := "law.go:49", after := #[], guard := none }) (v := ?vk40) rfl (by kernel_rfl) (by kernel_rfl) (by kernel_rfl) (fun _ _ _ h => h) (Or.inl ⟨by rfl, ?hk40⟩) (SO.old ((Old.refl w6).drew) S6.out) ?rk40
          case hk40 => (intro wz hSw; (try dsimp only at hSw); go_simp; try with_reducible rfl)
          (try simp only [Act.put]); (try simp only [List.setIfInBounds_toArray]); (try simp only [List.set_cons_succ]); (try simp only [List.set_cons_zero])
          refine wpAnyH_take (i := 2) (oi := { dst := some 81, op := Op.load 2 (Operand.tmp 80), type := 2, pos := "law.go:49", after := #[{ on := 1, ground := Ground.data }], guard := none }) (v := ?vk41) rfl (by kernel_rfl) (by kernel_rfl) (by kernel_rfl) (fun _ _ _ h => h) (Or.inl ⟨by rfl, ?hk41⟩) (SO.old ((Old.refl w6).drew) S6.out) ?rk41
          case hk41 => (intro wz hSw; (try dsimp only at hSw); go_simp; try with_reducible rfl)
          (try simp only [Act.put]); (try simp only [List.setIfInBounds_toArray]); (try simp only [List.set_cons_succ]); (try simp only [List.set_cons_zero])
          refine wpAnyH_take (i := 4) (oi := { dst := some 83, op := Op.move (Operand.tmp 16), type := 3, pos := "law.go:49", after := #[], guard := none }) (v := ?vk42) rfl (by kernel_rfl) (by kernel_rfl) (by kernel_rfl) (fun _ _ _ h => h) (Or.inl ⟨by rfl, ?hk42⟩) (SO.old ((Old.refl w6).drew) S6.out) ?rk42
          case hk42 => (intro wz hSw; (try dsimp only at hSw); go_simp; try with_reducible rfl)
          (try simp only [Act.put]); (try simp only [List.setIfInBounds_toArray]); (try simp only [List.set_cons_succ]); (try simp only [List.set_cons_zero])
          refine wpAnyH_take (i := 5) (oi := { dst := some 84, op := Op.fieldAddr 31 (Operand.tmp 10) 1, type := 0, pos := "law.go:49", after := #[], guard := none }) (v := ?vk43) rfl (by kernel_rfl) (by kernel_rfl) (by kernel_rfl) (fun _ _ _ h => h) (Or.inl ⟨by rfl, ?hk43⟩) (SO.old ((Old.refl w6).drew) S6.out) ?rk43
          case hk43 => (intro wz hSw; (try dsimp only at hSw); go_simp; try with_reducible rfl)
          (try simp only [Act.put]); (try simp only [List.setIfInBounds_toArray]); (try simp only [List.set_cons_succ]); (try simp only [List.set_cons_zero])
          refine wpAnyH_take (i := 6) (oi := { dst := some 85, op := Op.load 29 (Operand.tmp 84), type := 29, pos := "law.go:49", after := #[{ on := 5, ground := Ground.data }], guard := none }) (v := ?vk44) rfl (by kernel_rfl) (by kernel_rfl) (by kernel_rfl) (fun _ _ _ h => h) (Or.inl ⟨by rfl, ?hk44⟩) (SO.old ((Old.refl w6).drew) S6.out) ?rk44
          case hk44 => (intro wz hSw; (try dsimp only at hSw); go_simp; try with_reducible rfl)
          (try simp only [Act.put]); (try simp only [List.setIfInBounds_toArray]); (try simp only [List.set_cons_succ]); (try simp only [List.set_cons_zero])
          refine wpAnyH_take (i := 7) (oi := { dst := some 86, op := Op.call { callee := Callee.builtin Builtin.len, args := #[Operand.tmp 85], argTypes := #[29] }, type := 3, pos := "law.go:49", after := #[{ on := 6, ground := Ground.data }], guard := none }) (v := ?vk45) rfl (by kernel_rfl) (by kernel_rfl) (by kernel_rfl) (fun _ _ _ h => h) (Or.inl ⟨by rfl, ?hk45⟩) (SO.old ((Old.refl w6).drew) S6.out) ?rk45
          case hk45 => (intro wz hSw; (try dsimp only at hSw); go_simp; try with_reducible rfl)
          (try simp only [Act.put]); (try simp only [List.setIfInBounds_toArray]); (try simp only [List.set_cons_succ]); (try simp only [List.set_cons_zero])
          refine wpAnyH_take (i := 8) (oi := { dst := some 87, op := Op.binOp BinOp.sub 3 (Operand.tmp 83) (Operand.tmp 86) 3, type := 3, pos := "law.go:49", after := #[{ on := 4, ground := Ground.data }, { on := 7, ground := Ground.data }], guard := none }) (v := ?vk46) rfl (by kernel_rfl) (by kernel_rfl) (by kernel_rfl) (fun _ _ _ h => h) (Or.inl ⟨by rfl, ?hk46⟩) (SO.old ((Old.refl w6).drew) S6.out) ?rk46
          case hk46 => (intro wz hSw; (try dsimp only at hSw); go_simp; try with_reducible rfl)
          (try simp only [Act.put]); (try simp only [List.setIfInBounds_toArray]); (try simp only [List.set_cons_succ]); (try simp only [List.set_cons_zero])
          refine wpAnyH_ready (rs := [3]) (by kernel_rfl) (by simp) ?_
          refine AllReadyH.cons (o := { dst := some 82, op := Op.call { callee := Callee.value (Operand.func 17), args := #[Operand.tmp 79, Operand.tmp 81], argTypes := #[26, 2] }, type := 3, pos := "law.go:49", after := #[{ on := 0, ground := Ground.data }, { on := 2, ground := Ground.data }], guard := none }) rfl (fun K hK => ?_) AllReadyH.nil
          refine wantCall2 ?_ 17 (.tmp 79) (.tmp 81) #[26, 2] ?_ (.pointer (some ⟨tb, 0, none⟩)) (.int .i64 z.n) ?_ ?_ ?_ (ent_drop _ _) ?_
          · rfl
          · rfl
          · rfl
          · rfl
          · rfl
          refine (HDr.out _ ((Old.refl w6).drew)).mono ?_
          rintro o x47 ⟨v7, rfl, t7, c7, n7⟩
          have UC : Chg (blks tb v) w6 x47 := (Chg.ofOld ((Old.refl w6).drew)).trans c7
          refine ⟨_, rfl, ?_⟩
          refine hK.out _ _ (SO.chg UC S6.out hob.out.1 hmbn.out) (fun _ => ?_)
          clear hK K
          (try simp only [Act.put]); (try simp only [List.setIfInBounds_toArray]); (try simp only [List.set_cons_succ]); (try simp only [List.set_cons_zero])
          refine wpAnyH_take (i := 9) (oi := { dst := some 88, op := Op.binOp BinOp.neq 3 (Operand.tmp 82) (Operand.tmp 87) 3, type := 4, pos := "law.go:49", after := #[{ on := 3, ground := Ground.data }, { on := 8, ground := Ground.data }], guard := none }) (v := ?vk48) rfl (by kernel_rfl) (by kernel_rfl) (by kernel_rfl) (fun _ _ _ h => h) (Or.inl ⟨by rfl, ?hk48⟩) (SO.chg UC S6.out hob.out.1 hmbn.out) ?rk48
          case hk48 => (intro wz hSw; (try dsimp only at hSw); go_simp; try with_reducible rfl)
          (try simp only [Act.put]); (try simp only [List.setIfInBounds_toArray]); (try simp only [List.set_cons_succ]); (try simp only [List.set_cons_zero])
          refine wpAnyH_done (by kernel_rfl) ?_ _
          refine NoPanic.normal ?_
          have T7 := hid t7
          have C7 := hid UC
          have N7 := hid n7
          clear t7 c7 n7 UC
          generalize x47 = w7 at *
          have P7 := hid (show Play tb mb most w v7 (keepL z.n L) (.slice a5 (keepL z.n L).length c5) (keepL z.n M) w7 from ⟨T7.out, keep_good P4.out.good _, by have := P4.out.len; have := List.length_filter_le (fun x => decide (z.n < x.n)) L; unfold keepL; omega, HKp.out, K6.out.2.1.chg C7.out (fun g hg e => by have := (P4.out.tab.blk g e).2; have := (O5.out.lt g hg).1; omega), K6.out.2.2.1.chg C7.out hmbn.out, fun g hg hg2 => by
            have hg3 : g ∈ blks tb v := by
              rcases mem_blks.1 hg with r | r
              · exact mem_blks.2 (.inl r)
              · exact mem_blks.2 (.inr (N7.out g r))
            rcases mem_blks.1 hg2 with s | s
            · subst s; exact hmbn.out hg3
            · have := (P4.out.tab.blk g hg3).2; have := (O5.out.lt g s).1; omega, HN5.out, K6.out.2.2.2.1.below (Below.mono (K6.out.1.below C7.out) (by have := HTB.out; omega))⟩)
          clear T7 C7 N7 K6 S6 HDr HKp HN5 O5 P4
          clear hw1
          generalize keepL z.n L = K9 at *
          generalize keepL z.n M = M5 at *
          have SBT := hid (show SB mb most a5 K9.length c5 sb x y p q w7 from ⟨⟨P7.out.old.keep HS.out.1, P7.out.old.keep HS.out.2.1, P7.out.old.keep HS.out.2.2.1, P7.out.old.keep HS.out.2.2.2⟩, P7.out.box.1, P7.out.box.2.1⟩)
          have hz1 : K9.length ≤ 1000000 := by have := P7.out.len; have := hm64.out; omega
          have hz2 : M5.length ≤ 1000000 := by rw [P7.out.perm.length_eq]; exact hz1
          have HLn := hid (fun (W : World) (u : Old w7 W) => (len_any tb tb most v7 K9 W (P7.out.tab.old u)).mono fun e w' h => (⟨h.1, by rw [h.2]; exact Old.refl _⟩ : _ ∧ Old W w'))
          have HK1 := hid (fun (W : World) (u : Old w7 W) => at_any tb tb most v7 K9 key hkey W (P7.out.tab.old u) P7.out.good hz1)
          have HK2 := hid (fun (W : World) (u : Old w7 W) => rAt_any tb most (.slice a5 K9.length c5) M5 key hkey P7.out.w W (P7.out.own.old u) hz2)
          rw [at_perm P7.out.perm P7.out.good.1] at HK2
          have HV1 := hid (fun (W : World) (u : Old w7 W) => over_any tb tb most v7 K9 x y hx hy p q W (P7.out.tab.old u) P7.out.good hz1)
          have HV2 := hid (fun (W : World) (u : Old w7 W) => rOver_any tb most (.slice a5 K9.length c5) M5 x y p q hx hy P7.out.w W (P7.out.own.old u) hz2)
          rw [over_perm P7.out.perm] at HV2
          generalize atL (Fl.code key) K9 = A at *
          generalize overT (hasB x y p q) K9 K9.length = R at *
          go_upto_region 23 with fail
          refine wp_region_noPanic ?_
          refine wp_region_held_drew (S := SB mb most a5 K9.length c5 sb x y p q) (by kernel_rfl) ?_ (fun hHeld => ?_)
          · exact SB.old ((Old.refl _).drew) SBT.out
          (try simp only [Act.put]); (try simp only [List.setIfInBounds_toArray]); (try simp only [List.set_cons_succ]); (try simp only [List.set_cons_zero])
          clear hHeld
          refine wpAnyH_take (i := 0) (oi := { dst := some 94, op := Op.move (Operand.tmp 9), type := 26, pos := "law.go:56", after := #[], guard := none }) (v := ?vk49) rfl (by kernel_rfl) (by kernel_rfl) (by kernel_rfl) (fun _ _ _ h => h) (Or.inl ⟨by rfl, ?hk49⟩) (SB.old ((Old.refl w7).drew) SBT.out) ?rk49
          case hk49 => (intro wz hSw; (try dsimp only at hSw); go_simp; try with_reducible rfl)
          (try simp only [Act.put]); (try simp only [List.setIfInBounds_toArray]); (try simp only [List.set_cons_succ]); (try simp only [List.set_cons_zero])
          refine wpAnyH_take (i := 2) (oi := { dst := some 96, op := Op.fieldAddr 31 (Operand.tmp 10) 1, type := 0, pos := "law.go:56", after := #[], guard := none }) (v := ?vk50) rfl (by kernel_rfl) (by kernel_rfl) (by kernel_rfl) (fun _ _ _ h => h) (Or.inl ⟨by rfl, ?hk50⟩) (SB.old ((Old.refl w7).drew) SBT.out) ?rk50
          case hk50 => (intro wz hSw; (try dsimp only at hSw); go_simp; try with_reducible rfl)
          (try simp only [Act.put]); (try simp only [List.setIfInBounds_toArray]); (try simp only [List.set_cons_succ]); (try simp only [List.set_cons_zero])
          refine wpAnyH_take (i := 3) (oi := { dst := some 97, op := Op.load 29 (Operand.tmp 96), type := 29, pos := "law.go:56", after := #[{ on := 2, ground := Ground.data }], guard := none }) (v := ?vk51) rfl (by kernel_rfl) (by kernel_rfl) (by kernel_rfl) (fun _ _ _ h => h) (Or.inl ⟨by rfl, ?hk51⟩) (SB.old ((Old.refl w7).drew) SBT.out) ?rk51
          case hk51 => (intro wz hSw; (try dsimp only at hSw); go_simp; try with_reducible rfl)
          (try simp only [Act.put]); (try simp only [List.setIfInBounds_toArray]); (try simp only [List.set_cons_succ]); (try simp only [List.set_cons_zero])
          refine wpAnyH_take (i := 4) (oi := { dst := some 98, op := Op.call { callee := Callee.builtin Builtin.len, args := #[Operand.tmp 97], argTypes := #[29] }, type := 3, pos := "law.go:56", after := #[{ on := 3, ground := Ground.data }], guard := none }) (v := ?vk52) rfl (by kernel_rfl) (by kernel_rfl) (by kernel_rfl) (fun _ _ _ h => h) (Or.inl ⟨by rfl, ?hk52⟩) (SB.old ((Old.refl w7).drew) SBT.out) ?rk52
          case hk52 => (intro wz hSw; (try dsimp only at hSw); go_simp; try with_reducible rfl)
          (try simp only [Act.put]); (try simp only [List.setIfInBounds_toArray]); (try simp only [List.set_cons_succ]); (try simp only [List.set_cons_zero])
          refine wpAnyH_ready (rs := [1]) (by kernel_rfl) (by simp) ?_
          refine AllReadyH.cons (o := { dst := some 95, op := Op.call { callee := Callee.value (Operand.func 19), args := #[Operand.tmp 94], argTypes := #[26] }, type := 3, pos := "law.go:56", after := #[{ on := 0, ground := Ground.data }], guard := none }) rfl (fun K hK => ?_) AllReadyH.nil
          refine wantCall1 ?_ 19 (.tmp 94) #[26] ?_ (.pointer (some ⟨tb, 0, none⟩)) ?_ ?_ (ent_len _ _) ?_
          · rfl
          · rfl
          · rfl
          · rfl
          refine (HLn.out _ ((Old.refl w7).drew)).mono ?_
          rintro o x53 ⟨rfl, b53⟩
          refine ⟨_, rfl, ?_⟩
          have U53 := ((Old.refl w7).drew).trans b53
          refine hK.out _ _ (SB.old U53 SBT.out) (fun _ => ?_)
          clear hK K
          (try simp only [Act.put]); (try simp only [List.setIfInBounds_toArray]); (try simp only [List.set_cons_succ]); (try simp only [List.set_cons_zero])
          refine wpAnyH_take (i := 5) (oi := { dst := some 99, op := Op.binOp BinOp.neq 3 (Operand.tmp 95) (Operand.tmp 98) 3, type := 4, pos := "law.go:56", after := #[{ on := 1, ground := Ground.data }, { on := 4, ground := Ground.data }], guard := none }) (v := ?vk54) rfl (by kernel_rfl) (by kernel_rfl) (by kernel_rfl) (fun _ _ _ h => h) (Or.inl ⟨by rfl, ?hk54⟩) (SB.old U53 SBT.out) ?rk54
          case hk54 => (intro wz hSw; (try dsimp only at hSw); go_simp; try with_reducible rfl)
          (try simp only [Act.put]); (try simp only [List.setIfInBounds_toArray]); (try simp only [List.set_cons_succ]); (try simp only [List.set_cons_zero])
          refine wpAnyH_take (i := 6) (oi := { dst := some 100, op := Op.move (Operand.tmp 99), type := 4, pos := "law.go:56", after := #[{ on := 5, ground := Ground.data }, { on := 1, ground := Ground.chain }], guard := none }) (v := ?vk55) rfl (by kernel_rfl) (by kernel_rfl) (by kernel_rfl) (fun _ _ _ h => h) (Or.inl ⟨by rfl, ?hk55⟩) (SB.old U53 SBT.out) ?rk55
          case hk55 => (intro wz hSw; (try dsimp only at hSw); go_simp; try with_reducible rfl)
          (try simp only [Act.put]); (try simp only [List.setIfInBounds_toArray]); (try simp only [List.set_cons_succ]); (try simp only [List.set_cons_zero])
          refine wpAnyH_take (i := 7) (oi := { dst := some 101, op := Op.move (Operand.tmp 9), type := 26, pos := "law.go:56", after := #[{ on := 6, ground := Ground.guard }], guard := some (6, false) }) (v := ?vk56) rfl (by kernel_rfl) (by kernel_rfl) (by kernel_rfl) (fun _ _ _ h => h) (Or.inl ⟨by rfl, ?hk56⟩) (SB.old U53 SBT.out) ?rk56
          case hk56 => (intro wz hSw; (try dsimp only at hSw); go_simp; try with_reducible rfl)
          (try simp only [Act.put]); (try simp only [List.setIfInBounds_toArray]); (try simp only [List.set_cons_succ]); (try simp only [List.set_cons_zero])
          refine wpAnyH_take (i := 8) (oi := { dst := some 102, op := Op.move (Operand.tmp 2), type := 23, pos := "law.go:56", after := #[{ on := 6, ground := Ground.guard }], guard := some (6, false) }) (v := ?vk57) rfl (by kernel_rfl) (by kernel_rfl) (by kernel_rfl) (fun _ _ _ h => h) (Or.inl ⟨by rfl, ?hk57⟩) (SB.old U53 SBT.out) ?rk57
          case hk57 => (intro wz hSw; (try dsimp only at hSw); go_simp; try with_reducible rfl)
          (try simp only [Act.put]); (try simp only [List.setIfInBounds_toArray]); (try simp only [List.set_cons_succ]); (try simp only [List.set_cons_zero])
          refine wpAnyH_take (i := 10) (oi := { dst := some 104, op := Op.load 31 (Operand.tmp 10), type := 31, pos := "law.go:56", after := #[{ on := 6, ground := Ground.guard }], guard := some (6, false) }) (v := ?vk58) rfl (by kernel_rfl) (by kernel_rfl) (by kernel_rfl) (fun _ _ _ h => h) (Or.inl ⟨by rfl, ?hk58⟩) (SB.old U53 SBT.out) ?rk58
          case hk58 => (intro wz hSw; (try dsimp only at hSw); go_simp; try with_reducible rfl)
          (try simp only [Act.put]); (try simp only [List.setIfInBounds_toArray]); (try simp only [List.set_cons_succ]); (try simp only [List.set_cons_zero])
          refine wpAnyH_take (i := 11) (oi := { dst := some 105, op := Op.move (Operand.tmp 2), type := 23, pos := "law.go:56", after := #[{ on := 6, ground := Ground.guard }], guard := some (6, false) }) (v := ?vk59) rfl (by kernel_rfl) (by kernel_rfl) (by kernel_rfl) (fun _ _ _ h => h) (Or.inl ⟨by rfl, ?hk59⟩) (SB.old U53 SBT.out) ?rk59
          case hk59 => (intro wz hSw; (try dsimp only at hSw); go_simp; try with_reducible rfl)
          (try simp only [Act.put]); (try simp only [List.setIfInBounds_toArray]); (try simp only [List.set_cons_succ]); (try simp only [List.set_cons_zero])
          refine wpAnyH_ready (rs := [9]) (by kernel_rfl) (by simp) ?_
          refine AllReadyH.cons (o := { dst := some 103, op := Op.call { callee := Callee.value (Operand.func 14), args := #[Operand.tmp 101, Operand.tmp 102], argTypes := #[26, 23] }, type := 2, pos := "law.go:56", after := #[{ on := 7, ground := Ground.data }, { on := 8, ground := Ground.data }, { on := 6, ground := Ground.chain }, { on := 6, ground := Ground.guard }], guard := some (6, false) }) rfl (fun K hK => ?_) AllReadyH.nil
          refine wantCall2 ?_ 14 (.tmp 101) (.tmp 102) #[26, 23] ?_ (.pointer (some ⟨tb, 0, none⟩)) (.float .f64 key) ?_ ?_ ?_ (ent_at _ _) ?_
          · rfl
          · rfl
          · rfl
          · rfl
          · rfl
          refine (HK1.out _ U53).mono ?_
          rintro o x60 ⟨rfl, b60⟩
          refine ⟨_, rfl, ?_⟩
          have U60 := U53.trans b60
          refine hK.out _ _ (SB.old U60 SBT.out) (fun _ => ?_)
          clear hK K
          (try simp only [Act.put]); (try simp only [List.setIfInBounds_toArray]); (try simp only [List.set_cons_succ]); (try simp only [List.set_cons_zero])
          refine wpAnyH_ready (rs := [12]) (by kernel_rfl) (by simp) ?_
          refine AllReadyH.cons (o := { dst := some 106, op := Op.call { callee := Callee.value (Operand.func 15), args := #[Operand.tmp 104, Operand.tmp 105], argTypes := #[31, 23] }, type := 2, pos := "law.go:56", after := #[{ on := 10, ground := Ground.data }, { on := 11, ground := Ground.data }, { on := 9, ground := Ground.chain }, { on := 6, ground := Ground.guard }], guard := some (6, false) }) rfl (fun K hK => ?_) AllReadyH.nil
          refine wantCall2 ?_ 15 (.tmp 104) (.tmp 105) #[31, 23] ?_ (.agg #[.int .i64 most, .slice a5 K9.length c5]) (.float .f64 key) ?_ ?_ ?_ (ent_rat _ _) ?_
          · rfl
          · rfl
          · rfl
          · rfl
          · rfl
          refine (HK2.out _ U60).mono ?_
          rintro o x61 ⟨rfl, b61⟩
          refine ⟨_, rfl, ?_⟩
          have U61 := U60.trans b61
          refine hK.out _ _ (SB.old U61 SBT.out) (fun _ => ?_)
          clear hK K
          (try simp only [Act.put]); (try simp only [List.setIfInBounds_toArray]); (try simp only [List.set_cons_succ]); (try simp only [List.set_cons_zero])
          refine wpAnyH_take (i := 13) (oi := { dst := some 107, op := Op.binOp BinOp.neq 2 (Operand.tmp 103) (Operand.tmp 106) 2, type := 4, pos := "law.go:56", after := #[{ on := 9, ground := Ground.data }, { on := 12, ground := Ground.data }, { on := 6, ground := Ground.guard }], guard := some (6, false) }) (v := ?vk62) rfl (by kernel_rfl) (by kernel_rfl) (by kernel_rfl) (fun _ _ _ h => h) (Or.inl ⟨by rfl, ?hk62⟩) (SB.old U61 SBT.out) ?rk62
          case hk62 => (intro wz hSw; (try dsimp only at hSw); go_simp; try with_reducible rfl)
          (try simp only [Act.put]); (try simp only [List.setIfInBounds_toArray]); (try simp only [List.set_cons_succ]); (try simp only [List.set_cons_zero])
          refine wpAnyH_take (i := 14) (oi := { dst := some 108, op := Op.pick (Operand.tmp 100) (Operand.const (Value.bool true)) (Operand.tmp 107), type := 4, pos := "law.go:56", after := #[{ on := 6, ground := Ground.data }, { on := 13, ground := Ground.data }], guard := none }) (v := ?vk63) rfl (by kernel_rfl) (by kernel_rfl) (by kernel_rfl) (fun _ _ _ h => h) (Or.inl ⟨by rfl, ?hk63⟩) (SB.old U61 SBT.out) ?rk63
          case hk63 => (intro wz hSw; (try dsimp only at hSw); go_simp; try with_reducible rfl)
          (try simp only [Act.put]); (try simp only [List.setIfInBounds_toArray]); (try simp only [List.set_cons_succ]); (try simp only [List.set_cons_zero])
          refine wpAnyH_take (i := 15) (oi := { dst := some 109, op := Op.move (Operand.tmp 108), type := 4, pos := "law.go:56", after := #[{ on := 14, ground := Ground.data }, { on := 12, ground := Ground.chain }], guard := none }) (v := ?vk64) rfl (by kernel_rfl) (by kernel_rfl) (by kernel_rfl) (fun _ _ _ h => h) (Or.inl ⟨by rfl, ?hk64⟩) (SB.old U61 SBT.out) ?rk64
          case hk64 => (intro wz hSw; (try dsimp only at hSw); go_simp; try with_reducible rfl)
          (try simp only [Act.put]); (try simp only [List.setIfInBounds_toArray]); (try simp only [List.set_cons_succ]); (try simp only [List.set_cons_zero])
          refine wpAnyH_take (i := 16) (oi := { dst := some 110, op := Op.move (Operand.tmp 9), type := 26, pos := "law.go:56", after := #[{ on := 15, ground := Ground.guard }], guard := some (15, false) }) (v := ?vk65) rfl (by kernel_rfl) (by kernel_rfl) (by kernel_rfl) (fun _ _ _ h => h) (Or.inl ⟨by rfl, ?hk65⟩) (SB.old U61 SBT.out) ?rk65
          case hk65 => (intro wz hSw; (try dsimp only at hSw); go_simp; try with_reducible rfl)
          (try simp only [Act.put]); (try simp only [List.setIfInBounds_toArray]); (try simp only [List.set_cons_succ]); (try simp only [List.set_cons_zero])
          refine wpAnyH_take (i := 17) (oi := { dst := some 111, op := Op.load 25 (Operand.tmp 7), type := 25, pos := "law.go:56", after := #[{ on := 15, ground := Ground.guard }], guard := some (15, false) }) (v := ?vk66) rfl (by kernel_rfl) (by kernel_rfl) (by kernel_rfl) (fun _ _ _ h => h) (Or.inl ⟨by rfl, ?hk66⟩) (SB.old U61 SBT.out) ?rk66
          case hk66 => (intro wz hSw; (try dsimp only at hSw); go_simp; try with_reducible rfl)
          (try simp only [Act.put]); (try simp only [List.setIfInBounds_toArray]); (try simp only [List.set_cons_succ]); (try simp only [List.set_cons_zero])
          refine wpAnyH_take (i := 19) (oi := { dst := some 113, op := Op.load 31 (Operand.tmp 10), type := 31, pos := "law.go:56", after := #[{ on := 15, ground := Ground.guard }], guard := some (15, false) }) (v := ?vk67) rfl (by kernel_rfl) (by kernel_rfl) (by kernel_rfl) (fun _ _ _ h => h) (Or.inl ⟨by rfl, ?hk67⟩) (SB.old U61 SBT.out) ?rk67
          case hk67 => (intro wz hSw; (try dsimp only at hSw); go_simp; try with_reducible rfl)
          (try simp only [Act.put]); (try simp only [List.setIfInBounds_toArray]); (try simp only [List.set_cons_succ]); (try simp only [List.set_cons_zero])
          refine wpAnyH_take (i := 20) (oi := { dst := some 114, op := Op.load 25 (Operand.tmp 7), type := 25, pos := "law.go:56", after := #[{ on := 15, ground := Ground.guard }], guard := some (15, false) }) (v := ?vk68) rfl (by kernel_rfl) (by kernel_rfl) (by kernel_rfl) (fun _ _ _ h => h) (Or.inl ⟨by rfl, ?hk68⟩) (SB.old U61 SBT.out) ?rk68
          case hk68 => (intro wz hSw; (try dsimp only at hSw); go_simp; try with_reducible rfl)
          (try simp only [Act.put]); (try simp only [List.setIfInBounds_toArray]); (try simp only [List.set_cons_succ]); (try simp only [List.set_cons_zero])
          refine wpAnyH_ready (rs := [18]) (by kernel_rfl) (by simp) ?_
          refine AllReadyH.cons (o := { dst := some 112, op := Op.call { callee := Callee.value (Operand.func 20), args := #[Operand.tmp 110, Operand.tmp 111], argTypes := #[26, 25] }, type := 2, pos := "law.go:56", after := #[{ on := 16, ground := Ground.data }, { on := 17, ground := Ground.data }, { on := 15, ground := Ground.chain }, { on := 15, ground := Ground.guard }], guard := some (15, false) }) rfl (fun K hK => ?_) AllReadyH.nil
          refine wantCall2 ?_ 20 (.tmp 110) (.tmp 111) #[26, 25] ?_ (.pointer (some ⟨tb, 0, none⟩)) (.agg #[.float .f64 x, .float .f64 y, .bool p, .bool q]) ?_ ?_ ?_ (ent_over _ _) ?_
          · rfl
          · rfl
          · rfl
          · rfl
          · rfl
          refine (HV1.out _ U61).mono ?_
          rintro o x69 ⟨rfl, b69⟩
          refine ⟨_, rfl, ?_⟩
          have U69 := U61.trans b69
          refine hK.out _ _ (SB.old U69 SBT.out) (fun _ => ?_)
          clear hK K
          (try simp only [Act.put]); (try simp only [List.setIfInBounds_toArray]); (try simp only [List.set_cons_succ]); (try simp only [List.set_cons_zero])
          refine wpAnyH_ready (rs := [21]) (by kernel_rfl) (by simp) ?_
          refine AllReadyH.cons (o := { dst := some 115, op := Op.call { callee := Callee.value (Operand.func 21), args := #[Operand.tmp 113, Operand.tmp 114], argTypes := #[31, 25] }, type := 2, pos := "law.go:56", after := #[{ on := 19, ground := Ground.data }, { on := 20, ground := Ground.data }, { on := 18, ground := Ground.chain }, { on := 15, ground := Ground.guard }], guard := some (15, false) }) rfl (fun K hK => ?_) AllReadyH.nil
          refine wantCall2 ?_ 21 (.tmp 113) (.tmp 114) #[31, 25] ?_ (.agg #[.int .i64 most, .slice a5 K9.length c5]) (.agg #[.float .f64 x, .float .f64 y, .bool p, .bool q]) ?_ ?_ ?_ (ent_rover _ _) ?_
          · rfl
          · rfl
          · rfl
          · rfl
          · rfl
          refine (HV2.out _ U69).mono ?_
          rintro o x70 ⟨rfl, b70⟩
          refine ⟨_, rfl, ?_⟩
          have U70 := U69.trans b70
          refine hK.out _ _ (SB.old U70 SBT.out) (fun _ => ?_)
          clear hK K
          (try simp only [Act.put]); (try simp only [List.setIfInBounds_toArray]); (try simp only [List.set_cons_succ]); (try simp only [List.set_cons_zero])
          refine wpAnyH_take (i := 22) (oi := { dst := some 116, op := Op.binOp BinOp.neq 2 (Operand.tmp 112) (Operand.tmp 115) 2, type := 4, pos := "law.go:56", after := #[{ on := 18, ground := Ground.data }, { on := 21, ground := Ground.data }, { on := 15, ground := Ground.guard }], guard := some (15, false) }) (v := ?vk71) rfl (by kernel_rfl) (by kernel_rfl) (by kernel_rfl) (fun _ _ _ h => h) (Or.inl ⟨by rfl, ?hk71⟩) (SB.old U70 SBT.out) ?rk71
          case hk71 => (intro wz hSw; (try dsimp only at hSw); go_simp; try with_reducible rfl)
          (try simp only [Act.put]); (try simp only [List.setIfInBounds_toArray]); (try simp only [List.set_cons_succ]); (try simp only [List.set_cons_zero])
          refine wpAnyH_take (i := 23) (oi := { dst := some 117, op := Op.pick (Operand.tmp 109) (Operand.const (Value.bool true)) (Operand.tmp 116), type := 4, pos := "law.go:56", after := #[{ on := 15, ground := Ground.data }, { on := 22, ground := Ground.data }], guard := none }) (v := ?vk72) rfl (by kernel_rfl) (by kernel_rfl) (by kernel_rfl) (fun _ _ _ h => h) (Or.inl ⟨by rfl, ?hk72⟩) (SB.old U70 SBT.out) ?rk72
          case hk72 => (intro wz hSw; (try dsimp only at hSw); go_simp; try with_reducible rfl)
          (try simp only [Act.put]); (try simp only [List.setIfInBounds_toArray]); (try simp only [List.set_cons_succ]); (try simp only [List.set_cons_zero])
          refine wpAnyH_done (by kernel_rfl) ?_ _
          refine NoPanic.normal ?_
          have U9 := hid U70
          clear HLn HK1 HK2 HV1 HV2 SBT
          go_wp2
          go_roundw
          case rel => exact ⟨k + 1, hlt, by go_num, _, _, _, _, P7.out.to U9.out⟩
          case measure => simp [intOf]; omega
        · have j2 : (z.kd == 2) = false := by rw [beq_eq_false_iff_ne]; exact k2
          clear k2
          by_cases k3 : z.kd = 3
          · have j3 : (z.kd == 3) = true := by rw [beq_iff_eq]; exact k3
            clear k3
            have HC := hid (clear_any tb tb most v L w4 P4.out.tab)
            go_upto_region 22 with (first | (go_at_call 18; refine HC.out.mono ?_; rintro e w5 ⟨rfl, t5, c5⟩; have T5 := hid t5; have C5 := hid c5; clear t5 c5))
            have R5 := hid (P4.out.turn C5.out HTB.out.symm)
            obtain ⟨b0, b1, f0, f1⟩ := R5.out.2.1
            go_upto_region 23 with fail
            generalize hw6 : w5.setCell ⟨mb, 1, none⟩ (.slice none 0 0) = w6 at *
            have HMB5 := hid (show mb ∉ blks tb (.slice none 0 0) from fun e => by
              rcases mem_blks.1 e with r | r
              · have := HTM.out; omega
              · simp [Value.ownBlock] at r)
            have K6 := hid (box_nil hw6 T5.out R5.out.2.1 HMB5.out R5.out.2.2 HMB.out)
            clear hw6
            obtain ⟨L9, hL9⟩ : ∃ L9 : List It, L9 = [] := ⟨_, rfl⟩
            have P6 := hid (show Play tb mb most w (.slice none 0 0) L9 (.slice none L9.length 0) L9 w6 from by
              subst hL9
              exact ⟨K6.out.1, good0, by simpa using hm0.out, List.Perm.refl _, K6.out.2.1, K6.out.2.2.1, fun g hg hg2 => by
                rcases mem_blks.1 hg2 with s | s
                · subst s; exact HMB5.out hg
                · simp [Value.ownBlock] at s, by simp [Value.ownBlock], K6.out.2.2.2⟩)
            clear hL9 b0 b1 f0 f1 K6 R5 T5 C5 HC HMB5 P4 B4 o0 o1 o2
            have SBT := hid (show SB mb most none L9.length 0 sb x y p q w6 from ⟨⟨P6.out.old.keep HS.out.1, P6.out.old.keep HS.out.2.1, P6.out.old.keep HS.out.2.2.1, P6.out.old.keep HS.out.2.2.2⟩, P6.out.box.1, P6.out.box.2.1⟩)
            have hz1 : L9.length ≤ 1000000 := by have := P6.out.len; have := hm64.out; omega
            have hz2 : L9.length ≤ 1000000 := by rw [P6.out.perm.length_eq]; exact hz1
            have HLn := hid (fun (W : World) (u : Old w6 W) => (len_any tb tb most (.slice none 0 0) L9 W (P6.out.tab.old u)).mono fun e w' h => (⟨h.1, by rw [h.2]; exact Old.refl _⟩ : _ ∧ Old W w'))
            have HK1 := hid (fun (W : World) (u : Old w6 W) => at_any tb tb most (.slice none 0 0) L9 key hkey W (P6.out.tab.old u) P6.out.good hz1)
            have HK2 := hid (fun (W : World) (u : Old w6 W) => rAt_any tb most (.slice none L9.length 0) L9 key hkey P6.out.w W (P6.out.own.old u) hz2)
            rw [at_perm P6.out.perm P6.out.good.1] at HK2
            have HV1 := hid (fun (W : World) (u : Old w6 W) => over_any tb tb most (.slice none 0 0) L9 x y hx hy p q W (P6.out.tab.old u) P6.out.good hz1)
            have HV2 := hid (fun (W : World) (u : Old w6 W) => rOver_any tb most (.slice none L9.length 0) L9 x y p q hx hy P6.out.w W (P6.out.own.old u) hz2)
            rw [over_perm P6.out.perm] at HV2
            generalize atL (Fl.code key) L9 = A at *
            generalize overT (hasB x y p q) L9 L9.length = R at *
            refine wp_region_noPanic ?_
            refine wp_region_held_drew (S := SB mb most none L9.length 0 sb x y p q) (by kernel_rfl) ?_ (fun hHeld => ?_)
            · exact SB.old ((Old.refl _).drew) SBT.out
            (try simp only [Act.put]); (try simp only [List.setIfInBounds_toArray]); (try simp only [List.set_cons_succ]); (try simp only [List.set_cons_zero])
            clear hHeld
            refine wpAnyH_take (i := 0) (oi := { dst := some 94, op := Op.move (Operand.tmp 9), type := 26, pos := "law.go:56", after := #[], guard := none }) (v := ?vk73) rfl (by kernel_rfl) (by kernel_rfl) (by kernel_rfl) (fun _ _ _ h => h) (Or.inl ⟨by rfl, ?hk73⟩) (SB.old ((Old.refl w6).drew) SBT.out) ?rk73
            case hk73 => (intro wz hSw; (try dsimp only at hSw); go_simp; try with_reducible rfl)
            (try simp only [Act.put]); (try simp only [List.setIfInBounds_toArray]); (try simp only [List.set_cons_succ]); (try simp only [List.set_cons_zero])
            refine wpAnyH_take (i := 2) (oi := { dst := some 96, op := Op.fieldAddr 31 (Operand.tmp 10) 1, type := 0, pos := "law.go:56", after := #[], guard := none }) (v := ?vk74) rfl (by kernel_rfl) (by kernel_rfl) (by kernel_rfl) (fun _ _ _ h => h) (Or.inl ⟨by rfl, ?hk74⟩) (SB.old ((Old.refl w6).drew) SBT.out) ?rk74
            case hk74 => (intro wz hSw; (try dsimp only at hSw); go_simp; try with_reducible rfl)
            (try simp only [Act.put]); (try simp only [List.setIfInBounds_toArray]); (try simp only [List.set_cons_succ]); (try simp only [List.set_cons_zero])
            refine wpAnyH_take (i := 3) (oi := { dst := some 97, op := Op.load 29 (Operand.tmp 96), type := 29, pos := "law.go:56", after := #[{ on := 2, ground := Ground.data }], guard := none }) (v := ?vk75) rfl (by kernel_rfl) (by kernel_rfl) (by kernel_rfl) (fun _ _ _ h => h) (Or.inl ⟨by rfl, ?hk75⟩) (SB.old ((Old.refl w6).drew) SBT.out) ?rk75
            case hk75 => (intro wz hSw; (try dsimp only at hSw); go_simp; try with_reducible rfl)
            (try simp only [Act.put]); (try simp only [List.setIfInBounds_toArray]); (try simp only [List.set_cons_succ]); (try simp only [List.set_cons_zero])
            refine wpAnyH_take (i := 4) (oi := { dst := some 98, op := Op.call { callee := Callee.builtin Builtin.len, args := #[Operand.tmp 97], argTypes := #[29] }, type := 3, pos := "law.go:56", after := #[{ on := 3, ground := Ground.data }], guard := none }) (v := ?vk76) rfl (by kernel_rfl) (by kernel_rfl) (by kernel_rfl) (fun _ _ _ h => h) (Or.inl ⟨by rfl, ?hk76⟩) (SB.old ((Old.refl w6).drew) SBT.out) ?rk76
            case hk76 => (intro wz hSw; (try dsimp only at hSw); go_simp; try with_reducible rfl)
            (try simp only [Act.put]); (try simp only [List.setIfInBounds_toArray]); (try simp only [List.set_cons_succ]); (try simp only [List.set_cons_zero])
            refine wpAnyH_ready (rs := [1]) (by kernel_rfl) (by simp) ?_
            refine AllReadyH.cons (o := { dst := some 95, op := Op.call { callee := Callee.value (Operand.func 19), args := #[Operand.tmp 94], argTypes := #[26] }, type := 3, pos := "law.go:56", after := #[{ on := 0, ground := Ground.data }], guard := none }) rfl (fun K hK => ?_) AllReadyH.nil
            refine wantCall1 ?_ 19 (.tmp 94) #[26] ?_ (.pointer (some ⟨tb, 0, none⟩)) ?_ ?_ (ent_len _ _) ?_
            · rfl
            · rfl
            · rfl
            · rfl
            refine (HLn.out _ ((Old.refl w6).drew)).mono ?_
            rintro o x77 ⟨rfl, b77⟩
            refine ⟨_, rfl, ?_⟩
            have U77 := ((Old.refl w6).drew).trans b77
            refine hK.out _ _ (SB.old U77 SBT.out) (fun _ => ?_)
            clear hK K
            (try simp only [Act.put]); (try simp only [List.setIfInBounds_toArray]); (try simp only [List.set_cons_succ]); (try simp only [List.set_cons_zero])
            refine wpAnyH_take (i := 5) (oi := { dst := some 99, op := Op.binOp BinOp.neq 3 (Operand.tmp 95) (Operand.tmp 98) 3, type := 4, pos := "law.go:56", after := #[{ on := 1, ground := Ground.data }, { on := 4, ground := Ground.data }], guard := none }) (v := ?vk78) rfl (by kernel_rfl) (by kernel_rfl) (by kernel_rfl) (fun _ _ _ h => h) (Or.inl ⟨by rfl, ?hk78⟩) (SB.old U77 SBT.out) ?rk78
            case hk78 => (intro wz hSw; (try dsimp only at hSw); go_simp; try with_reducible rfl)
            (try simp only [Act.put]); (try simp only [List.setIfInBounds_toArray]); (try simp only [List.set_cons_succ]); (try simp only [List.set_cons_zero])
            refine wpAnyH_take (i := 6) (oi := { dst := some 100, op := Op.move (Operand.tmp 99), type := 4, pos := "law.go:56", after := #[{ on := 5, ground := Ground.data }, { on := 1, ground := Ground.chain }], guard := none }) (v := ?vk79) rfl (by kernel_rfl) (by kernel_rfl) (by kernel_rfl) (fun _ _ _ h => h) (Or.inl ⟨by rfl, ?hk79⟩) (SB.old U77 SBT.out) ?rk79
            case hk79 => (intro wz hSw; (try dsimp only at hSw); go_simp; try with_reducible rfl)
            (try simp only [Act.put]); (try simp only [List.setIfInBounds_toArray]); (try simp only [List.set_cons_succ]); (try simp only [List.set_cons_zero])
            refine wpAnyH_take (i := 7) (oi := { dst := some 101, op := Op.move (Operand.tmp 9), type := 26, pos := "law.go:56", after := #[{ on := 6, ground := Ground.guard }], guard := some (6, false) }) (v := ?vk80) rfl (by kernel_rfl) (by kernel_rfl) (by kernel_rfl) (fun _ _ _ h => h) (Or.inl ⟨by rfl, ?hk80⟩) (SB.old U77 SBT.out) ?rk80
            case hk80 => (intro wz hSw; (try dsimp only at hSw); go_simp; try with_reducible rfl)
            (try simp only [Act.put]); (try simp only [List.setIfInBounds_toArray]); (try simp only [List.set_cons_succ]); (try simp only [List.set_cons_zero])
            refine wpAnyH_take (i := 8) (oi := { dst := some 102, op := Op.move (Operand.tmp 2), type := 23, pos := "law.go:56", after := #[{ on := 6, ground := Ground.guard }], guard := some (6, false) }) (v := ?vk81) rfl (by kernel_rfl) (by kernel_rfl) (by kernel_rfl) (fun _ _ _ h => h) (Or.inl ⟨by rfl, ?hk81⟩) (SB.old U77 SBT.out) ?rk81
            case hk81 => (intro wz hSw; (try dsimp only at hSw); go_simp; try with_reducible rfl)
            (try simp only [Act.put]); (try simp only [List.setIfInBounds_toArray]); (try simp only [List.set_cons_succ]); (try simp only [List.set_cons_zero])
            refine wpAnyH_take (i := 10) (oi := { dst := some 104, op := Op.load 31 (Operand.tmp 10), type := 31, pos := "law.go:56", after := #[{ on := 6, ground := Ground.guard }], guard := some (6, false) }) (v := ?vk82) rfl (by kernel_rfl) (by kernel_rfl) (by kernel_rfl) (fun _ _ _ h => h) (Or.inl ⟨by rfl, ?hk82⟩) (SB.old U77 SBT.out) ?rk82
            case hk82 => (intro wz hSw; (try dsimp only at hSw); go_simp; try with_reducible rfl)
            (try simp only [Act.put]); (try simp only [List.setIfInBounds_toArray]); (try simp only [List.set_cons_succ]); (try simp only [List.set_cons_zero])
            refine wpAnyH_take (i := 11) (oi := { dst := some 105, op := Op.move (Operand.tmp 2), type := 23, pos := "law.go:56", after := #[{ on := 6, ground := Ground.guard }], guard := some (6, false) }) (v := ?vk83) rfl (by kernel_rfl) (by kernel_rfl) (by kernel_rfl) (fun _ _ _ h => h) (Or.inl ⟨by rfl, ?hk83⟩) (SB.old U77 SBT.out) ?rk83
            case hk83 => (intro wz hSw; (try dsimp only at hSw); go_simp; try with_reducible rfl)
            (try simp only [Act.put]); (try simp only [List.setIfInBounds_toArray]); (try simp only [List.set_cons_succ]); (try simp only [List.set_cons_zero])
            refine wpAnyH_ready (rs := [9]) (by kernel_rfl) (by simp) ?_
            refine AllReadyH.cons (o := { dst := some 103, op := Op.call { callee := Callee.value (Operand.func 14), args := #[Operand.tmp 101, Operand.tmp 102], argTypes := #[26, 23] }, type := 2, pos := "law.go:56", after := #[{ on := 7, ground := Ground.data }, { on := 8, ground := Ground.data }, { on := 6, ground := Ground.chain }, { on := 6, ground := Ground.guard }], guard := some (6, false) }) rfl (fun K hK => ?_) AllReadyH.nil
            refine wantCall2 ?_ 14 (.tmp 101) (.tmp 102) #[26, 23] ?_ (.pointer (some ⟨tb, 0, none⟩)) (.float .f64 key) ?_ ?_ ?_ (ent_at _ _) ?_
            · rfl
            · rfl
            · rfl
            · rfl
            · rfl
            refine (HK1.out _ U77).mono ?_
            rintro o x84 ⟨rfl, b84⟩
            refine ⟨_, rfl, ?_⟩
            have U84 := U77.trans b84
            refine hK.out _ _ (SB.old U84 SBT.out) (fun _ => ?_)
            clear hK K
            (try simp only [Act.put]); (try simp only [List.setIfInBounds_toArray]); (try simp only [List.set_cons_succ]); (try simp only [List.set_cons_zero])
            refine wpAnyH_ready (rs := [12]) (by kernel_rfl) (by simp) ?_
            refine AllReadyH.cons (o := { dst := some 106, op := Op.call { callee := Callee.value (Operand.func 15), args := #[Operand.tmp 104, Operand.tmp 105], argTypes := #[31, 23] }, type := 2, pos := "law.go:56", after := #[{ on := 10, ground := Ground.data }, { on := 11, ground := Ground.data }, { on := 9, ground := Ground.chain }, { on := 6, ground := Ground.guard }], guard := some (6, false) }) rfl (fun K hK => ?_) AllReadyH.nil
            refine wantCall2 ?_ 15 (.tmp 104) (.tmp 105) #[31, 23] ?_ (.agg #[.int .i64 most, .slice none L9.length 0]) (.float .f64 key) ?_ ?_ ?_ (ent_rat _ _) ?_
            · rfl
            · rfl
            · rfl
            · rfl
            · rfl
            refine (HK2.out _ U84).mono ?_
            rintro o x85 ⟨rfl, b85⟩
            refine ⟨_, rfl, ?_⟩
            have U85 := U84.trans b85
            refine hK.out _ _ (SB.old U85 SBT.out) (fun _ => ?_)
            clear hK K
            (try simp only [Act.put]); (try simp only [List.setIfInBounds_toArray]); (try simp only [List.set_cons_succ]); (try simp only [List.set_cons_zero])
            refine wpAnyH_take (i := 13) (oi := { dst := some 107, op := Op.binOp BinOp.neq 2 (Operand.tmp 103) (Operand.tmp 106) 2, type := 4, pos := "law.go:56", after := #[{ on := 9, ground := Ground.data }, { on := 12, ground := Ground.data }, { on := 6, ground := Ground.guard }], guard := some (6, false) }) (v := ?vk86) rfl (by kernel_rfl) (by kernel_rfl) (by kernel_rfl) (fun _ _ _ h => h) (Or.inl ⟨by rfl, ?hk86⟩) (SB.old U85 SBT.out) ?rk86
            case hk86 => (intro wz hSw; (try dsimp only at hSw); go_simp; try with_reducible rfl)
            (try simp only [Act.put]); (try simp only [List.setIfInBounds_toArray]); (try simp only [List.set_cons_succ]); (try simp only [List.set_cons_zero])
            refine wpAnyH_take (i := 14) (oi := { dst := some 108, op := Op.pick (Operand.tmp 100) (Operand.const (Value.bool true)) (Operand.tmp 107), type := 4, pos := "law.go:56", after := #[{ on := 6, ground := Ground.data }, { on := 13, ground := Ground.data }], guard := none }) (v := ?vk87) rfl (by kernel_rfl) (by kernel_rfl) (by kernel_rfl) (fun _ _ _ h => h) (Or.inl ⟨by rfl, ?hk87⟩) (SB.old U85 SBT.out) ?rk87
            case hk87 => (intro wz hSw; (try dsimp only at hSw); go_simp; try with_reducible rfl)
            (try simp only [Act.put]); (try simp only [List.setIfInBounds_toArray]); (try simp only [List.set_cons_succ]); (try simp only [List.set_cons_zero])
            refine wpAnyH_take (i := 15) (oi := { dst := some 109, op := Op.move (Operand.tmp 108), type := 4, pos := "law.go:56", after := #[{ on := 14, ground := Ground.data }, { on := 12, ground := Ground.chain }], guard := none }) (v := ?vk88) rfl (by kernel_rfl) (by kernel_rfl) (by kernel_rfl) (fun _ _ _ h => h) (Or.inl ⟨by rfl, ?hk88⟩) (SB.old U85 SBT.out) ?rk88
            case hk88 => (intro wz hSw; (try dsimp only at hSw); go_simp; try with_reducible rfl)
            (try simp only [Act.put]); (try simp only [List.setIfInBounds_toArray]); (try simp only [List.set_cons_succ]); (try simp only [List.set_cons_zero])
            refine wpAnyH_take (i := 16) (oi := { dst := some 110, op := Op.move (Operand.tmp 9), type := 26, pos := "law.go:56", after := #[{ on := 15, ground := Ground.guard }], guard := some (15, false) }) (v := ?vk89) rfl (by kernel_rfl) (by kernel_rfl) (by kernel_rfl) (fun _ _ _ h => h) (Or.inl ⟨by rfl, ?hk89⟩) (SB.old U85 SBT.out) ?rk89
            case hk89 => (intro wz hSw; (try dsimp only at hSw); go_simp; try with_reducible rfl)
            (try simp only [Act.put]); (try simp only [List.setIfInBounds_toArray]); (try simp only [List.set_cons_succ]); (try simp only [List.set_cons_zero])
            refine wpAnyH_take (i := 17) (oi := { dst := some 111, op := Op.load 25 (Operand.tmp 7), type := 25, pos := "law.go:56", after := #[{ on := 15, ground := Ground.guard }], guard := some (15, false) }) (v := ?vk90) rfl (by kernel_rfl) (by kernel_rfl) (by kernel_rfl) (fun _ _ _ h => h) (Or.inl ⟨by rfl, ?hk90⟩) (SB.old U85 SBT.out) ?rk90
            case hk90 => (intro wz hSw; (try dsimp only at hSw); go_simp; try with_reducible rfl)
            (try simp only [Act.put]); (try simp only [List.setIfInBounds_toArray]); (try simp only [List.set_cons_succ]); (try simp only [List.set_cons_zero])
            refine wpAnyH_take (i := 19) (oi := { dst := some 113, op := Op.load 31 (Operand.tmp 10), type := 31, pos := "law.go:56", after := #[{ on := 15, ground := Ground.guard }], guard := some (15, false) }) (v := ?vk91) rfl (by kernel_rfl) (by kernel_rfl) (by kernel_rfl) (fun _ _ _ h => h) (Or.inl ⟨by rfl, ?hk91⟩) (SB.old U85 SBT.out) ?rk91
            case hk91 => (intro wz hSw; (try dsimp only at hSw); go_simp; try with_reducible rfl)
            (try simp only [Act.put]); (try simp only [List.setIfInBounds_toArray]); (try simp only [List.set_cons_succ]); (try simp only [List.set_cons_zero])
            refine wpAnyH_take (i := 20) (oi := { dst := some 114, op := Op.load 25 (Operand.tmp 7), type := 25, pos := "law.go:56", after := #[{ on := 15, ground := Ground.guard }], guard := some (15, false) }) (v := ?vk92) rfl (by kernel_rfl) (by kernel_rfl) (by kernel_rfl) (fun _ _ _ h => h) (Or.inl ⟨by rfl, ?hk92⟩) (SB.old U85 SBT.out) ?rk92
            case hk92 => (intro wz hSw; (try dsimp only at hSw); go_simp; try with_reducible rfl)
            (try simp only [Act.put]); (try simp only [List.setIfInBounds_toArray]); (try simp only [List.set_cons_succ]); (try simp only [List.set_cons_zero])
            refine wpAnyH_ready (rs := [18]) (by kernel_rfl) (by simp) ?_
            refine AllReadyH.cons (o := { dst := some 112, op := Op.call { callee := Callee.value (Operand.func 20), args := #[Operand.tmp 110, Operand.tmp 111], argTypes := #[26, 25] }, type := 2, pos := "law.go:56", after := #[{ on := 16, ground := Ground.data }, { on := 17, ground := Ground.data }, { on := 15, ground := Ground.chain }, { on := 15, ground := Ground.guard }], guard := some (15, false) }) rfl (fun K hK => ?_) AllReadyH.nil
            refine wantCall2 ?_ 20 (.tmp 110) (.tmp 111) #[26, 25] ?_ (.pointer (some ⟨tb, 0, none⟩)) (.agg #[.float .f64 x, .float .f64 y, .bool p, .bool q]) ?_ ?_ ?_ (ent_over _ _) ?_
            · rfl
            · rfl
            · rfl
            · rfl
            · rfl
            refine (HV1.out _ U85).mono ?_
            rintro o x93 ⟨rfl, b93⟩
            refine ⟨_, rfl, ?_⟩
            have U93 := U85.trans b93
            refine hK.out _ _ (SB.old U93 SBT.out) (fun _ => ?_)
            clear hK K
            (try simp only [Act.put]); (try simp only [List.setIfInBounds_toArray]); (try simp only [List.set_cons_succ]); (try simp only [List.set_cons_zero])
            refine wpAnyH_ready (rs := [21]) (by kernel_rfl) (by simp) ?_
            refine AllReadyH.cons (o := { dst := some 115, op := Op.call { callee := Callee.value (Operand.func 21), args := #[Operand.tmp 113, Operand.tmp 114], argTypes := #[31, 25] }, type := 2, pos := "law.go:56", after := #[{ on := 19, ground := Ground.data }, { on := 20, ground := Ground.data }, { on := 18, ground := Ground.chain }, { on := 15, ground := Ground.guard }], guard := some (15, false) }) rfl (fun K hK => ?_) AllReadyH.nil
            refine wantCall2 ?_ 21 (.tmp 113) (.tmp 114) #[31, 25] ?_ (.agg #[.int .i64 most, .slice none L9.length 0]) (.agg #[.float .f64 x, .float .f64 y, .bool p, .bool q]) ?_ ?_ ?_ (ent_rover _ _) ?_
            · rfl
            · rfl
            · rfl
            · rfl
            · rfl
            refine (HV2.out _ U93).mono ?_
            rintro o x94 ⟨rfl, b94⟩
            refine ⟨_, rfl, ?_⟩
            have U94 := U93.trans b94
            refine hK.out _ _ (SB.old U94 SBT.out) (fun _ => ?_)
            clear hK K
            (try simp only [Act.put]); (try simp only [List.setIfInBounds_toArray]); (try simp only [List.set_cons_succ]); (try simp only [List.set_cons_zero])
            refine wpAnyH_take (i := 22) (oi := { dst := some 116, op := Op.binOp BinOp.neq 2 (Operand.tmp 112) (Operand.tmp 115) 2, type := 4, pos := "law.go:56", after := #[{ on := 18, ground := Ground.data }, { on := 21, ground := Ground.data }, { on := 15, ground := Ground.guard }], guard := some (15, false) }) (v := ?vk95) rfl (by kernel_rfl) (by kernel_rfl) (by kernel_rfl) (fun _ _ _ h => h) (Or.inl ⟨by rfl, ?hk95⟩) (SB.old U94 SBT.out) ?rk95
            case hk95 => (intro wz hSw; (try dsimp only at hSw); go_simp; try with_reducible rfl)
            (try simp only [Act.put]); (try simp only [List.setIfInBounds_toArray]); (try simp only [List.set_cons_succ]); (try simp only [List.set_cons_zero])
            refine wpAnyH_take (i := 23) (oi := { dst := some 117, op := Op.pick (Operand.tmp 109) (Operand.const (Value.bool true)) (Operand.tmp 116), type := 4, pos := "law.go:56", after := #[{ on := 15, ground := Ground.data }, { on := 22, ground := Ground.data }], guard := none }) (v := ?vk96) rfl (by kernel_rfl) (by kernel_rfl) (by kernel_rfl) (fun _ _ _ h => h) (Or.inl ⟨by rfl, ?hk96⟩) (SB.old U94 SBT.out) ?rk96
            case hk96 => (intro wz hSw; (try dsimp only at hSw); go_simp; try with_reducible rfl)
            (try simp only [Act.put]); (try simp only [List.setIfInBounds_toArray]); (try simp only [List.set_cons_succ]); (try simp only [List.set_cons_zero])
            refine wpAnyH_done (by kernel_rfl) ?_ _
            refine NoPanic.normal ?_
            have U9 := hid U94
            clear HLn HK1 HK2 HV1 HV2 SBT
            go_wp2
            go_roundw
            case rel => exact ⟨k + 1, hlt, by go_num, _, _, _, _, P6.out.to U9.out⟩
            case measure => simp [intOf]; omega
          · have j3 : (z.kd == 3) = false := by rw [beq_eq_false_iff_ne]; exact k3
            clear k3
            have SBT := hid (show SB mb most a L.length c sb x y p q w4 from ⟨⟨P4.out.old.keep HS.out.1, P4.out.old.keep HS.out.2.1, P4.out.old.keep HS.out.2.2.1, P4.out.old.keep HS.out.2.2.2⟩, P4.out.box.1, P4.out.box.2.1⟩)
            have hz1 : L.length ≤ 1000000 := by have := P4.out.len; have := hm64.out; omega
            have hz2 : M.length ≤ 1000000 := by rw [P4.out.perm.length_eq]; exact hz1
            have HLn := hid (fun (W : World) (u : Old w4 W) => (len_any tb tb most v L W (P4.out.tab.old u)).mono fun e w' h => (⟨h.1, by rw [h.2]; exact Old.refl _⟩ : _ ∧ Old W w'))
            have HK1 := hid (fun (W : World) (u : Old w4 W) => at_any tb tb most v L key hkey W (P4.out.tab.old u) P4.out.good hz1)
            have HK2 := hid (fun (W : World) (u : Old w4 W) => rAt_any tb most (.slice a L.length c) M key hkey P4.out.w W (P4.out.own.old u) hz2)
            rw [at_perm P4.out.perm P4.out.good.1] at HK2
            have HV1 := hid (fun (W : World) (u : Old w4 W) => over_any tb tb most v L x y hx hy p q W (P4.out.tab.old u) P4.out.good hz1)
            have HV2 := hid (fun (W : World) (u : Old w4 W) => rOver_any tb most (.slice a L.length c) M x y p q hx hy P4.out.w W (P4.out.own.old u) hz2)
            rw [over_perm P4.out.perm] at HV2
            generalize atL (Fl.code key) L = A at *
            generalize overT (hasB x y p q) L L.length = R at *
            go_upto_region 23 with fail
            refine wp_region_noPanic ?_
            refine wp_region_held_drew (S := SB mb most a L.length c sb x y p q) (by kernel_rfl) ?_ (fun hHeld => ?_)
            · exact SB.old ((Old.refl _).drew) SBT.out
            (try simp only [Act.put]); (try simp only [List.setIfInBounds_toArray]); (try simp only [List.set_cons_succ]); (try simp only [List.set_cons_zero])
            clear hHeld
            refine wpAnyH_take (i := 0) (oi := { dst := some 94, op := Op.move (Operand.tmp 9), type := 26, pos := "law.go:56", after := #[], guard := none }) (v := ?vk97) rfl (by kernel_rfl) (by kernel_rfl) (by kernel_rfl) (fun _ _ _ h => h) (Or.inl ⟨by rfl, ?hk97⟩) (SB.old ((Old.refl w4).drew) SBT.out) ?rk97
            case hk97 => (intro wz hSw; (try dsimp only at hSw); go_simp; try with_reducible rfl)
            (try simp only [Act.put]); (try simp only [List.setIfInBounds_toArray]); (try simp only [List.set_cons_succ]); (try simp only [List.set_cons_zero])
            refine wpAnyH_take (i := 2) (oi := { dst := some 96, op := Op.fieldAddr 31 (Operand.tmp 10) 1, type := 0, pos := "law.go:56", after := #[], guard := none }) (v := ?vk98) rfl (by kernel_rfl) (by kernel_rfl) (by kernel_rfl) (fun _ _ _ h => h) (Or.inl ⟨by rfl, ?hk98⟩) (SB.old ((Old.refl w4).drew) SBT.out) ?rk98
            case hk98 => (intro wz hSw; (try dsimp only at hSw); go_simp; try with_reducible rfl)
            (try simp only [Act.put]); (try simp only [List.setIfInBounds_toArray]); (try simp only [List.set_cons_succ]); (try simp only [List.set_cons_zero])
            refine wpAnyH_take (i := 3) (oi := { dst := some 97, op := Op.load 29 (Operand.tmp 96), type := 29, pos := "law.go:56", after := #[{ on := 2, ground := Ground.data }], guard := none }) (v := ?vk99) rfl (by kernel_rfl) (by kernel_rfl) (by kernel_rfl) (fun _ _ _ h => h) (Or.inl ⟨by rfl, ?hk99⟩) (SB.old ((Old.refl w4).drew) SBT.out) ?rk99
            case hk99 => (intro wz hSw; (try dsimp only at hSw); go_simp; try with_reducible rfl)
            (try simp only [Act.put]); (try simp only [List.setIfInBounds_toArray]); (try simp only [List.set_cons_succ]); (try simp only [List.set_cons_zero])
            refine wpAnyH_take (i := 4) (oi := { dst := some 98, op := Op.call { callee := Callee.builtin Builtin.len, args := #[Operand.tmp 97], argTypes := #[29] }, type := 3, pos := "law.go:56", after := #[{ on := 3, ground := Ground.data }], guard := none }) (v := ?vk100) rfl (by kernel_rfl) (by kernel_rfl) (by kernel_rfl) (fun _ _ _ h => h) (Or.inl ⟨by rfl, ?hk100⟩) (SB.old ((Old.refl w4).drew) SBT.out) ?rk100
            case hk100 => (intro wz hSw; (try dsimp only at hSw); go_simp; try with_reducible rfl)
            (try simp only [Act.put]); (try simp only [List.setIfInBounds_toArray]); (try simp only [List.set_cons_succ]); (try simp only [List.set_cons_zero])
            refine wpAnyH_ready (rs := [1]) (by kernel_rfl) (by simp) ?_
            refine AllReadyH.cons (o := { dst := some 95, op := Op.call { callee := Callee.value (Operand.func 19), args := #[Operand.tmp 94], argTypes := #[26] }, type := 3, pos := "law.go:56", after := #[{ on := 0, ground := Ground.data }], guard := none }) rfl (fun K hK => ?_) AllReadyH.nil
            refine wantCall1 ?_ 19 (.tmp 94) #[26] ?_ (.pointer (some ⟨tb, 0, none⟩)) ?_ ?_ (ent_len _ _) ?_
            · rfl
            · rfl
            · rfl
            · rfl
            refine (HLn.out _ ((Old.refl w4).drew)).mono ?_
            rintro o x101 ⟨rfl, b101⟩
            refine ⟨_, rfl, ?_⟩
            have U101 := ((Old.refl w4).drew).trans b101
            refine hK.out _ _ (SB.old U101 SBT.out) (fun _ => ?_)
            clear hK K
            (try simp only [Act.put]); (try simp only [List.setIfInBounds_toArray]); (try simp only [List.set_cons_succ]); (try simp only [List.set_cons_zero])
            refine wpAnyH_take (i := 5) (oi := { dst := some 99, op := Op.binOp BinOp.neq 3 (Operand.tmp 95) (Operand.tmp 98) 3, type := 4, pos := "law.go:56", after := #[{ on := 1, ground := Ground.data }, { on := 4, ground := Ground.data }], guard := none }) (v := ?vk102) rfl (by kernel_rfl) (by kernel_rfl) (by kernel_rfl) (fun _ _ _ h => h) (Or.inl ⟨by rfl, ?hk102⟩) (SB.old U101 SBT.out) ?rk102
            case hk102 => (intro wz hSw; (try dsimp only at hSw); go_simp; try with_reducible rfl)
            (try simp only [Act.put]); (try simp only [List.setIfInBounds_toArray]); (try simp only [List.set_cons_succ]); (try simp only [List.set_cons_zero])
            refine wpAnyH_take (i := 6) (oi := { dst := some 100, op := Op.move (Operand.tmp 99), type := 4, pos := "law.go:56", after := #[{ on := 5, ground := Ground.data }, { on := 1, ground := Ground.chain }], guard := none }) (v := ?vk103) rfl (by kernel_rfl) (by kernel_rfl) (by kernel_rfl) (fun _ _ _ h => h) (Or.inl ⟨by rfl, ?hk103⟩) (SB.old U101 SBT.out) ?rk103
            case hk103 => (intro wz hSw; (try dsimp only at hSw); go_simp; try with_reducible rfl)
            (try simp only [Act.put]); (try simp only [List.setIfInBounds_toArray]); (try simp only [List.set_cons_succ]); (try simp only [List.set_cons_zero])
            refine wpAnyH_take (i := 7) (oi := { dst := some 101, op := Op.move (Operand.tmp 9), type := 26, pos := "law.go:56", after := #[{ on := 6, ground := Ground.guard }], guard := some (6, false) }) (v := ?vk104) rfl (by kernel_rfl) (by kernel_rfl) (by kernel_rfl) (fun _ _ _ h => h) (Or.inl ⟨by rfl, ?hk104⟩) (SB.old U101 SBT.out) ?rk104
            case hk104 => (intro wz hSw; (try dsimp only at hSw); go_simp; try with_reducible rfl)
            (try simp only [Act.put]); (try simp only [List.setIfInBounds_toArray]); (try simp only [List.set_cons_succ]); (try simp only [List.set_cons_zero])
            refine wpAnyH_take (i := 8) (oi := { dst := some 102, op := Op.move (Operand.tmp 2), type := 23, pos := "law.go:56", after := #[{ on := 6, ground := Ground.guard }], guard := some (6, false) }) (v := ?vk105) rfl (by kernel_rfl) (by kernel_rfl) (by kernel_rfl) (fun _ _ _ h => h) (Or.inl ⟨by rfl, ?hk105⟩) (SB.old U101 SBT.out) ?rk105
            case hk105 => (intro wz hSw; (try dsimp only at hSw); go_simp; try with_reducible rfl)
            (try simp only [Act.put]); (try simp only [List.setIfInBounds_toArray]); (try simp only [List.set_cons_succ]); (try simp only [List.set_cons_zero])
            refine wpAnyH_take (i := 10) (oi := { dst := some 104, op := Op.load 31 (Operand.tmp 10), type := 31, pos := "law.go:56", after := #[{ on := 6, ground := Ground.guard }], guard := some (6, false) }) (v := ?vk106) rfl (by kernel_rfl) (by kernel_rfl) (by kernel_rfl) (fun _ _ _ h => h) (Or.inl ⟨by rfl, ?hk106⟩) (SB.old U101 SBT.out) ?rk106
            case hk106 => (intro wz hSw; (try dsimp only at hSw); go_simp; try with_reducible rfl)
            (try simp only [Act.put]); (try simp only [List.setIfInBounds_toArray]); (try simp only [List.set_cons_succ]); (try simp only [List.set_cons_zero])
            refine wpAnyH_take (i := 11) (oi := { dst := some 105, op := Op.move (Operand.tmp 2), type := 23, pos := "law.go:56", after := #[{ on := 6, ground := Ground.guard }], guard := some (6, false) }) (v := ?vk107) rfl (by kernel_rfl) (by kernel_rfl) (by kernel_rfl) (fun _ _ _ h => h) (Or.inl ⟨by rfl, ?hk107⟩) (SB.old U101 SBT.out) ?rk107
            case hk107 => (intro wz hSw; (try dsimp only at hSw); go_simp; try with_reducible rfl)
            (try simp only [Act.put]); (try simp only [List.setIfInBounds_toArray]); (try simp only [List.set_cons_succ]); (try simp only [List.set_cons_zero])
            refine wpAnyH_ready (rs := [9]) (by kernel_rfl) (by simp) ?_
            refine AllReadyH.cons (o := { dst := some 103, op := Op.call { callee := Callee.value (Operand.func 14), args := #[Operand.tmp 101, Operand.tmp 102], argTypes := #[26, 23] }, type := 2, pos := "law.go:56", after := #[{ on := 7, ground := Ground.data }, { on := 8, ground := Ground.data }, { on := 6, ground := Ground.chain }, { on := 6, ground := Ground.guard }], guard := some (6, false) }) rfl (fun K hK => ?_) AllReadyH.nil
            refine wantCall2 ?_ 14 (.tmp 101) (.tmp 102) #[26, 23] ?_ (.pointer (some ⟨tb, 0, none⟩)) (.float .f64 key) ?_ ?_ ?_ (ent_at _ _) ?_
            · rfl
            · rfl
            · rfl
            · rfl
            · rfl
            refine (HK1.out _ U101).mono ?_
            rintro o x108 ⟨rfl, b108⟩
            refine ⟨_, rfl, ?_⟩
            have U108 := U101.trans b108
            refine hK.out _ _ (SB.old U108 SBT.out) (fun _ => ?_)
            clear hK K
            (try simp only [Act.put]); (try simp only [List.setIfInBounds_toArray]); (try simp only [List.set_cons_succ]); (try simp only [List.set_cons_zero])
            refine wpAnyH_ready (rs := [12]) (by kernel_rfl) (by simp) ?_
            refine AllReadyH.cons (o := { dst := some 106, op := Op.call { callee := Callee.value (Operand.func 15), args := #[Operand.tmp 104, Operand.tmp 105], argTypes := #[31, 23] }, type := 2, pos := "law.go:56", after := #[{ on := 10, ground := Ground.data }, { on := 11, ground := Ground.data }, { on := 9, ground := Ground.chain }, { on := 6, ground := Ground.guard }], guard := some (6, false) }) rfl (fun K hK => ?_) AllReadyH.nil
            refine wantCall2 ?_ 15 (.tmp 104) (.tmp 105) #[31, 23] ?_ (.agg #[.int .i64 most, .slice a L.length c]) (.float .f64 key) ?_ ?_ ?_ (ent_rat _ _) ?_
            · rfl
            · rfl
            · rfl
            · rfl
            · rfl
            refine (HK2.out _ U108).mono ?_
            rintro o x109 ⟨rfl, b109⟩
            refine ⟨_, rfl, ?_⟩
            have U109 := U108.trans b109
            refine hK.out _ _ (SB.old U109 SBT.out) (fun _ => ?_)
            clear hK K
            (try simp only [Act.put]); (try simp only [List.setIfInBounds_toArray]); (try simp only [List.set_cons_succ]); (try simp only [List.set_cons_zero])
            refine wpAnyH_take (i := 13) (oi := { dst := some 107, op := Op.binOp BinOp.neq 2 (Operand.tmp 103) (Operand.tmp 106) 2, type := 4, pos := "law.go:56", after := #[{ on := 9, ground := Ground.data }, { on := 12, ground := Ground.data }, { on := 6, ground := Ground.guard }], guard := some (6, false) }) (v := ?vk110) rfl (by kernel_rfl) (by kernel_rfl) (by kernel_rfl) (fun _ _ _ h => h) (Or.inl ⟨by rfl, ?hk110⟩) (SB.old U109 SBT.out) ?rk110
            case hk110 => (intro wz hSw; (try dsimp only at hSw); go_simp; try with_reducible rfl)
            (try simp only [Act.put]); (try simp only [List.setIfInBounds_toArray]); (try simp only [List.set_cons_succ]); (try simp only [List.set_cons_zero])
            refine wpAnyH_take (i := 14) (oi := { dst := some 108, op := Op.pick (Operand.tmp 100) (Operand.const (Value.bool true)) (Operand.tmp 107), type := 4, pos := "law.go:56", after := #[{ on := 6, ground := Ground.data }, { on := 13, ground := Ground.data }], guard := none }) (v := ?vk111) rfl (by kernel_rfl) (by kernel_rfl) (by kernel_rfl) (fun _ _ _ h => h) (Or.inl ⟨by rfl, ?hk111⟩) (SB.old U109 SBT.out) ?rk111
            case hk111 => (intro wz hSw; (try dsimp only at hSw); go_simp; try with_reducible rfl)
            (try simp only [Act.put]); (try simp only [List.setIfInBounds_toArray]); (try simp only [List.set_cons_succ]); (try simp only [List.set_cons_zero])
            refine wpAnyH_take (i := 15) (oi := { dst := some 109, op := Op.move (Operand.tmp 108), type := 4, pos := "law.go:56", after := #[{ on := 14, ground := Ground.data }, { on := 12, ground := Ground.chain }], guard := none }) (v := ?vk112) rfl (by kernel_rfl) (by kernel_rfl) (by kernel_rfl) (fun _ _ _ h => h) (Or.inl ⟨by rfl, ?hk112⟩) (SB.old U109 SBT.out) ?rk112
            case hk112 => (intro wz hSw; (try dsimp only at hSw); go_simp; try with_reducible rfl)
            (try simp only [Act.put]); (try simp only [List.setIfInBounds_toArray]); (try simp only [List.set_cons_succ]); (try simp only [List.set_cons_zero])
            refine wpAnyH_take (i := 16) (oi := { dst := some 110, op := Op.move (Operand.tmp 9), type := 26, pos := "law.go:56", after := #[{ on := 15, ground := Ground.guard }], guard := some (15, false) }) (v := ?vk113) rfl (by kernel_rfl) (by kernel_rfl) (by kernel_rfl) (fun _ _ _ h => h) (Or.inl ⟨by rfl, ?hk113⟩) (SB.old U109 SBT.out) ?rk113
            case hk113 => (intro wz hSw; (try dsimp only at hSw); go_simp; try with_reducible rfl)
            (try simp only [Act.put]); (try simp only [List.setIfInBounds_toArray]); (try simp only [List.set_cons_succ]); (try simp only [List.set_cons_zero])
            refine wpAnyH_take (i := 17) (oi := { dst := some 111, op := Op.load 25 (Operand.tmp 7), type := 25, pos := "law.go:56", after := #[{ on := 15, ground := Ground.guard }], guard := some (15, false) }) (v := ?vk114) rfl (by kernel_rfl) (by kernel_rfl) (by kernel_rfl) (fun _ _ _ h => h) (Or.inl ⟨by rfl, ?hk114⟩) (SB.old U109 SBT.out) ?rk114
            case hk114 => (intro wz hSw; (try dsimp only at hSw); go_simp; try with_reducible rfl)
            (try simp only [Act.put]); (try simp only [List.setIfInBounds_toArray]); (try simp only [List.set_cons_succ]); (try simp only [List.set_cons_zero])
            refine wpAnyH_take (i := 19) (oi := { dst := some 113, op := Op.load 31 (Operand.tmp 10), type := 31, pos := "law.go:56", after := #[{ on := 15, ground := Ground.guard }], guard := some (15, false) }) (v := ?vk115) rfl (by kernel_rfl) (by kernel_rfl) (by kernel_rfl) (fun _ _ _ h => h) (Or.inl ⟨by rfl, ?hk115⟩) (SB.old U109 SBT.out) ?rk115
            case hk115 => (intro wz hSw; (try dsimp only at hSw); go_simp; try with_reducible rfl)
            (try simp only [Act.put]); (try simp only [List.setIfInBounds_toArray]); (try simp only [List.set_cons_succ]); (try simp only [List.set_cons_zero])
            refine wpAnyH_take (i := 20) (oi := { dst := some 114, op := Op.load 25 (Operand.tmp 7), type := 25, pos := "law.go:56", after := #[{ on := 15, ground := Ground.guard }], guard := some (15, false) }) (v := ?vk116) rfl (by kernel_rfl) (by kernel_rfl) (by kernel_rfl) (fun _ _ _ h => h) (Or.inl ⟨by rfl, ?hk116⟩) (SB.old U109 SBT.out) ?rk116
            case hk116 => (intro wz hSw; (try dsimp only at hSw); go_simp; try with_reducible rfl)
            (try simp only [Act.put]); (try simp only [List.setIfInBounds_toArray]); (try simp only [List.set_cons_succ]); (try simp only [List.set_cons_zero])
            refine wpAnyH_ready (rs := [18]) (by kernel_rfl) (by simp) ?_
            refine AllReadyH.cons (o := { dst := some 112, op := Op.call { callee := Callee.value (Operand.func 20), args := #[Operand.tmp 110, Operand.tmp 111], argTypes := #[26, 25] }, type := 2, pos := "law.go:56", after := #[{ on := 16, ground := Ground.data }, { on := 17, ground := Ground.data }, { on := 15, ground := Ground.chain }, { on := 15, ground := Ground.guard }], guard := some (15, false) }) rfl (fun K hK => ?_) AllReadyH.nil
            refine wantCall2 ?_ 20 (.tmp 110) (.tmp 111) #[26, 25] ?_ (.pointer (some ⟨tb, 0, none⟩)) (.agg #[.float .f64 x, .float .f64 y, .bool p, .bool q]) ?_ ?_ ?_ (ent_over _ _) ?_
            · rfl
            · rfl
            · rfl
            · rfl
            · rfl
            refine (HV1.out _ U109).mono ?_
            rintro o x117 ⟨rfl, b117⟩
            refine ⟨_, rfl, ?_⟩
            have U117 := U109.trans b117
            refine hK.out _ _ (SB.old U117 SBT.out) (fun _ => ?_)
            clear hK K
            (try simp only [Act.put]); (try simp only [List.setIfInBounds_toArray]); (try simp only [List.set_cons_succ]); (try simp only [List.set_cons_zero])
            refine wpAnyH_ready (rs := [21]) (by kernel_rfl) (by simp) ?_
            refine AllReadyH.cons (o := { dst := some 115, op := Op.call { callee := Callee.value (Operand.func 21), args := #[Operand.tmp 113, Operand.tmp 114], argTypes := #[31, 25] }, type := 2, pos := "law.go:56", after := #[{ on := 19, ground := Ground.data }, { on := 20, ground := Ground.data }, { on := 18, ground := Ground.chain }, { on := 15, ground := Ground.guard }], guard := some (15, false) }) rfl (fun K hK => ?_) AllReadyH.nil
            refine wantCall2 ?_ 21 (.tmp 113) (.tmp 114) #[31, 25] ?_ (.agg #[.int .i64 most, .slice a L.length c]) (.agg #[.float .f64 x, .float .f64 y, .bool p, .bool q]) ?_ ?_ ?_ (ent_rover _ _) ?_
            · rfl
            · rfl
            · rfl
            · rfl
            · rfl
            refine (HV2.out _ U117).mono ?_
            rintro o x118 ⟨rfl, b118⟩
            refine ⟨_, rfl, ?_⟩
            have U118 := U117.trans b118
            refine hK.out _ _ (SB.old U118 SBT.out) (fun _ => ?_)
            clear hK K
            (try simp only [Act.put]); (try simp only [List.setIfInBounds_toArray]); (try simp only [List.set_cons_succ]); (try simp only [List.set_cons_zero])
            refine wpAnyH_take (i := 22) (oi := { dst := some 116, op := Op.binOp BinOp.neq 2 (Operand.tmp 112) (Operand.tmp 115) 2, type := 4, pos := "law.go:56", after := #[{ on := 18, ground := Ground.data }, { on := 21, ground := Ground.data }, { on := 15, ground := Ground.guard }], guard := some (15, false) }) (v := ?vk119) rfl (by kernel_rfl) (by kernel_rfl) (by kernel_rfl) (fun _ _ _ h => h) (Or.inl ⟨by rfl, ?hk119⟩) (SB.old U118 SBT.out) ?rk119
            case hk119 => (intro wz hSw; (try dsimp only at hSw); go_simp; try with_reducible rfl)
            (try simp only [Act.put]); (try simp only [List.setIfInBounds_toArray]); (try simp only [List.set_cons_succ]); (try simp only [List.set_cons_zero])
            refine wpAnyH_take (i := 23) (oi := { dst := some 117, op := Op.pick (Operand.tmp 109) (Operand.const (Value.bool true)) (Operand.tmp 116), type := 4, pos := "law.go:56", after := #[{ on := 15, ground := Ground.data }, { on := 22, ground := Ground.data }], guard := none }) (v := ?vk120) rfl (by kernel_rfl) (by kernel_rfl) (by kernel_rfl) (fun _ _ _ h => h) (Or.inl ⟨by rfl, ?hk120⟩) (SB.old U118 SBT.out) ?rk120
            case hk120 => (intro wz hSw; (try dsimp only at hSw); go_simp; try with_reducible rfl)
            (try simp only [Act.put]); (try simp only [List.setIfInBounds_toArray]); (try simp only [List.set_cons_succ]); (try simp only [List.set_cons_zero])
            refine wpAnyH_done (by kernel_rfl) ?_ _
            refine NoPanic.normal ?_
            have U9 := hid U118
            clear HLn HK1 HK2 HV1 HV2 SBT
            go_wp2
            go_roundw
            case rel => exact ⟨k + 1, hlt, by go_num, _, _, _, _, P4.out.to U9.out⟩
            case measure => simp [intOf]; omega
    · obtain rfl : k = N := by omega
      have hzN := hid hlL
      go_upto_region 26 with fail
      have SB0 := hid (show SB mb most a L.length c sb x y p q wr from ⟨⟨P0.out.old.keep HS.out.1, P0.out.old.keep HS.out.2.1, P0.out.old.keep HS.out.2.2.1, P0.out.old.keep HS.out.2.2.2⟩, P0.out.box.1, P0.out.box.2.1⟩)
      have HAl := hid (fun (W : World) (u : Old wr W) => all_any tb tb most v L W hlL (P0.out.tab.old u))
      have HRl := hid (fun (W : World) (u : Old wr W) => rAll_any tb most (.slice a L.length c) M P0.out.w W (P0.out.own.old u) hlM)
      rw [out_perm P0.out.perm P0.out.good.1] at HRl
      refine wp_region_noPanic ?_
      refine wp_region_held_drew (S := SB mb most a L.length c sb x y p q) (by kernel_rfl) ?_ (fun hHeld => ?_)
      · exact SB.old ((Old.refl wr).drew) SB0.out
      (try simp only [Act.put]); (try simp only [List.setIfInBounds_toArray]); (try simp only [List.set_cons_succ]); (try simp only [List.set_cons_zero])
      clear hHeld
      refine wpAnyH_take (i := 0) (oi := { dst := some 119, op := Op.move (Operand.tmp 9), type := 26, pos := "law.go:60", after := #[], guard := none }) (v := ?vk121) rfl (by kernel_rfl) (by kernel_rfl) (by kernel_rfl) (fun _ _ _ h => h) (Or.inl ⟨by rfl, ?hk121⟩) (SB.old ((Old.refl wr).drew) SB0.out) ?rk121
      case hk121 => (intro wz hSw; (try dsimp only at hSw); go_simp; try with_reducible rfl)
      (try simp only [Act.put]); (try simp only [List.setIfInBounds_toArray]); (try simp only [List.set_cons_succ]); (try simp only [List.set_cons_zero])
      refine wpAnyH_take (i := 2) (oi := { dst := some 121, op := Op.load 31 (Operand.tmp 10), type := 31, pos := "law.go:60", after := #[], guard := none }) (v := ?vk122) rfl (by kernel_rfl) (by kernel_rfl) (by kernel_rfl) (fun _ _ _ h => h) (Or.inl ⟨by rfl, ?hk122⟩) (SB.old ((Old.refl wr).drew) SB0.out) ?rk122
      case hk122 => (intro wz hSw; (try dsimp only at hSw); go_simp; try with_reducible rfl)
      (try simp only [Act.put]); (try simp only [List.setIfInBounds_toArray]); (try simp only [List.set_cons_succ]); (try simp only [List.set_cons_zero])
      refine wpAnyH_ready (rs := [1]) (by kernel_rfl) (by simp) ?_
      refine AllReadyH.cons (o := { dst := some 120, op := Op.call { callee := Callee.value (Operand.func 22), args := #[Operand.tmp 119], argTypes := #[26] }, type := 46, pos := "law.go:60", after := #[{ on := 0, ground := Ground.data }], guard := none }) rfl (fun K hK => ?_) AllReadyH.nil
      refine wantCall1 ?_ 22 (.tmp 119) #[26] ?_ (.pointer (some ⟨tb, 0, none⟩)) ?_ ?_ (ent_all _ _) ?_
      · rfl
      · rfl
      · rfl
      · rfl
      refine (HAl.out _ ((Old.refl wr).drew)).mono ?_
      rintro o x123 ⟨v1, rfl, oA, uA⟩
      obtain ⟨a1, c1, hv1⟩ := oA.len
      subst hv1
      have U123 := ((Old.refl wr).drew).trans uA
      refine ⟨_, rfl, ?_⟩
      refine hK.out _ _ (SB.old U123 SB0.out) (fun _ => ?_)
      clear hK K
      (try simp only [Act.put]); (try simp only [List.setIfInBounds_toArray]); (try simp only [List.set_cons_succ]); (try simp only [List.set_cons_zero])
      refine wpAnyH_ready (rs := [3]) (by kernel_rfl) (by simp) ?_
      refine AllReadyH.cons (o := { dst := some 122, op := Op.call { callee := Callee.value (Operand.func 23), args := #[Operand.tmp 121], argTypes := #[31] }, type := 29, pos := "law.go:60", after := #[{ on := 2, ground := Ground.data }, { on := 1, ground := Ground.chain }], guard := none }) rfl (fun K hK => ?_) AllReadyH.nil
      refine wantCall1 ?_ 23 (.tmp 121) #[31] ?_ (.agg #[.int .i64 most, .slice a L.length c]) ?_ ?_ (ent_rall _ _) ?_
      · rfl
      · rfl
      · rfl
      · rfl
      refine (HRl.out _ U123).mono ?_
      rintro o x124 ⟨v2, rfl, oB, uB⟩
      obtain ⟨a2, c2, hv2⟩ := oB.len
      subst hv2
      have U124 := U123.trans uB
      refine ⟨_, rfl, ?_⟩
      refine hK.out _ _ (SB.old U124 SB0.out) (fun _ => ?_)
      clear hK K
      (try simp only [Act.put]); (try simp only [List.setIfInBounds_toArray]); (try simp only [List.set_cons_succ]); (try simp only [List.set_cons_zero])
      refine wpAnyH_ready (rs := [4]) (by kernel_rfl) (by simp) ?_
      refine AllReadyH.cons (o := { dst := some 17, op := Op.assign (Operand.tmp 120), type := 46, pos := "law.go:60", after := #[{ on := 1, ground := Ground.data }, { on := 3, ground := Ground.chain }, { on := 0, ground := Ground.phase }, { on := 1, ground := Ground.phase }, { on := 2, ground := Ground.textOnly Departure.lateStores }, { on := 3, ground := Ground.textOnly Departure.lateStoresUnsure }], guard := none }) rfl (fun K hK => ?_) AllReadyH.nil
      go_simp
      refine hK.out _ _ (SB.old U124 SB0.out) (fun _ => ?_)
      clear hK K
      (try simp only [Act.put]); (try simp only [List.setIfInBounds_toArray]); (try simp only [List.set_cons_succ]); (try simp only [List.set_cons_zero])
      refine wpAnyH_ready (rs := [5]) (by kernel_rfl) (by simp) ?_
      refine AllReadyH.cons (o := { dst := some 18, op := Op.assign (Operand.tmp 122), type := 29, pos := "law.go:60", after := #[{ on := 3, ground := Ground.data }, { on := 4, ground := Ground.chain }, { on := 0, ground := Ground.phase }, { on := 1, ground := Ground.phase }, { on := 2, ground := Ground.phase }, { on := 3, ground := Ground.phase }, { on := 4, ground := Ground.phase }], guard := none }) rfl (fun K hK => ?_) AllReadyH.nil
      go_simp
      refine hK.out _ _ (SB.old U124 SB0.out) (fun _ => ?_)
      clear hK K
      (try simp only [Act.put]); (try simp only [List.setIfInBounds_toArray]); (try simp only [List.set_cons_succ]); (try simp only [List.set_cons_zero])
      refine wpAnyH_done (by kernel_rfl) ?_ _
      refine NoPanic.normal ?_
      have U9 := hid U124
      have OA := hid (oA.old uB)
      have OB := hid oB
      have hgA := hid (show ∀ g, (Value.slice a1 L.length c1).ownBlock = some g → wr.heap.size ≤ g ∧ g < x123.heap.size from fun g hg => by have := oA.lt g hg; exact ⟨by have := ((Old.refl wr).drew).size; omega, this.2⟩)
      have HSA := hid (fun (e : 0 < L.length) => OA.out.shape e)
      clear oA oB uA uB
      generalize x123.heap.size = s1 at *
      generalize x124 = w7 at *
      have HK1 := hid (fun (W : World) (u : Old wr W) => at_any tb tb most v L key hkey W (P0.out.tab.old u) P0.out.good hlL)
      have HK2 := hid (fun (W : World) (u : Old wr W) => rAt_any tb most (.slice a L.length c) M key hkey P0.out.w W (P0.out.own.old u) hlM)
      rw [at_perm P0.out.perm P0.out.good.1] at HK2
      generalize atL (Fl.code key) L = A at *
      have HGd := hid P0.out.good
      have HOldw := hid (hV.out.trans P0.out.old)
      clear HAl HRl OA
      generalize hn : L.length = n at *
      have hn1 := hid hn
      clear hn
      have HB0 := hid SB0.out
      obtain ⟨wE, hwE⟩ : ∃ wE, wE = wr := ⟨_, rfl⟩
      subst hwE
      go_wp2
      go_loopw [130] (fun i wq => ∃ j : Nat, j ≤ n ∧ i = .int .i64 (j : Nat) ∧ (0 < n → ∃ g cap, Value.slice a1 n c1 = .slice (some ⟨g, 0, none⟩) n cap ∧ wE.heap.size ≤ g ∧ g < s1 ∧ (∀ i, j ≤ i → i < n → ItIn wq g (i * 2) (atI L i)) ∧ ∀ i, j ≤ i → i < n → wq.frozen? ⟨g, i * 2 + 1, none⟩ = false) ∧ OwnM s1 wq (.slice a2 n c2) L ∧ Old wE wq) (fun i _ => n - (intOf i).toNat)
      case atStart =>
        refine ⟨0, Nat.zero_le _, rfl, fun h0 => ?_, OB.out, U9.out⟩
        obtain ⟨g, cap, he, hgb, hgl, hi, hf⟩ := HSA.out h0
        have hb := hgA.out g (by rw [he]; rfl)
        exact ⟨g, cap, he, hb.1, hb.2, fun i _ hi2 => hi i hi2, fun i _ _ => hf _⟩
      case round =>
        obtain ⟨j, hjn, rfl, hA, hB, hU⟩ := hrel
        have HA := hid hA
        have HBq := hid hB
        have HUq := hid hU
        clear hA hB hU HSA hgA OB U9
        by_cases hjt : j < n
        · obtain ⟨g, cap, he, hg1, hg2, hi, hf⟩ := HA.out (by omega)
          simp only [Value.slice.injEq] at he
          obtain ⟨rfl, _, rfl⟩ := he
          obtain ⟨c0, c1'⟩ := hi j (Nat.le_refl _) hjt
          have hf1 := hf j (Nat.le_refl _) hjt
          have HI2 := hid hi
          have HF2 := hid hf
          have HG12 := hid (And.intro hg1 hg2)
          obtain ⟨gB, capB, heB, _, _, hiB⟩ := HBq.out.shape (by rw [hn1.out]; omega)
          rw [hn1.out] at heB hiB
          simp only [Value.slice.injEq] at heB
          obtain ⟨rfl, _, rfl⟩ := heB
          obtain ⟨d0, d1⟩ := hiB j hjt
          clear hi hf hiB hg1 hg2
          have l1 : (0 : Int) ≤ (j : Int) := by omega
          have l2 : (j : Int) < (n : Int) := by omega
          generalize hxx : atI L j = z at *
          have hxx' := hid hxx
          clear hxx
          go_upto_region 32 with fail
          have SQ := hid (show S32 g gB j z wr from ⟨c0, c1', d0, d1⟩)
          clear c0 c1' d0 d1
          refine wp_region_noPanic ?_
          refine wp_region_held_drew (S := S32 g gB j z) (by kernel_rfl) ?_ (fun hHeld => ?_)
          · exact S32.old ((Old.refl _).drew) SQ.out
          (try simp only [Act.put]); (try simp only [List.setIfInBounds_toArray]); (try simp only [List.set_cons_succ]); (try simp only [List.set_cons_zero])
          clear hHeld
          refine wpAnyH_take (i := 0) (oi := { dst := some 133, op := Op.move (Operand.tmp 17), type := 46, pos := "law.go:65", after := #[], guard := none }) (v := ?vk125) rfl (by kernel_rfl) (by kernel_rfl) (by kernel_rfl) (fun _ _ _ h => h) (Or.inl ⟨by rfl, ?hk125⟩) (S32.old ((Old.refl wr).drew) SQ.out) ?rk125
          case hk125 => (intro wz hSw; (try dsimp only at hSw); go_simp; try with_reducible rfl)
          (try simp only [Act.put]); (try simp only [List.setIfInBounds_toArray]); (try simp only [List.set_cons_succ]); (try simp only [List.set_cons_zero])
          refine wpAnyH_take (i := 1) (oi := { dst := some 134, op := Op.move (Operand.tmp 19), type := 3, pos := "law.go:65", after := #[], guard := none }) (v := ?vk126) rfl (by kernel_rfl) (by kernel_rfl) (by kernel_rfl) (fun _ _ _ h => h) (Or.inl ⟨by rfl, ?hk126⟩) (S32.old ((Old.refl wr).drew) SQ.out) ?rk126
          case hk126 => (intro wz hSw; (try dsimp only at hSw); go_simp; try with_reducible rfl)
          (try simp only [Act.put]); (try simp only [List.setIfInBounds_toArray]); (try simp only [List.set_cons_succ]); (try simp only [List.set_cons_zero])
          refine wpAnyH_take (i := 2) (oi := { dst := some 135, op := Op.indexAddr 46 (Operand.tmp 133) (Operand.tmp 134), type := 0, pos := "law.go:65", after := #[{ on := 0, ground := Ground.data }, { on := 1, ground := Ground.data }], guard := none }) (v := ?vk127) rfl (by kernel_rfl) (by kernel_rfl) (by kernel_rfl) (fun _ _ _ h => h) (Or.inl ⟨by rfl, ?hk127⟩) (S32.old ((Old.refl wr).drew) SQ.out) ?rk127
          case hk127 => (intro wz hSw; (try dsimp only at hSw); go_simp; try with_reducible rfl)
          (try simp only [Act.put]); (try simp only [List.setIfInBounds_toArray]); (try simp only [List.set_cons_succ]); (try simp only [List.set_cons_zero])
          refine wpAnyH_take (i := 3) (oi := { dst := some 136, op := Op.fieldAddr 52 (Operand.tmp 135) 0, type := 0, pos := "law.go:65", after := #[{ on := 2, ground := Ground.data }], guard := none }) (v := ?vk128) rfl (by kernel_rfl) (by kernel_rfl) (by kernel_rfl) (fun _ _ _ h => h) (Or.inl ⟨by rfl, ?hk128⟩) (S32.old ((Old.refl wr).drew) SQ.out) ?rk128
          case hk128 => (intro wz hSw; (try dsimp only at hSw); go_simp; try with_reducible rfl)
          (try simp only [Act.put]); (try simp only [List.setIfInBounds_toArray]); (try simp only [List.set_cons_succ]); (try simp only [List.set_cons_zero])
          refine wpAnyH_take (i := 4) (oi := { dst := some 137, op := Op.load 23 (Operand.tmp 136), type := 23, pos := "law.go:65", after := #[{ on := 3, ground := Ground.data }], guard := none }) (v := ?vk129) rfl (by kernel_rfl) (by kernel_rfl) (by kernel_rfl) (fun _ _ _ h => h) (Or.inl ⟨by rfl, ?hk129⟩) (S32.old ((Old.refl wr).drew) SQ.out) ?rk129
          case hk129 => (intro wz hSw; (try dsimp only at hSw); go_simp; try with_reducible rfl)
          (try simp only [Act.put]); (try simp only [List.setIfInBounds_toArray]); (try simp only [List.set_cons_succ]); (try simp only [List.set_cons_zero])
          refine wpAnyH_take (i := 6) (oi := { dst := some 139, op := Op.move (Operand.tmp 18), type := 29, pos := "law.go:65", after := #[], guard := none }) (v := ?vk130) rfl (by kernel_rfl) (by kernel_rfl) (by kernel_rfl) (fun _ _ _ h => h) (Or.inl ⟨by rfl, ?hk130⟩) (S32.old ((Old.refl wr).drew) SQ.out) ?rk130
          case hk130 => (intro wz hSw; (try dsimp only at hSw); go_simp; try with_reducible rfl)
          (try simp only [Act.put]); (try simp only [List.setIfInBounds_toArray]); (try simp only [List.set_cons_succ]); (try simp only [List.set_cons_zero])
          refine wpAnyH_take (i := 7) (oi := { dst := some 140, op := Op.move (Operand.tmp 19), type := 3, pos := "law.go:65", after := #[], guard := none }) (v := ?vk131) rfl (by kernel_rfl) (by kernel_rfl) (by kernel_rfl) (fun _ _ _ h => h) (Or.inl ⟨by rfl, ?hk131⟩) (S32.old ((Old.refl wr).drew) SQ.out) ?rk131
          case hk131 => (intro wz hSw; (try dsimp only at hSw); go_simp; try with_reducible rfl)
          (try simp only [Act.put]); (try simp only [List.setIfInBounds_toArray]); (try simp only [List.set_cons_succ]); (try simp only [List.set_cons_zero])
          refine wpAnyH_take (i := 8) (oi := { dst := some 141, op := Op.indexAddr 29 (Operand.tmp 139) (Operand.tmp 140), type := 0, pos := "law.go:65", after := #[{ on := 6, ground := Ground.data }, { on := 7, ground := Ground.data }], guard := none }) (v := ?vk132) rfl (by kernel_rfl) (by kernel_rfl) (by kernel_rfl) (fun _ _ _ h => h) (Or.inl ⟨by rfl, ?hk132⟩) (S32.old ((Old.refl wr).drew) SQ.out) ?rk132
          case hk132 => (intro wz hSw; (try dsimp only at hSw); go_simp; try with_reducible rfl)
          (try simp only [Act.put]); (try simp only [List.setIfInBounds_toArray]); (try simp only [List.set_cons_succ]); (try simp only [List.set_cons_zero])
          refine wpAnyH_take (i := 9) (oi := { dst := some 142, op := Op.fieldAddr 53 (Operand.tmp 141) 0, type := 0, pos := "law.go:65", after := #[{ on := 8, ground := Ground.data }], guard := none }) (v := ?vk133) rfl (by kernel_rfl) (by kernel_rfl) (by kernel_rfl) (fun _ _ _ h => h) (Or.inl ⟨by rfl, ?hk133⟩) (S32.old ((Old.refl wr).drew) SQ.out) ?rk133
          case hk133 => (intro wz hSw; (try dsimp only at hSw); go_simp; try with_reducible rfl)
          (try simp only [Act.put]); (try simp only [List.setIfInBounds_toArray]); (try simp only [List.set_cons_succ]); (try simp only [List.set_cons_zero])
          refine wpAnyH_take (i := 10) (oi := { dst := some 143, op := Op.load 23 (Operand.tmp 142), type := 23, pos := "law.go:65", after := #[{ on := 9, ground := Ground.data }], guard := none }) (v := ?vk134) rfl (by kernel_rfl) (by kernel_rfl) (by kernel_rfl) (fun _ _ _ h => h) (Or.inl ⟨by rfl, ?hk134⟩) (S32.old ((Old.refl wr).drew) SQ.out) ?rk134
          case hk134 => (intro wz hSw; (try dsimp only at hSw); go_simp; try with_reducible rfl)
          (try simp only [Act.put]); (try simp only [List.setIfInBounds_toArray]); (try simp only [List.set_cons_succ]); (try simp only [List.set_cons_zero])
          refine wpAnyH_ready (rs := [5]) (by kernel_rfl) (by simp) ?_
          refine AllReadyH.cons (o := { dst := some 138, op := Op.call { callee := Callee.value (Operand.func 24), args := #[Operand.tmp 137], argTypes := #[23] }, type := 49, pos := "law.go:65", after := #[{ on := 4, ground := Ground.data }], guard := none }) rfl (fun K hK => ?_) AllReadyH.nil
          go_simp
          refine hK.out _ _ (S32.old ((Old.refl wr).drew) SQ.out) (fun _ => ?_)
          clear hK K
          (try simp only [Act.put]); (try simp only [List.setIfInBounds_toArray]); (try simp only [List.set_cons_succ]); (try simp only [List.set_cons_zero])
          refine wpAnyH_ready (rs := [11]) (by kernel_rfl) (by simp) ?_
          refine AllReadyH.cons (o := { dst := some 144, op := Op.call { callee := Callee.value (Operand.func 24), args := #[Operand.tmp 143], argTypes := #[23] }, type := 49, pos := "law.go:65", after := #[{ on := 10, ground := Ground.data }, { on := 5, ground := Ground.chain }], guard := none }) rfl (fun K hK => ?_) AllReadyH.nil
          go_simp
          refine hK.out _ _ (S32.old ((Old.refl wr).drew) SQ.out) (fun _ => ?_)
          clear hK K
          (try simp only [Act.put]); (try simp only [List.setIfInBounds_toArray]); (try simp only [List.set_cons_succ]); (try simp only [List.set_cons_zero])
          refine wpAnyH_take (i := 12) (oi := { dst := some 145, op := Op.binOp BinOp.neq 49 (Operand.tmp 138) (Operand.tmp 144) 49, type := 4, pos := "law.go:65", after := #[{ on := 5, ground := Ground.data }, { on := 11, ground := Ground.data }], guard := none }) (v := ?vk135) rfl (by kernel_rfl) (by kernel_rfl) (by kernel_rfl) (fun _ _ _ h => h) (Or.inl ⟨by rfl, ?hk135⟩) (S32.old ((Old.refl wr).drew) SQ.out) ?rk135
          case hk135 => (intro wz hSw; (try dsimp only at hSw); go_simp; try with_reducible rfl)
          (try simp only [Act.put]); (try simp only [List.setIfInBounds_toArray]); (try simp only [List.set_cons_succ]); (try simp only [List.set_cons_zero])
          refine wpAnyH_take (i := 13) (oi := { dst := some 146, op := Op.move (Operand.tmp 145), type := 4, pos := "law.go:65", after := #[{ on := 12, ground := Ground.data }, { on := 11, ground := Ground.chain }], guard := none }) (v := ?vk136) rfl (by kernel_rfl) (by kernel_rfl) (by kernel_rfl) (fun _ _ _ h => h) (Or.inl ⟨by rfl, ?hk136⟩) (S32.old ((Old.refl wr).drew) SQ.out) ?rk136
          case hk136 => (intro wz hSw; (try dsimp only at hSw); go_simp; try with_reducible rfl)
          (try simp only [Act.put]); (try simp only [List.setIfInBounds_toArray]); (try simp only [List.set_cons_succ]); (try simp only [List.set_cons_zero])
          refine wpAnyH_take (i := 14) (oi := { dst := some 147, op := Op.move (Operand.tmp 17), type := 46, pos := "law.go:65", after := #[{ on := 13, ground := Ground.guard }], guard := some (13, false) }) (v := ?vk137) rfl (by kernel_rfl) (by kernel_rfl) (by kernel_rfl) (fun _ _ _ h => h) (Or.inl ⟨by rfl, ?hk137⟩) (S32.old ((Old.refl wr).drew) SQ.out) ?rk137
          case hk137 => (intro wz hSw; (try dsimp only at hSw); go_simp; try with_reducible rfl)
          (try simp only [Act.put]); (try simp only [List.setIfInBounds_toArray]); (try simp only [List.set_cons_succ]); (try simp only [List.set_cons_zero])
          refine wpAnyH_take (i := 15) (oi := { dst := some 148, op := Op.move (Operand.tmp 19), type := 3, pos := "law.go:65", after := #[{ on := 13, ground := Ground.guard }], guard := some (13, false) }) (v := ?vk138) rfl (by kernel_rfl) (by kernel_rfl) (by kernel_rfl) (fun _ _ _ h => h) (Or.inl ⟨by rfl, ?hk138⟩) (S32.old ((Old.refl wr).drew) SQ.out) ?rk138
          case hk138 => (intro wz hSw; (try dsimp only at hSw); go_simp; try with_reducible rfl)
          (try simp only [Act.put]); (try simp only [List.setIfInBounds_toArray]); (try simp only [List.set_cons_succ]); (try simp only [List.set_cons_zero])
          refine wpAnyH_take (i := 16) (oi := { dst := some 149, op := Op.indexAddr 46 (Operand.tmp 147) (Operand.tmp 148), type := 0, pos := "law.go:65", after := #[{ on := 14, ground := Ground.data }, { on := 15, ground := Ground.data }, { on := 13, ground := Ground.guard }], guard := some (13, false) }) (v := ?vk139) rfl (by kernel_rfl) (by kernel_rfl) (by kernel_rfl) (fun _ _ _ h => h) (Or.inl ⟨by rfl, ?hk139⟩) (S32.old ((Old.refl wr).drew) SQ.out) ?rk139
          case hk139 => (intro wz hSw; (try dsimp only at hSw); go_simp; try with_reducible rfl)
          (try simp only [Act.put]); (try simp only [List.setIfInBounds_toArray]); (try simp only [List.set_cons_succ]); (try simp only [List.set_cons_zero])
          refine wpAnyH_take (i := 17) (oi := { dst := some 150, op := Op.fieldAddr 52 (Operand.tmp 149) 1, type := 0, pos := "law.go:65", after := #[{ on := 16, ground := Ground.data }, { on := 13, ground := Ground.guard }], guard := some (13, false) }) (v := ?vk140) rfl (by kernel_rfl) (by kernel_rfl) (by kernel_rfl) (fun _ _ _ h => h) (Or.inl ⟨by rfl, ?hk140⟩) (S32.old ((Old.refl wr).drew) SQ.out) ?rk140
          case hk140 => (intro wz hSw; (try dsimp only at hSw); go_simp; try with_reducible rfl)
          (try simp only [Act.put]); (try simp only [List.setIfInBounds_toArray]); (try simp only [List.set_cons_succ]); (try simp only [List.set_cons_zero])
          refine wpAnyH_take (i := 18) (oi := { dst := some 151, op := Op.load 2 (Operand.tmp 150), type := 2, pos := "law.go:65", after := #[{ on := 17, ground := Ground.data }, { on := 13, ground := Ground.guard }], guard := some (13, false) }) (v := ?vk141) rfl (by kernel_rfl) (by kernel_rfl) (by kernel_rfl) (fun _ _ _ h => h) (Or.inl ⟨by rfl, ?hk141⟩) (S32.old ((Old.refl wr).drew) SQ.out) ?rk141
          case hk141 => (intro wz hSw; (try dsimp only at hSw); go_simp; try with_reducible rfl)
          (try simp only [Act.put]); (try simp only [List.setIfInBounds_toArray]); (try simp only [List.set_cons_succ]); (try simp only [List.set_cons_zero])
          refine wpAnyH_take (i := 19) (oi := { dst := some 152, op := Op.move (Operand.tmp 18), type := 29, pos := "law.go:65", after := #[{ on := 13, ground := Ground.guard }], guard := some (13, false) }) (v := ?vk142) rfl (by kernel_rfl) (by kernel_rfl) (by kernel_rfl) (fun _ _ _ h => h) (Or.inl ⟨by rfl, ?hk142⟩) (S32.old ((Old.refl wr).drew) SQ.out) ?rk142
          case hk142 => (intro wz hSw; (try dsimp only at hSw); go_simp; try with_reducible rfl)
          (try simp only [Act.put]); (try simp only [List.setIfInBounds_toArray]); (try simp only [List.set_cons_succ]); (try simp only [List.set_cons_zero])
          refine wpAnyH_take (i := 20) (oi := { dst := some 153, op := Op.move (Operand.tmp 19), type := 3, pos := "law.go:65", after := #[{ on := 13, ground := Ground.guard }], guard := some (13, false) }) (v := ?vk143) rfl (by kernel_rfl) (by kernel_rfl) (by kernel_rfl) (fun _ _ _ h => h) (Or.inl ⟨by rfl, ?hk143⟩) (S32.old ((Old.refl wr).drew) SQ.out) ?rk143
          case hk143 => (intro wz hSw; (try dsimp only at hSw); go_simp; try with_reducible rfl)
          (try simp only [Act.put]); (try simp only [List.setIfInBounds_toArray]); (try simp only [List.set_cons_succ]); (try simp only [List.set_cons_zero])
          refine wpAnyH_take (i := 21) (oi := { dst := some 154, op := Op.indexAddr 29 (Operand.tmp 152) (Operand.tmp 153), type := 0, pos := "law.go:65", after := #[{ on := 19, ground := Ground.data }, { on := 20, ground := Ground.data }, { on := 13, ground := Ground.guard }], guard := some (13, false) }) (v := ?vk144) rfl (by kernel_rfl) (by kernel_rfl) (by kernel_rfl) (fun _ _ _ h => h) (Or.inl ⟨by rfl, ?hk144⟩) (S32.old ((Old.refl wr).drew) SQ.out) ?rk144
          case hk144 => (intro wz hSw; (try dsimp only at hSw); go_simp; try with_reducible rfl)
          (try simp only [Act.put]); (try simp only [List.setIfInBounds_toArray]); (try simp only [List.set_cons_succ]); (try simp only [List.set_cons_zero])
          refine wpAnyH_take (i := 22) (oi := { dst := some 155, op := Op.fieldAddr 53 (Operand.tmp 154) 1, type := 0, pos := "law.go:65", after := #[{ on := 21, ground := Ground.data }, { on := 13, ground := Ground.guard }], guard := some (13, false) }) (v := ?vk145) rfl (by kernel_rfl) (by kernel_rfl) (by kernel_rfl) (fun _ _ _ h => h) (Or.inl ⟨by rfl, ?hk145⟩) (S32.old ((Old.refl wr).drew) SQ.out) ?rk145
          case hk145 => (intro wz hSw; (try dsimp only at hSw); go_simp; try with_reducible rfl)
          (try simp only [Act.put]); (try simp only [List.setIfInBounds_toArray]); (try simp only [List.set_cons_succ]); (try simp only [List.set_cons_zero])
          refine wpAnyH_take (i := 23) (oi := { dst := some 156, op := Op.load 2 (Operand.tmp 155), type := 2, pos := "law.go:65", after := #[{ on := 22, ground := Ground.data }, { on := 13, ground := Ground.guard }], guard := some (13, false) }) (v := ?vk146) rfl (by kernel_rfl) (by kernel_rfl) (by kernel_rfl) (fun _ _ _ h => h) (Or.inl ⟨by rfl, ?hk146⟩) (S32.old ((Old.refl wr).drew) SQ.out) ?rk146
          case hk146 => (intro wz hSw; (try dsimp only at hSw); go_simp; try with_reducible rfl)
          (try simp only [Act.put]); (try simp only [List.setIfInBounds_toArray]); (try simp only [List.set_cons_succ]); (try simp only [List.set_cons_zero])
          refine wpAnyH_take (i := 24) (oi := { dst := some 157, op := Op.binOp BinOp.neq 2 (Operand.tmp 151) (Operand.tmp 156) 2, type := 4, pos := "law.go:65", after := #[{ on := 18, ground := Ground.data }, { on := 23, ground := Ground.data }, { on := 13, ground := Ground.guard }], guard := some (13, false) }) (v := ?vk147) rfl (by kernel_rfl) (by kernel_rfl) (by kernel_rfl) (fun _ _ _ h => h) (Or.inl ⟨by rfl, ?hk147⟩) (S32.old ((Old.refl wr).drew) SQ.out) ?rk147
          case hk147 => (intro wz hSw; (try dsimp only at hSw); go_simp; try with_reducible rfl)
          (try simp only [Act.put]); (try simp only [List.setIfInBounds_toArray]); (try simp only [List.set_cons_succ]); (try simp only [List.set_cons_zero])
          refine wpAnyH_take (i := 25) (oi := { dst := some 158, op := Op.pick (Operand.tmp 146) (Operand.const (Value.bool true)) (Operand.tmp 157), type := 4, pos := "law.go:65", after := #[{ on := 13, ground := Ground.data }, { on := 24, ground := Ground.data }], guard := none }) (v := ?vk148) rfl (by kernel_rfl) (by kernel_rfl) (by kernel_rfl) (fun _ _ _ h => h) (Or.inl ⟨by rfl, ?hk148⟩) (S32.old ((Old.refl wr).drew) SQ.out) ?rk148
          case hk148 => (intro wz hSw; (try dsimp only at hSw); go_simp; try with_reducible rfl)
          (try simp only [Act.put]); (try simp only [List.setIfInBounds_toArray]); (try simp only [List.set_cons_succ]); (try simp only [List.set_cons_zero])
          refine wpAnyH_done (by kernel_rfl) ?_ _
          refine NoPanic.normal ?_
          have U9 := hid ((Old.refl wr).drew)
          obtain ⟨c0, c1', d0, d1⟩ := S32.old U9.out SQ.out
          have hf2 := U9.out.keepF (S32.old (Old.refl wr) SQ.out).2.1 hf1
          clear hf1
          have HV9 := hid U9.out
          generalize wr.drew = w9 at *
          go_wp2
          go_roundw
          case rel =>
            refine ⟨j + 1, hjt, by go_num, fun _ => ⟨g, _, rfl, HG12.out.1, HG12.out.2, fun i h1 h2 => ?_, fun i h1 h2 => ?_⟩, ?_, ?_⟩
            · obtain ⟨e0, e1⟩ := (HI2.out i (by omega) h2).old HV9.out
              exact ⟨by rw [World.cell?_setCell_other _ _ _ _ (by simp <;> omega)]; exact e0, by rw [World.cell?_setCell_other _ _ _ _ (by simp <;> omega)]; exact e1⟩
            · rw [World.frozen?_setCell]; exact HV9.out.keepF (HI2.out i (by omega) h2).2 (HF2.out i (by omega) h2)
            · exact (HBq.out.old HV9.out).set _ _ HG12.out.2
            · exact (HUq.out.trans HV9.out).setCell HG12.out.1 _
          case measure => simp [intOf]; omega
        · obtain rfl : j = n := by omega
          have SBq := hid (SB.old HUq.out HB0.out)
          have HQ1 := hid (fun (W : World) (u : Old wr W) => HK1.out W (HUq.out.trans u))
          have HQ2 := hid (fun (W : World) (u : Old wr W) => HK2.out W (HUq.out.trans u))
          clear HK1 HK2 HA HBq
          go_upto_region 36 with fail
          refine wp_region_noPanic ?_
          refine wp_region_held_drew (S := SB mb most a j c sb x y p q) (by kernel_rfl) ?_ (fun hHeld => ?_)
          · exact SB.old ((Old.refl _).drew) SBq.out
          (try simp only [Act.put]); (try simp only [List.setIfInBounds_toArray]); (try simp only [List.set_cons_succ]); (try simp only [List.set_cons_zero])
          clear hHeld
          refine wpAnyH_take (i := 0) (oi := { dst := some 164, op := Op.move (Operand.tmp 9), type := 26, pos := "law.go:70", after := #[], guard := none }) (v := ?vk149) rfl (by kernel_rfl) (by kernel_rfl) (by kernel_rfl) (fun _ _ _ h => h) (Or.inl ⟨by rfl, ?hk149⟩) (SB.old ((Old.refl wr).drew) SBq.out) ?rk149
          case hk149 => (intro wz hSw; (try dsimp only at hSw); go_simp; try with_reducible rfl)
          (try simp only [Act.put]); (try simp only [List.setIfInBounds_toArray]); (try simp only [List.set_cons_succ]); (try simp only [List.set_cons_zero])
          refine wpAnyH_take (i := 1) (oi := { dst := some 165, op := Op.move (Operand.tmp 2), type := 23, pos := "law.go:70", after := #[], guard := none }) (v := ?vk150) rfl (by kernel_rfl) (by kernel_rfl) (by kernel_rfl) (fun _ _ _ h => h) (Or.inl ⟨by rfl, ?hk150⟩) (SB.old ((Old.refl wr).drew) SBq.out) ?rk150
          case hk150 => (intro wz hSw; (try dsimp only at hSw); go_simp; try with_reducible rfl)
          (try simp only [Act.put]); (try simp only [List.setIfInBounds_toArray]); (try simp only [List.set_cons_succ]); (try simp only [List.set_cons_zero])
          refine wpAnyH_take (i := 3) (oi := { dst := some 167, op := Op.load 31 (Operand.tmp 10), type := 31, pos := "law.go:70", after := #[], guard := none }) (v := ?vk151) rfl (by kernel_rfl) (by kernel_rfl) (by kernel_rfl) (fun _ _ _ h => h) (Or.inl ⟨by rfl, ?hk151⟩) (SB.old ((Old.refl wr).drew) SBq.out) ?rk151
          case hk151 => (intro wz hSw; (try dsimp only at hSw); go_simp; try with_reducible rfl)
          (try simp only [Act.put]); (try simp only [List.setIfInBounds_toArray]); (try simp only [List.set_cons_succ]); (try simp only [List.set_cons_zero])
          refine wpAnyH_take (i := 4) (oi := { dst := some 168, op := Op.move (Operand.tmp 2), type := 23, pos := "law.go:70", after := #[], guard := none }) (v := ?vk152) rfl (by kernel_rfl) (by kernel_rfl) (by kernel_rfl) (fun _ _ _ h => h) (Or.inl ⟨by rfl, ?hk152⟩) (SB.old ((Old.refl wr).drew) SBq.out) ?rk152
          case hk152 => (intro wz hSw; (try dsimp only at hSw); go_simp; try with_reducible rfl)
          (try simp only [Act.put]); (try simp only [List.setIfInBounds_toArray]); (try simp only [List.set_cons_succ]); (try simp only [List.set_cons_zero])
          refine wpAnyH_ready (rs := [2]) (by kernel_rfl) (by simp) ?_
          refine AllReadyH.cons (o := { dst := some 166, op := Op.call { callee := Callee.value (Operand.func 14), args := #[Operand.tmp 164, Operand.tmp 165], argTypes := #[26, 23] }, type := 2, pos := "law.go:70", after := #[{ on := 0, ground := Ground.data }, { on := 1, ground := Ground.data }], guard := none }) rfl (fun K hK => ?_) AllReadyH.nil
          refine wantCall2 ?_ 14 (.tmp 164) (.tmp 165) #[26, 23] ?_ (.pointer (some ⟨tb, 0, none⟩)) (.float .f64 key) ?_ ?_ ?_ (ent_at _ _) ?_
          · rfl
          · rfl
          · rfl
          · rfl
          · rfl
          refine (HQ1.out _ ((Old.refl wr).drew)).mono ?_
          rintro o x153 ⟨rfl, b153⟩
          refine ⟨_, rfl, ?_⟩
          have U153 := ((Old.refl wr).drew).trans b153
          refine hK.out _ _ (SB.old U153 SBq.out) (fun _ => ?_)
          clear hK K
          (try simp only [Act.put]); (try simp only [List.setIfInBounds_toArray]); (try simp only [List.set_cons_succ]); (try simp only [List.set_cons_zero])
          refine wpAnyH_ready (rs := [5]) (by kernel_rfl) (by simp) ?_
          refine AllReadyH.cons (o := { dst := some 169, op := Op.call { callee := Callee.value (Operand.func 15), args := #[Operand.tmp 167, Operand.tmp 168], argTypes := #[31, 23] }, type := 2, pos := "law.go:70", after := #[{ on := 3, ground := Ground.data }, { on := 4, ground := Ground.data }, { on := 2, ground := Ground.chain }], guard := none }) rfl (fun K hK => ?_) AllReadyH.nil
          refine wantCall2 ?_ 15 (.tmp 167) (.tmp 168) #[31, 23] ?_ (.agg #[.int .i64 most, .slice a j c]) (.float .f64 key) ?_ ?_ ?_ (ent_rat _ _) ?_
          · rfl
          · rfl
          · rfl
          · rfl
          · rfl
          refine (HQ2.out _ U153).mono ?_
          rintro o x154 ⟨rfl, b154⟩
          refine ⟨_, rfl, ?_⟩
          have U154 := U153.trans b154
          refine hK.out _ _ (SB.old U154 SBq.out) (fun _ => ?_)
          clear hK K
          (try simp only [Act.put]); (try simp only [List.setIfInBounds_toArray]); (try simp only [List.set_cons_succ]); (try simp only [List.set_cons_zero])
          refine wpAnyH_take (i := 6) (oi := { dst := some 170, op := Op.binOp BinOp.eql 2 (Operand.tmp 166) (Operand.tmp 169) 2, type := 4, pos := "law.go:70", after := #[{ on := 2, ground := Ground.data }, { on := 5, ground := Ground.data }], guard := none }) (v := ?vk155) rfl (by kernel_rfl) (by kernel_rfl) (by kernel_rfl) (fun _ _ _ h => h) (Or.inl ⟨by rfl, ?hk155⟩) (SB.old U154 SBq.out) ?rk155
          case hk155 => (intro wz hSw; (try dsimp only at hSw); go_simp; try with_reducible rfl)
          (try simp only [Act.put]); (try simp only [List.setIfInBounds_toArray]); (try simp only [List.set_cons_succ]); (try simp only [List.set_cons_zero])
          refine wpAnyH_ready (rs := [7]) (by kernel_rfl) (by simp) ?_
          refine AllReadyH.cons (o := { dst := some 8, op := Op.assign (Operand.tmp 170), type := 4, pos := "law.go:70", after := #[{ on := 6, ground := Ground.data }, { on := 5, ground := Ground.chain }, { on := 0, ground := Ground.phase }, { on := 1, ground := Ground.phase }, { on := 2, ground := Ground.phase }, { on := 3, ground := Ground.phase }, { on := 4, ground := Ground.phase }, { on := 5, ground := Ground.phase }, { on := 6, ground := Ground.phase }], guard := none }) rfl (fun K hK => ?_) AllReadyH.nil
          go_simp
          refine hK.out _ _ (SB.old U154 SBq.out) (fun _ => ?_)
          clear hK K
          (try simp only [Act.put]); (try simp only [List.setIfInBounds_toArray]); (try simp only [List.set_cons_succ]); (try simp only [List.set_cons_zero])
          refine wpAnyH_done (by kernel_rfl) ?_ _
          refine NoPanic.normal ?_
          have U9 := hid U154
          go_wp2
          go_ret
          exact ⟨rfl, (HOldw.out.trans HUq.out).trans U9.out⟩
end Go.Proofs.Ytbjikfcegiagjaa
