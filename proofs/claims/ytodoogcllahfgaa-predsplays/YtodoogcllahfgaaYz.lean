/- The law PredsPlays at every number, row of calls and key; no condition. -/
import Derived.Test.YtodoogcllahfgaaYy
import Derived.Test.YtodoogcllahfgaaYk
namespace Go.Proofs.Ytodoogcllahfgaa
open Go.RowKit Go.Lib
set_option linter.unusedVariables false
set_option linter.unusedSimpArgs false
set_option maxRecDepth 20000
theorem ent_len (args : Array Value) (w : World) : (callFunc 12 args).run Try.prog w = .ok (.enter 12 args) w := by kernel_rfl
theorem ent_rat (args : Array Value) (w : World) : (callFunc 14 args).run Try.prog w = .ok (.enter 14 args) w := by kernel_rfl
theorem ent_pat (args : Array Value) (w : World) : (callFunc 13 args).run Try.prog w = .ok (.enter 13 args) w := by kernel_rfl
theorem ent_rsp (args : Array Value) (w : World) : (callFunc 18 args).run Try.prog w = .ok (.enter 18 args) w := by kernel_rfl
theorem ent_ssp (args : Array Value) (w : World) : (callFunc 17 args).run Try.prog w = .ok (.enter 17 args) w := by kernel_rfl
theorem span_old (z : It) (h : Okp z) (w : World) : Calls Try.prog 18 #[.agg #[.int .u64 (Fl.code z.a : Nat), .int .u64 (Fl.code z.b : Nat)]] w fun e w' => e = .returned (.agg #[.float .f64 z.a, .float .f64 z.b, .bool z.p, .bool z.q]) ∧ Old w w' := by
  have h0 := rSpan_isForm h.1 w
  rw [h.2.1, h.2.2.1]
  exact h0.mono fun e w' q => ⟨q.1, q.2.old⟩
theorem same_old (z : It) (w : World) : Calls Try.prog 17 #[.agg #[.float .f64 z.a, .float .f64 z.b, .bool z.p, .bool z.q], .agg #[.float .f64 z.a, .float .f64 z.b, .bool z.p, .bool z.q]] w fun e w' => e = .returned (.bool true) ∧ Old w w' := (sameSpan_any z.a z.b z.a z.b z.p z.q z.p z.q w).mono fun e w' q => ⟨by rw [q.1]; simp, q.2.old⟩
theorem ent_drop (args : Array Value) (w : World) : (callFunc 10 args).run Try.prog w = .ok (.enter 10 args) w := by kernel_rfl
theorem ent_all (args : Array Value) (w : World) : (callFunc 15 args).run Try.prog w = .ok (.enter 15 args) w := by kernel_rfl
theorem ent_rall (args : Array Value) (w : World) : (callFunc 16 args).run Try.prog w = .ok (.enter 16 args) w := by kernel_rfl
/-- The document's table in its variable. -/
def BoxM (mb : Nat) (most : Int) (v : Value) (w : World) : Prop := w.cell? ⟨mb, 0, none⟩ = some (.int .i64 most) ∧ w.cell? ⟨mb, 1, none⟩ = some v ∧ w.frozen? ⟨mb, 0, none⟩ = false ∧ w.frozen? ⟨mb, 1, none⟩ = false
theorem BoxM.old {mb : Nat} {most : Int} {v : Value} {w w' : World} (h : BoxM mb most v w) (u : Old w w') : BoxM mb most v w' := ⟨u.keep h.1, u.keep h.2.1, u.keepF h.1 h.2.2.1, u.keepF h.2.1 h.2.2.2⟩
theorem BoxM.chg {mb : Nat} {most : Int} {v : Value} {S : List Nat} {w w' : World} (h : BoxM mb most v w) (u : Chg S w w') (hn : mb ∉ S) : BoxM mb most v w' := ⟨u.cell h.1 hn, u.cell h.2.1 hn, u.keepF h.1 h.2.2.1 hn, u.keepF h.2.1 h.2.2.2 hn⟩
/-- The two tables in the middle of the rounds. -/
structure Play (tb mb : Nat) (most : Int) (w0 : World) (v : Value) (L : List It) (vM : Value) (M : List Rt) (w : World) : Prop where
  tab : TabAt tb w tb most v L
  good : Good L
  len : (L.length : Int) ≤ most
  perm : M.Perm (L.map rOf)
  own : OwnM tb w vM M
  box : BoxM mb most vM w
  ap : ∀ g, g ∈ blks tb v → g ∉ blks mb vM
  ne : vM.ownBlock ≠ some mb
  old : Old w0 w
theorem Play.to {tb mb : Nat} {most : Int} {w0 : World} {v : Value} {L : List It} {vM : Value} {M : List Rt} {w w' : World} (h : Play tb mb most w0 v L vM M w) (u : Old w w') : Play tb mb most w0 v L vM M w' := ⟨h.tab.old u, h.good, h.len, h.perm, h.own.old u, h.box.old u, h.ap, h.ne, h.old.trans u⟩
theorem Play.w {tb mb : Nat} {most : Int} {w0 : World} {v : Value} {L : List It} {vM : Value} {M : List Rt} {w : World} (h : Play tb mb most w0 v L vM M w) : ∀ x ∈ M, RF x := rf_good h.perm h.good
theorem Play.leneq {tb mb : Nat} {most : Int} {w0 : World} {v : Value} {L : List It} {vM : Value} {M : List Rt} {w : World} (h : Play tb mb most w0 v L vM M w) : M.length = L.length := by rw [h.perm.length_eq, List.length_map]
/-- The program's table has turned. -/
theorem Play.turn {tb mb : Nat} {most : Int} {w0 : World} {v : Value} {L : List It} {vM : Value} {M : List Rt} {w w' : World} (h : Play tb mb most w0 v L vM M w) (c : Chg (blks tb v) w w') (hb : tb = w0.heap.size) : OwnM tb w' vM M ∧ BoxM mb most vM w' ∧ Old w0 w' :=
  ⟨h.own.chg c (fun g hg e => h.ap g e (mem_blks.2 (.inr hg))), h.box.chg c (fun e => h.ap mb e (mem_blks.2 (.inl rfl))), h.old.below (Below.mono (h.tab.below c) (by omega))⟩
/-- A new value in the document's variable. -/
theorem box_put {tb mb : Nat} {most : Int} {w0 : World} {v : Value} {L : List It} {vM vM' : Value} {M' : List Rt} {w w' : World} (e : (w.setCell ⟨mb, 0, none⟩ (.int .i64 most)).setCell ⟨mb, 1, none⟩ vM' = w') (tab : TabAt tb w tb most v L) (own : OwnM tb w vM' M') (box : BoxM mb most vM w) (hmb : mb ∉ blks tb v) (ne : vM'.ownBlock ≠ some mb) (old : Old w0 w) (hb : w0.heap.size ≤ mb) :
    TabAt tb w' tb most v L ∧ OwnM tb w' vM' M' ∧ BoxM mb most vM' w' ∧ Old w0 w' ∧ Chg [mb] w w' := by
  subst e
  have c : Chg [mb] w ((w.setCell ⟨mb, 0, none⟩ (.int .i64 most)).setCell ⟨mb, 1, none⟩ vM') := (Chg.set w ⟨mb, 0, none⟩ _ (by simp)).trans (Chg.set _ ⟨mb, 1, none⟩ _ (by simp))
  have k0 : (w.setCell ⟨mb, 0, none⟩ (.int .i64 most)).cell? ⟨mb, 1, none⟩ = some vM := by rw [World.cell?_setCell_other _ _ _ _ (by simp)]; exact box.2.1
  refine ⟨tab.chg c (fun e => ?_) (fun g hg e => ?_), own.chg c (fun g hg e => ?_), ⟨?_, World.cell?_setCell_same _ _ _ k0, ?_, ?_⟩, ?_, c⟩
  · simp at e; exact hmb (mem_blks.2 (.inl e.symm))
  · simp at e; subst e; exact hmb (mem_blks.2 (.inr hg))
  · simp at e; subst e; exact ne hg
  · rw [World.cell?_setCell_other _ _ _ _ (by simp)]; exact World.cell?_setCell_same _ _ _ box.1
  · rw [World.frozen?_setCell, World.frozen?_setCell]; exact box.2.2.1
  · rw [World.frozen?_setCell, World.frozen?_setCell]; exact box.2.2.2
  · exact (old.setCell (p := ⟨mb, 0, none⟩) hb _).setCell (p := ⟨mb, 1, none⟩) hb _
theorem box_nil {tb mb : Nat} {most : Int} {w0 : World} {v : Value} {L : List It} {vM : Value} {w w' : World} (e : w.setCell ⟨mb, 1, none⟩ (.slice none 0 0) = w') (tab : TabAt tb w tb most v L) (box : BoxM mb most vM w) (hmb : mb ∉ blks tb v) (old : Old w0 w) (hb : w0.heap.size ≤ mb) :
    TabAt tb w' tb most v L ∧ OwnM tb w' (.slice none 0 0) [] ∧ BoxM mb most (.slice none 0 0) w' ∧ Old w0 w' := by
  subst e
  have c : Chg [mb] w (w.setCell ⟨mb, 1, none⟩ (.slice none 0 0)) := Chg.set _ ⟨mb, 1, none⟩ _ (by simp)
  refine ⟨tab.chg c (fun e => ?_) (fun g hg e => ?_), OwnM.nil _ _, ⟨?_, World.cell?_setCell_same _ _ _ box.2.1, ?_, ?_⟩, old.setCell (p := ⟨mb, 1, none⟩) hb _⟩
  · simp at e; exact hmb (mem_blks.2 (.inl e.symm))
  · simp at e; subst e; exact hmb (mem_blks.2 (.inr hg))
  · rw [World.cell?_setCell_other _ _ _ _ (by simp)]; exact box.1
  · rw [World.frozen?_setCell]; exact box.2.2.1
  · rw [World.frozen?_setCell]; exact box.2.2.2
theorem keep_good {L : List It} (h : Good L) (m : Int) : Good (keepL m L) := ⟨h.1.filter _, fun x hx => h.2 x (List.mem_filter.1 hx).1⟩
def PlayI (tb mb : Nat) (most : Int) (w0 w : World) : Prop := ∃ v L vM M, Play tb mb most w0 v L vM M w
theorem play_new (tb : Nat) (most : Int) (hm : 0 ≤ most) (w w3 w4 : World) (mb : Nat) (hmb : w3.heap.size = mb) (e : w3.alloc (.cells #[.int .i64 most, .slice none 0 0] 29) = w4) (t : TabAt tb w3 tb most (.slice none 0 0) []) (u : Old w w3) : PlayI tb mb most w w4 ∧ tb < mb := by
  subst e hmb
  have hh := alloc_heap w3 (.cells #[.int .i64 most, .slice none 0 0] 29) _ rfl
  have u2 := (Old.refl w3).alloc (.cells #[.int .i64 most, .slice none 0 0] 29)
  have hl := t.lt
  refine ⟨⟨_, [], .slice none 0 0, [], t.old u2, good0, by simpa using hm, List.Perm.refl _, OwnM.nil _ _, ⟨by rw [cell_of_heap hh]; rfl, by rw [cell_of_heap hh]; rfl, frozen_of_heap hh _, frozen_of_heap hh _⟩, fun g hg hg2 => ?_, by simp [Value.ownBlock], u.trans u2⟩, hl⟩
  rcases mem_blks.1 hg with e1 | e1
  · rcases mem_blks.1 hg2 with e2 | e2
    · omega
    · simp [Value.ownBlock] at e2
  · simp [Value.ownBlock] at e1
abbrev SB (mb : Nat) (most : Int) (a : Option Addr) (n c : Nat) (w : World) : Prop := w.cell? ⟨mb, 0, none⟩ = some (.int .i64 most) ∧ w.cell? ⟨mb, 1, none⟩ = some (.slice a n c)
theorem SB.old {mb : Nat} {most : Int} {a : Option Addr} {n c : Nat} {w w' : World} (u : Old w w') (h : SB mb most a n c w) : SB mb most a n c w' := ⟨u.keep h.1, u.keep h.2⟩
/-- What the end of a round reads. -/
abbrev SK (mb : Nat) (most : Int) (a : Option Addr) (n c ob k : Nat) (w : World) : Prop := w.cell? ⟨ob, 1, none⟩ = some (.float .f64 k) ∧ w.cell? ⟨mb, 0, none⟩ = some (.int .i64 most) ∧ w.cell? ⟨mb, 1, none⟩ = some (.slice a n c)
theorem SK.old {mb : Nat} {most : Int} {a : Option Addr} {n c ob k : Nat} {w w' : World} (u : Old w w') (h : SK mb most a n c ob k w) : SK mb most a n c ob k w' := ⟨u.keep h.1, u.keep h.2.1, u.keep h.2.2⟩
abbrev SO (mb : Nat) (most : Int) (a : Option Addr) (n c ob : Nat) (z : Opv) (w : World) : Prop := w.cell? ⟨ob, 1, none⟩ = some (.float .f64 z.a) ∧ w.cell? ⟨ob, 5, none⟩ = some (.int .i64 z.n) ∧ w.cell? ⟨mb, 0, none⟩ = some (.int .i64 most) ∧ w.cell? ⟨mb, 1, none⟩ = some (.slice a n c)
theorem SO.old {mb : Nat} {most : Int} {a : Option Addr} {n c ob : Nat} {z : Opv} {w w' : World} (u : Old w w') (h : SO mb most a n c ob z w) : SO mb most a n c ob z w' := ⟨u.keep h.1, u.keep h.2.1, u.keep h.2.2.1, u.keep h.2.2.2⟩
theorem SO.chg {mb : Nat} {most : Int} {a : Option Addr} {n c ob : Nat} {z : Opv} {S : List Nat} {w w' : World} (u : Chg S w w') (h : SO mb most a n c ob z w) (h1 : ob ∉ S) (h2 : mb ∉ S) : SO mb most a n c ob z w' := ⟨u.cell h.1 h1, u.cell h.2.1 h1, u.cell h.2.2.1 h2, u.cell h.2.2.2 h2⟩
abbrev S32 (g gB j : Nat) (z : It) (w : World) : Prop := ItIn w g (j * 5) z ∧ RtIn w gB (j * 3) (rOf z)
abbrev S32e (g gB j : Nat) (z : It) (w : World) : Prop := (w.cell? ⟨g, j * 5, none⟩ = some (.float .f64 z.a) ∧ w.cell? ⟨g, j * 5 + 1, none⟩ = some (.float .f64 z.b) ∧ w.cell? ⟨g, j * 5 + 2, none⟩ = some (.bool z.p) ∧ w.cell? ⟨g, j * 5 + 3, none⟩ = some (.bool z.q) ∧ w.cell? ⟨g, j * 5 + 4, none⟩ = some (.int .i64 z.n)) ∧ w.cell? ⟨gB, j * 3, none⟩ = some (.int .u64 (Fl.code z.a : Nat)) ∧ w.cell? ⟨gB, j * 3 + 1, none⟩ = some (.int .u64 (Fl.code z.b : Nat)) ∧ w.cell? ⟨gB, j * 3 + 2, none⟩ = some (.int .i64 z.n)
theorem S32e.old {g gB j : Nat} {z : It} {w w' : World} (u : Old w w') (h : S32e g gB j z w) : S32e g gB j z w' := ⟨⟨u.keep h.1.1, u.keep h.1.2.1, u.keep h.1.2.2.1, u.keep h.1.2.2.2.1, u.keep h.1.2.2.2.2⟩, u.keep h.2.1, u.keep h.2.2.1, u.keep h.2.2.2⟩
theorem Play.lens {tb mb : Nat} {most : Int} {w0 : World} {v : Value} {L : List It} {vM : Value} {M : List Rt} {w : World} (h : Play tb mb most w0 v L vM M w) : ∃ a c, vM = .slice a L.length c := by
  obtain ⟨a, c, e⟩ := h.own.len
  exact ⟨a, c, by rw [e, h.leneq]⟩
attribute [local go_sem] run_bits run_frombits run_store_float
set_option maxHeartbeats 16000000 in
set_option maxRecDepth 20000 in
theorem playsLaw (m0 : Int) (vs : Value) (N : Nat) (f : Nat → Opv) (key : Nat) (hkey : Fl.W key) (w : World) (h : ORow w vs N f) :
    Calls Try.prog 3 #[.int .i64 m0, vs, .float .f64 key] w fun e w' => e = .returned (.bool true) ∧ Old w w' := by
  have HO := hid h
  obtain ⟨hbN, sa, sc, hvs, hsc, _⟩ := h
  subst hvs
  have hm64 := hid (show mostC m0 ≤ 64 by unfold mostC; omega)
  have hm0 := hid (show 0 ≤ mostC m0 by unfold mostC; omega)
  have HN := hid (fun W => new_any m0 W)
  have HRN := hid (fun W => rNew_any m0 W)
  generalize mostC m0 = most at *
  go_enter Try.func3, Try.ntmps3
  go_upto_region 4 with (first | (go_at_call 4; refine (HN.out _).mono ?_; rintro e w1 ⟨rfl, t1, u1⟩; have T1 := hid t1; have U1 := hid u1; clear t1 u1) | (go_at_call 5; refine (alive_any _).mono ?_; rintro e w2 ⟨rfl, u2⟩; have T2 := hid (T1.out.old u2); have U2 := hid (U1.out.trans u2); clear u2))
  clear T1 U1 HN
  generalize htb : w.heap.size = tb at *
  have HTB := hid htb
  clear htb
  go_upto_region 5 with (first | (go_at_call 6; refine (HRN.out _).mono ?_; rintro e w3 ⟨rfl, u3⟩; have T3 := hid (T2.out.old u3); have U3 := hid (U2.out.trans u3); clear u3))
  generalize hmb : w3.heap.size = mb at *
  generalize hw4 : w3.alloc (.cells #[.int .i64 most, .slice none 0 0] 29) = w4 at *
  have HI := hid (play_new tb most hm0.out w w3 w4 mb hmb hw4 T3.out U3.out)
  have HMB := hid (show w.heap.size ≤ mb by have := HI.out.2; have := HTB.out; omega)
  have HTM := hid HI.out.2
  have HI0 := hid HI.out.1
  clear T2 T3 U2 U3 HRN hmb hw4 HI hbN hsc
  go_wp2
  go_loopw [30] (fun i wr => ∃ k : Nat, k ≤ N ∧ i = .int .i64 (k : Nat) ∧ PlayI tb mb most w wr) (fun i _ => N - (intOf i).toNat)
  case atStart => exact ⟨0, Nat.zero_le _, rfl, HI0.out⟩
  case round =>
    obtain ⟨k, hk, rfl, v, L, vM, M, hP⟩ := hrel
    obtain ⟨a, c, hvM⟩ := hP.lens
    subst hvM
    have P0 := hid hP
    clear hP HI0
    have hlL : L.length ≤ 1000000 := by have := P0.out.len; have := hm64.out; omega
    have hlM : M.length ≤ 1000000 := by rw [P0.out.leneq]; exact hlL
    by_cases hlt : k < N
    · obtain ⟨_, a', c', e', _, hc⟩ := HO.out.old P0.out.old
      obtain ⟨b', off, hsa, hW, hW2, o0, o1, o2, o3, o4, o5⟩ := hc k hlt
      simp only [Value.slice.injEq] at e'
      obtain ⟨rfl, _, rfl⟩ := e'
      subst hsa
      have l1 : (0 : Int) ≤ (k : Int) := by omega
      have l2 : (k : Int) < (N : Int) := by omega
      clear hc
      generalize hfk : f k = z at *
      go_upto_region 8 with fail
      have B4 := hid (op_new wr z _ rfl)
      have U4 := hid ((Old.refl wr).alloc (.cells #[.int .i64 z.kd, .float .f64 z.a, .float .f64 z.b, .bool z.p, .bool z.q, .int .i64 z.n] 34))
      have P4 := hid (P0.out.to U4.out)
      have hob := hid (show wr.heap.size ∉ blks tb v ∧ wr.heap.size ≠ mb from ⟨fun e => by have := (P0.out.tab.blk _ e).2; omega, fun e => by have := World.block_lt_of_cell? wr _ P0.out.box.1; simp at this; omega⟩)
      clear o0 o1 o2 o3 o4 o5 P0 hfk
      generalize wr.alloc (.cells #[.int .i64 z.kd, .float .f64 z.a, .float .f64 z.b, .bool z.p, .bool z.q, .int .i64 z.n] 34) = w4 at *
      generalize wr.heap.size = ob at *
      obtain ⟨o0, o1, o2, o3, o4, o5⟩ := B4.out
      have hmbn := hid (show mb ∉ blks tb v from fun e => P4.out.ap mb e (mem_blks.2 (.inl rfl)))
      by_cases k1 : z.kd = 1
      · have j1 : (z.kd == 1) = true := by rw [beq_iff_eq]; exact k1
        clear k1
        have HPP := hid (put_perm P4.out.perm P4.out.good z.a z.b z.p z.q hW hW2 z.n most)
        have HPt := hid (put_any tb tb most z.n v L z.a z.b z.p z.q hW hW2 w4 P4.out.tab P4.out.good hlL)
        have HR := hid (fun (W : World) (own : OwnM tb W (.slice a L.length c) M) (hb : tb ≤ W.heap.size) => rPut_any tb most z.n (.slice a L.length c) M z.a z.b z.p z.q hW hW2 W own hb hlM)
        rw [HPP.out.1] at HR
        have HG5 := hid (put_good (p := z.p) (q := z.q) (n := z.n) (most := most) hW hW2 P4.out.good)
        have HM5 := hid (put_most (x := z.a) (y := z.b) (p := z.p) (q := z.q) (n := z.n) P4.out.good P4.out.len)
        generalize (putM (Fl.rL z.a z.b z.p z.q) (Fl.rH z.a z.b z.p z.q) z.n most M).2 = M1 at *
        have HPe := hid HPP.out.2
        clear HPP
        generalize (putR z.a z.b z.p z.q z.n most L).2 = L1 at *
        generalize (putR z.a z.b z.p z.q z.n most L).1 = ec at *
        go_upto_region 11 with (first | (go_at_call 7; refine HPt.out.mono ?_; rintro e w5 ⟨v5, rfl, t5, c5, n5⟩; have T5 := hid t5; have C5 := hid c5; have N5 := hid n5; clear t5 c5 n5))
        have R5 := hid (P4.out.turn C5.out HTB.out.symm)
        have p1 := C5.out.cell o1 hob.out.1
        have p2 := C5.out.cell o2 hob.out.1
        have p3 := C5.out.cell o3 hob.out.1
        have p4 := C5.out.cell o4 hob.out.1
        have p5 := C5.out.cell o5 hob.out.1
        obtain ⟨b0, b1, f0, f1⟩ := R5.out.2.1
        have HMB5 := hid (show mb ∉ blks tb v5 from fun e => by
          rcases mem_blks.1 e with q | q
          · have := HTM.out; omega
          · rcases N5.out mb q with r | r
            · exact hmbn.out (mem_blks.2 (.inr r))
            · have := World.block_lt_of_cell? w4 _ P4.out.box.1; simp at this; omega)
        have HAP5 := hid (show ∀ g, g ∈ blks tb v5 → g ∉ blks mb (.slice a L.length c) from fun g hg hg2 => by
          rcases mem_blks.1 hg with q | q
          · exact P4.out.ap g (mem_blks.2 (.inl q)) hg2
          · rcases N5.out g q with r | r
            · exact P4.out.ap g (mem_blks.2 (.inr r)) hg2
            · rcases mem_blks.1 hg2 with s | s
              · have := World.block_lt_of_cell? w4 _ P4.out.box.1; simp at this; omega
              · have := (P4.out.own.lt g s).2; omega)
        have HNE := hid P4.out.ne
        have HBs := hid (show tb ≤ w5.heap.size from Nat.le_of_lt T5.out.lt)
        clear o0 o1 o2 o3 o4 o5 B4 P4 HPt C5 N5
        go_upto_region 12 with (first | (go_at_call 8; refine (HR.out _ R5.out.1 HBs.out).mono ?_; rintro e w6 ⟨v6, rfl, om, u6, n6⟩; obtain ⟨a6, c6, hv6⟩ := om.len; rw [HPe.out.length_eq, List.length_map] at hv6; subst hv6; have O6 := hid om; have U6 := hid u6; have N6 := hid n6; clear om u6 n6))
        have U7 := hid (U6.out.alloc (.cells #[.int .i64 most, .slice a6 L1.length c6] 29))
        have O7 := hid (O6.out.old ((Old.refl w6).alloc (.cells #[.int .i64 most, .slice a6 L1.length c6] 29)))
        have hh := alloc_heap w6 (.cells #[.int .i64 most, .slice a6 L1.length c6] 29) _ rfl
        have r0 : (w6.alloc (.cells #[.int .i64 most, .slice a6 L1.length c6] 29)).cell? ⟨w6.heap.size, 0, none⟩ = some (.int .i64 most) := by rw [cell_of_heap hh]; rfl
        have r1 : (w6.alloc (.cells #[.int .i64 most, .slice a6 L1.length c6] 29)).cell? ⟨w6.heap.size, 1, none⟩ = some (.slice a6 L1.length c6) := by rw [cell_of_heap hh]; rfl
        clear hh
        generalize w6.alloc (.cells #[.int .i64 most, .slice a6 L1.length c6] 29) = w7 at *
        generalize w6.heap.size = nb at *
        have q0 := U7.out.keep b0
        have q1 := U7.out.keep b1
        have g0 := U7.out.keepF b0 f0
        have g1 := U7.out.keepF b1 f1
        clear b0 b1 f0 f1 O6 U6
        go_upto_region 13 with fail
        have HN6 := hid (show (Value.slice a6 L1.length c6).ownBlock ≠ some mb from fun e => by
          rcases N6.out mb e with r | r
          · exact HNE.out r
          · have := World.block_lt_of_cell? w5 _ R5.out.2.1.1; simp at this; omega)
        generalize hw8 : (w7.setCell ⟨mb, 0, none⟩ (.int .i64 most)).setCell ⟨mb, 1, none⟩ (.slice a6 L1.length c6) = w8 at *
        have K8 := hid (box_put hw8 (T5.out.old U7.out) O7.out (R5.out.2.1.old U7.out) HMB5.out HN6.out (R5.out.2.2.trans U7.out) HMB.out)
        clear hw8
        have P8 := hid (show Play tb mb most w v5 L1 (.slice a6 L1.length c6) M1 w8 from ⟨K8.out.1, HG5.out, HM5.out, HPe.out, K8.out.2.1, K8.out.2.2.1, fun g hg hg2 => by
          rcases mem_blks.1 hg2 with s | s
          · exact HAP5.out g hg (mem_blks.2 (.inl s))
          · rcases N6.out g s with r | r
            · exact HAP5.out g hg (mem_blks.2 (.inr r))
            · have := (T5.out.blk g hg).2; omega, HN6.out, K8.out.2.2.2.1⟩)
        have hnn : ob ∉ [mb] := by simp; exact hob.out.2
        have OB8 := hid (show w8.cell? ⟨ob, 1, none⟩ = some (.float .f64 z.a) from K8.out.2.2.2.2.cell (U7.out.keep p1) hnn)
        clear p1 p2 p3 p4 p5 q0 q1 g0 g1 r0 r1 HAP5 HNE HBs N6 HN6 K8 O7 U7 R5 T5 HMB5 HG5 HM5 HPe HR hnn
        have SBT := hid (show SK mb most a6 L1.length c6 ob z.a w8 from ⟨OB8.out, P8.out.box.1, P8.out.box.2.1⟩)
        have hz1 : L1.length ≤ 1000000 := by have := P8.out.len; have := hm64.out; omega
        have hz2 : M1.length ≤ 1000000 := by rw [P8.out.leneq]; exact hz1
        have HLn := hid (fun (W : World) (u : Old w8 W) => (len_any tb tb most v5 L1 W (P8.out.tab.old u)).mono fun e w' h => (⟨h.1, by rw [h.2]; exact Old.refl _⟩ : _ ∧ Old W w'))
        have HK1 := hid (fun (W : World) (u : Old w8 W) => at_any tb tb most v5 L1 key hkey W (P8.out.tab.old u) P8.out.good hz1)
        have HK2 := hid (fun (W : World) (u : Old w8 W) => rAt_any tb most (.slice a6 L1.length c6) M1 key hkey W (P8.out.own.old u) hz2)
        rw [at_perm P8.out.perm P8.out.good] at HK2
        have HV1 := hid (fun (W : World) (u : Old w8 W) => at_any tb tb most v5 L1 z.a hW W (P8.out.tab.old u) P8.out.good hz1)
        have HV2 := hid (fun (W : World) (u : Old w8 W) => rAt_any tb most (.slice a6 L1.length c6) M1 z.a hW W (P8.out.own.old u) hz2)
        rw [at_perm P8.out.perm P8.out.good] at HV2
        generalize overT key L1 L1.length = A at *
        generalize overT z.a L1 L1.length = R at *
        go_upto_region 23 with fail
        refine wp_region_noPanic ?_
        refine wp_region_held_drew (S := SK mb most a6 L1.length c6 ob z.a) (by kernel_rfl) ?_ (fun hHeld => ?_)
        · exact SK.old ((Old.refl _).drew) SBT.out
        (try simp only [Act.put]); (try simp only [List.setIfInBounds_toArray]); (try simp only [List.set_cons_succ]); (try simp only [List.set_cons_zero])
        clear hHeld
        refine wpAnyH_take (i := 0) (oi := { dst := some 81, op := Op.move (Operand.tmp 7), type := 24, pos := "law.go:54", after := #[], guard := none }) (v := ?vk1) rfl (by kernel_rfl) (by kernel_rfl) (by kernel_rfl) (fun _ _ _ h => h) (Or.inl ⟨by rfl, ?hk1⟩) (SK.old ((Old.refl w8).drew) SBT.out) ?rk1
        case hk1 => (intro wz hSw; (try dsimp only at hSw); go_simp; try with_reducible rfl)
        (try simp only [Act.put]); (try simp only [List.setIfInBounds_toArray]); (try simp only [List.set_cons_succ]); (try simp only [List.set_cons_zero])
        refine wpAnyH_take (i := 2) (oi := { dst := some 83, op := Op.fieldAddr 29 (Operand.tmp 8) 1, type := 0, pos := "law.go:54", after := #[], guard := none }) (v := ?vk2) rfl (by kernel_rfl) (by kernel_rfl) (by kernel_rfl) (fun _ _ _ h => h) (Or.inl ⟨by rfl, ?hk2⟩) (SK.old ((Old.refl w8).drew) SBT.out) ?rk2
        case hk2 => (intro wz hSw; (try dsimp only at hSw); go_simp; try with_reducible rfl)
        (try simp only [Act.put]); (try simp only [List.setIfInBounds_toArray]); (try simp only [List.set_cons_succ]); (try simp only [List.set_cons_zero])
        refine wpAnyH_take (i := 3) (oi := { dst := some 84, op := Op.load 27 (Operand.tmp 83), type := 27, pos := "law.go:54", after := #[{ on := 2, ground := Ground.data }], guard := none }) (v := ?vk3) rfl (by kernel_rfl) (by kernel_rfl) (by kernel_rfl) (fun _ _ _ h => h) (Or.inl ⟨by rfl, ?hk3⟩) (SK.old ((Old.refl w8).drew) SBT.out) ?rk3
        case hk3 => (intro wz hSw; (try dsimp only at hSw); go_simp; try with_reducible rfl)
        (try simp only [Act.put]); (try simp only [List.setIfInBounds_toArray]); (try simp only [List.set_cons_succ]); (try simp only [List.set_cons_zero])
        refine wpAnyH_take (i := 4) (oi := { dst := some 85, op := Op.call { callee := Callee.builtin Builtin.len, args := #[Operand.tmp 84], argTypes := #[27] }, type := 3, pos := "law.go:54", after := #[{ on := 3, ground := Ground.data }], guard := none }) (v := ?vk4) rfl (by kernel_rfl) (by kernel_rfl) (by kernel_rfl) (fun _ _ _ h => h) (Or.inl ⟨by rfl, ?hk4⟩) (SK.old ((Old.refl w8).drew) SBT.out) ?rk4
        case hk4 => (intro wz hSw; (try dsimp only at hSw); go_simp; try with_reducible rfl)
        (try simp only [Act.put]); (try simp only [List.setIfInBounds_toArray]); (try simp only [List.set_cons_succ]); (try simp only [List.set_cons_zero])
        refine wpAnyH_ready (rs := [1]) (by kernel_rfl) (by simp) ?_
        refine AllReadyH.cons (o := { dst := some 82, op := Op.call { callee := Callee.value (Operand.func 12), args := #[Operand.tmp 81], argTypes := #[24] }, type := 3, pos := "law.go:54", after := #[{ on := 0, ground := Ground.data }], guard := none }) rfl (fun K hK => ?_) AllReadyH.nil
        refine wantCall1 ?_ 12 (.tmp 81) #[24] ?_ (.pointer (some ⟨tb, 0, none⟩)) ?_ ?_ (ent_len _ _) ?_
        · rfl
        · rfl
        · rfl
        · rfl
        refine (HLn.out _ ((Old.refl w8).drew)).mono ?_
        rintro o x5 ⟨rfl, b5⟩
        refine ⟨_, rfl, ?_⟩
        have U5 := ((Old.refl w8).drew).trans b5
        refine hK.out _ _ (SK.old U5 SBT.out) (fun _ => ?_)
        clear hK K
        (try simp only [Act.put]); (try simp only [List.setIfInBounds_toArray]); (try simp only [List.set_cons_succ]); (try simp only [List.set_cons_zero])
        refine wpAnyH_take (i := 5) (oi := { dst := some 86, op := Op.binOp BinOp.neq 3 (Operand.tmp 82) (Operand.tmp 85) 3, type := 4, pos := "law.go:54", after := #[{ on := 1, ground := Ground.data }, { on := 4, ground := Ground.data }], guard := none }) (v := ?vk6) rfl (by kernel_rfl) (by kernel_rfl) (by kernel_rfl) (fun _ _ _ h => h) (Or.inl ⟨by rfl, ?hk6⟩) (SK.old U5 SBT.out) ?rk6
        case hk6 => (intro wz hSw; (try dsimp only at hSw); go_simp; try with_reducible rfl)
        (try simp only [Act.put]); (try simp only [List.setIfInBounds_toArray]); (try simp only [List.set_cons_succ]); (try simp only [List.set_cons_zero])
        refine wpAnyH_take (i := 6) (oi := { dst := some 87, op := Op.move (Operand.tmp 86), type := 4, pos := "law.go:54", after := #[{ on := 5, ground := Ground.data }, { on := 1, ground := Ground.chain }], guard := none }) (v := ?vk7) rfl (by kernel_rfl) (by kernel_rfl) (by kernel_rfl) (fun _ _ _ h => h) (Or.inl ⟨by rfl, ?hk7⟩) (SK.old U5 SBT.out) ?rk7
        case hk7 => (intro wz hSw; (try dsimp only at hSw); go_simp; try with_reducible rfl)
        (try simp only [Act.put]); (try simp only [List.setIfInBounds_toArray]); (try simp only [List.set_cons_succ]); (try simp only [List.set_cons_zero])
        refine wpAnyH_take (i := 7) (oi := { dst := some 88, op := Op.move (Operand.tmp 7), type := 24, pos := "law.go:54", after := #[{ on := 6, ground := Ground.guard }], guard := some (6, false) }) (v := ?vk8) rfl (by kernel_rfl) (by kernel_rfl) (by kernel_rfl) (fun _ _ _ h => h) (Or.inl ⟨by rfl, ?hk8⟩) (SK.old U5 SBT.out) ?rk8
        case hk8 => (intro wz hSw; (try dsimp only at hSw); go_simp; try with_reducible rfl)
        (try simp only [Act.put]); (try simp only [List.setIfInBounds_toArray]); (try simp only [List.set_cons_succ]); (try simp only [List.set_cons_zero])
        refine wpAnyH_take (i := 8) (oi := { dst := some 89, op := Op.move (Operand.tmp 2), type := 23, pos := "law.go:54", after := #[{ on := 6, ground := Ground.guard }], guard := some (6, false) }) (v := ?vk9) rfl (by kernel_rfl) (by kernel_rfl) (by kernel_rfl) (fun _ _ _ h => h) (Or.inl ⟨by rfl, ?hk9⟩) (SK.old U5 SBT.out) ?rk9
        case hk9 => (intro wz hSw; (try dsimp only at hSw); go_simp; try with_reducible rfl)
        (try simp only [Act.put]); (try simp only [List.setIfInBounds_toArray]); (try simp only [List.set_cons_succ]); (try simp only [List.set_cons_zero])
        refine wpAnyH_take (i := 10) (oi := { dst := some 91, op := Op.load 29 (Operand.tmp 8), type := 29, pos := "law.go:54", after := #[{ on := 6, ground := Ground.guard }], guard := some (6, false) }) (v := ?vk10) rfl (by kernel_rfl) (by kernel_rfl) (by kernel_rfl) (fun _ _ _ h => h) (Or.inl ⟨by rfl, ?hk10⟩) (SK.old U5 SBT.out) ?rk10
        case hk10 => (intro wz hSw; (try dsimp only at hSw); go_simp; try with_reducible rfl)
        (try simp only [Act.put]); (try simp only [List.setIfInBounds_toArray]); (try simp only [List.set_cons_succ]); (try simp only [List.set_cons_zero])
        refine wpAnyH_take (i := 11) (oi := { dst := some 92, op := Op.move (Operand.tmp 2), type := 23, pos := "law.go:54", after := #[{ on := 6, ground := Ground.guard }], guard := some (6, false) }) (v := ?vk11) rfl (by kernel_rfl) (by kernel_rfl) (by kernel_rfl) (fun _ _ _ h => h) (Or.inl ⟨by rfl, ?hk11⟩) (SK.old U5 SBT.out) ?rk11
        case hk11 => (intro wz hSw; (try dsimp only at hSw); go_simp; try with_reducible rfl)
        (try simp only [Act.put]); (try simp only [List.setIfInBounds_toArray]); (try simp only [List.set_cons_succ]); (try simp only [List.set_cons_zero])
        refine wpAnyH_ready (rs := [9]) (by kernel_rfl) (by simp) ?_
        refine AllReadyH.cons (o := { dst := some 90, op := Op.call { callee := Callee.value (Operand.func 13), args := #[Operand.tmp 88, Operand.tmp 89], argTypes := #[24, 23] }, type := 2, pos := "law.go:54", after := #[{ on := 7, ground := Ground.data }, { on := 8, ground := Ground.data }, { on := 6, ground := Ground.chain }, { on := 6, ground := Ground.guard }], guard := some (6, false) }) rfl (fun K hK => ?_) AllReadyH.nil
        refine wantCall2 ?_ 13 (.tmp 88) (.tmp 89) #[24, 23] ?_ (.pointer (some ⟨tb, 0, none⟩)) (.float .f64 key) ?_ ?_ ?_ (ent_pat _ _) ?_
        · rfl
        · rfl
        · rfl
        · rfl
        · rfl
        refine (HK1.out _ U5).mono ?_
        rintro o x12 ⟨rfl, b12⟩
        refine ⟨_, rfl, ?_⟩
        have U12 := U5.trans b12
        refine hK.out _ _ (SK.old U12 SBT.out) (fun _ => ?_)
        clear hK K
        (try simp only [Act.put]); (try simp only [List.setIfInBounds_toArray]); (try simp only [List.set_cons_succ]); (try simp only [List.set_cons_zero])
        refine wpAnyH_ready (rs := [12]) (by kernel_rfl) (by simp) ?_
        refine AllReadyH.cons (o := { dst := some 93, op := Op.call { callee := Callee.value (Operand.func 14), args := #[Operand.tmp 91, Operand.tmp 92], argTypes := #[29, 23] }, type := 2, pos := "law.go:54", after := #[{ on := 10, ground := Ground.data }, { on := 11, ground := Ground.data }, { on := 9, ground := Ground.chain }, { on := 6, ground := Ground.guard }], guard := some (6, false) }) rfl (fun K hK => ?_) AllReadyH.nil
        refine wantCall2 ?_ 14 (.tmp 91) (.tmp 92) #[29, 23] ?_ (.agg #[.int .i64 most, .slice a6 L1.length c6]) (.float .f64 key) ?_ ?_ ?_ (ent_rat _ _) ?_
        · rfl
        · rfl
        · rfl
        · rfl
        · rfl
        refine (HK2.out _ U12).mono ?_
        rintro o x13 ⟨rfl, b13⟩
        refine ⟨_, rfl, ?_⟩
        have U13 := U12.trans b13
        refine hK.out _ _ (SK.old U13 SBT.out) (fun _ => ?_)
        clear hK K
        (try simp only [Act.put]); (try simp only [List.setIfInBounds_toArray]); (try simp only [List.set_cons_succ]); (try simp only [List.set_cons_zero])
        refine wpAnyH_take (i := 13) (oi := { dst := some 94, op := Op.binOp BinOp.neq 2 (Operand.tmp 90) (Operand.tmp 93) 2, type := 4, pos := "law.go:54", after := #[{ on := 9, ground := Ground.data }, { on := 12, ground := Ground.data }, { on := 6, ground := Ground.guard }], guard := some (6, false) }) (v := ?vk14) rfl (by kernel_rfl) (by kernel_rfl) (by kernel_rfl) (fun _ _ _ h => h) (Or.inl ⟨by rfl, ?hk14⟩) (SK.old U13 SBT.out) ?rk14
        case hk14 => (intro wz hSw; (try dsimp only at hSw); go_simp; try with_reducible rfl)
        (try simp only [Act.put]); (try simp only [List.setIfInBounds_toArray]); (try simp only [List.set_cons_succ]); (try simp only [List.set_cons_zero])
        refine wpAnyH_take (i := 14) (oi := { dst := some 95, op := Op.pick (Operand.tmp 87) (Operand.const (Value.bool true)) (Operand.tmp 94), type := 4, pos := "law.go:54", after := #[{ on := 6, ground := Ground.data }, { on := 13, ground := Ground.data }], guard := none }) (v := ?vk15) rfl (by kernel_rfl) (by kernel_rfl) (by kernel_rfl) (fun _ _ _ h => h) (Or.inl ⟨by rfl, ?hk15⟩) (SK.old U13 SBT.out) ?rk15
        case hk15 => (intro wz hSw; (try dsimp only at hSw); go_simp; try with_reducible rfl)
        (try simp only [Act.put]); (try simp only [List.setIfInBounds_toArray]); (try simp only [List.set_cons_succ]); (try simp only [List.set_cons_zero])
        refine wpAnyH_take (i := 15) (oi := { dst := some 96, op := Op.move (Operand.tmp 95), type := 4, pos := "law.go:54", after := #[{ on := 14, ground := Ground.data }, { on := 12, ground := Ground.chain }], guard := none }) (v := ?vk16) rfl (by kernel_rfl) (by kernel_rfl) (by kernel_rfl) (fun _ _ _ h => h) (Or.inl ⟨by rfl, ?hk16⟩) (SK.old U13 SBT.out) ?rk16
        case hk16 => (intro wz hSw; (try dsimp only at hSw); go_simp; try with_reducible rfl)
        (try simp only [Act.put]); (try simp only [List.setIfInBounds_toArray]); (try simp only [List.set_cons_succ]); (try simp only [List.set_cons_zero])
        refine wpAnyH_take (i := 16) (oi := { dst := some 97, op := Op.move (Operand.tmp 7), type := 24, pos := "law.go:54", after := #[{ on := 15, ground := Ground.guard }], guard := some (15, false) }) (v := ?vk17) rfl (by kernel_rfl) (by kernel_rfl) (by kernel_rfl) (fun _ _ _ h => h) (Or.inl ⟨by rfl, ?hk17⟩) (SK.old U13 SBT.out) ?rk17
        case hk17 => (intro wz hSw; (try dsimp only at hSw); go_simp; try with_reducible rfl)
        (try simp only [Act.put]); (try simp only [List.setIfInBounds_toArray]); (try simp only [List.set_cons_succ]); (try simp only [List.set_cons_zero])
        refine wpAnyH_take (i := 17) (oi := { dst := some 98, op := Op.fieldAddr 34 (Operand.tmp 10) 1, type := 0, pos := "law.go:54", after := #[{ on := 15, ground := Ground.guard }], guard := some (15, false) }) (v := ?vk18) rfl (by kernel_rfl) (by kernel_rfl) (by kernel_rfl) (fun _ _ _ h => h) (Or.inl ⟨by rfl, ?hk18⟩) (SK.old U13 SBT.out) ?rk18
        case hk18 => (intro wz hSw; (try dsimp only at hSw); go_simp; try with_reducible rfl)
        (try simp only [Act.put]); (try simp only [List.setIfInBounds_toArray]); (try simp only [List.set_cons_succ]); (try simp only [List.set_cons_zero])
        refine wpAnyH_take (i := 18) (oi := { dst := some 99, op := Op.fieldAddr 32 (Operand.tmp 98) 0, type := 0, pos := "law.go:54", after := #[{ on := 17, ground := Ground.data }, { on := 15, ground := Ground.guard }], guard := some (15, false) }) (v := ?vk19) rfl (by kernel_rfl) (by kernel_rfl) (by kernel_rfl) (fun _ _ _ h => h) (Or.inl ⟨by rfl, ?hk19⟩) (SK.old U13 SBT.out) ?rk19
        case hk19 => (intro wz hSw; (try dsimp only at hSw); go_simp; try with_reducible rfl)
        (try simp only [Act.put]); (try simp only [List.setIfInBounds_toArray]); (try simp only [List.set_cons_succ]); (try simp only [List.set_cons_zero])
        refine wpAnyH_take (i := 19) (oi := { dst := some 100, op := Op.load 23 (Operand.tmp 99), type := 23, pos := "law.go:54", after := #[{ on := 18, ground := Ground.data }, { on := 15, ground := Ground.guard }], guard := some (15, false) }) (v := ?vk20) rfl (by kernel_rfl) (by kernel_rfl) (by kernel_rfl) (fun _ _ _ h => h) (Or.inl ⟨by rfl, ?hk20⟩) (SK.old U13 SBT.out) ?rk20
        case hk20 => (intro wz hSw; (try dsimp only at hSw); go_simp; try with_reducible rfl)
        (try simp only [Act.put]); (try simp only [List.setIfInBounds_toArray]); (try simp only [List.set_cons_succ]); (try simp only [List.set_cons_zero])
        refine wpAnyH_take (i := 21) (oi := { dst := some 102, op := Op.load 29 (Operand.tmp 8), type := 29, pos := "law.go:54", after := #[{ on := 15, ground := Ground.guard }], guard := some (15, false) }) (v := ?vk21) rfl (by kernel_rfl) (by kernel_rfl) (by kernel_rfl) (fun _ _ _ h => h) (Or.inl ⟨by rfl, ?hk21⟩) (SK.old U13 SBT.out) ?rk21
        case hk21 => (intro wz hSw; (try dsimp only at hSw); go_simp; try with_reducible rfl)
        (try simp only [Act.put]); (try simp only [List.setIfInBounds_toArray]); (try simp only [List.set_cons_succ]); (try simp only [List.set_cons_zero])
        refine wpAnyH_take (i := 22) (oi := { dst := some 103, op := Op.fieldAddr 34 (Operand.tmp 10) 1, type := 0, pos := "law.go:54", after := #[{ on := 15, ground := Ground.guard }], guard := some (15, false) }) (v := ?vk22) rfl (by kernel_rfl) (by kernel_rfl) (by kernel_rfl) (fun _ _ _ h => h) (Or.inl ⟨by rfl, ?hk22⟩) (SK.old U13 SBT.out) ?rk22
        case hk22 => (intro wz hSw; (try dsimp only at hSw); go_simp; try with_reducible rfl)
        (try simp only [Act.put]); (try simp only [List.setIfInBounds_toArray]); (try simp only [List.set_cons_succ]); (try simp only [List.set_cons_zero])
        refine wpAnyH_take (i := 23) (oi := { dst := some 104, op := Op.fieldAddr 32 (Operand.tmp 103) 0, type := 0, pos := "law.go:54", after := #[{ on := 22, ground := Ground.data }, { on := 15, ground := Ground.guard }], guard := some (15, false) }) (v := ?vk23) rfl (by kernel_rfl) (by kernel_rfl) (by kernel_rfl) (fun _ _ _ h => h) (Or.inl ⟨by rfl, ?hk23⟩) (SK.old U13 SBT.out) ?rk23
        case hk23 => (intro wz hSw; (try dsimp only at hSw); go_simp; try with_reducible rfl)
        (try simp only [Act.put]); (try simp only [List.setIfInBounds_toArray]); (try simp only [List.set_cons_succ]); (try simp only [List.set_cons_zero])
        refine wpAnyH_take (i := 24) (oi := { dst := some 105, op := Op.load 23 (Operand.tmp 104), type := 23, pos := "law.go:54", after := #[{ on := 23, ground := Ground.data }, { on := 15, ground := Ground.guard }], guard := some (15, false) }) (v := ?vk24) rfl (by kernel_rfl) (by kernel_rfl) (by kernel_rfl) (fun _ _ _ h => h) (Or.inl ⟨by rfl, ?hk24⟩) (SK.old U13 SBT.out) ?rk24
        case hk24 => (intro wz hSw; (try dsimp only at hSw); go_simp; try with_reducible rfl)
        (try simp only [Act.put]); (try simp only [List.setIfInBounds_toArray]); (try simp only [List.set_cons_succ]); (try simp only [List.set_cons_zero])
        refine wpAnyH_ready (rs := [20]) (by kernel_rfl) (by simp) ?_
        refine AllReadyH.cons (o := { dst := some 101, op := Op.call { callee := Callee.value (Operand.func 13), args := #[Operand.tmp 97, Operand.tmp 100], argTypes := #[24, 23] }, type := 2, pos := "law.go:54", after := #[{ on := 16, ground := Ground.data }, { on := 19, ground := Ground.data }, { on := 15, ground := Ground.chain }, { on := 15, ground := Ground.guard }], guard := some (15, false) }) rfl (fun K hK => ?_) AllReadyH.nil
        refine wantCall2 ?_ 13 (.tmp 97) (.tmp 100) #[24, 23] ?_ (.pointer (some ⟨tb, 0, none⟩)) (.float .f64 z.a) ?_ ?_ ?_ (ent_pat _ _) ?_
        · rfl
        · rfl
        · rfl
        · rfl
        · rfl
        refine (HV1.out _ U13).mono ?_
        rintro o x25 ⟨rfl, b25⟩
        refine ⟨_, rfl, ?_⟩
        have U25 := U13.trans b25
        refine hK.out _ _ (SK.old U25 SBT.out) (fun _ => ?_)
        clear hK K
        (try simp only [Act.put]); (try simp only [List.setIfInBounds_toArray]); (try simp only [List.set_cons_succ]); (try simp only [List.set_cons_zero])
        refine wpAnyH_ready (rs := [25]) (by kernel_rfl) (by simp) ?_
        refine AllReadyH.cons (o := { dst := some 106, op := Op.call { callee := Callee.value (Operand.func 14), args := #[Operand.tmp 102, Operand.tmp 105], argTypes := #[29, 23] }, type := 2, pos := "law.go:54", after := #[{ on := 21, ground := Ground.data }, { on := 24, ground := Ground.data }, { on := 20, ground := Ground.chain }, { on := 15, ground := Ground.guard }], guard := some (15, false) }) rfl (fun K hK => ?_) AllReadyH.nil
        refine wantCall2 ?_ 14 (.tmp 102) (.tmp 105) #[29, 23] ?_ (.agg #[.int .i64 most, .slice a6 L1.length c6]) (.float .f64 z.a) ?_ ?_ ?_ (ent_rat _ _) ?_
        · rfl
        · rfl
        · rfl
        · rfl
        · rfl
        refine (HV2.out _ U25).mono ?_
        rintro o x26 ⟨rfl, b26⟩
        refine ⟨_, rfl, ?_⟩
        have U26 := U25.trans b26
        refine hK.out _ _ (SK.old U26 SBT.out) (fun _ => ?_)
        clear hK K
        (try simp only [Act.put]); (try simp only [List.setIfInBounds_toArray]); (try simp only [List.set_cons_succ]); (try simp only [List.set_cons_zero])
        refine wpAnyH_take (i := 26) (oi := { dst := some 107, op := Op.binOp BinOp.neq 2 (Operand.tmp 101) (Operand.tmp 106) 2, type := 4, pos := "law.go:54", after := #[{ on := 20, ground := Ground.data }, { on := 25, ground := Ground.data }, { on := 15, ground := Ground.guard }], guard := some (15, false) }) (v := ?vk27) rfl (by kernel_rfl) (by kernel_rfl) (by kernel_rfl) (fun _ _ _ h => h) (Or.inl ⟨by rfl, ?hk27⟩) (SK.old U26 SBT.out) ?rk27
        case hk27 => (intro wz hSw; (try dsimp only at hSw); go_simp; try with_reducible rfl)
        (try simp only [Act.put]); (try simp only [List.setIfInBounds_toArray]); (try simp only [List.set_cons_succ]); (try simp only [List.set_cons_zero])
        refine wpAnyH_take (i := 27) (oi := { dst := some 108, op := Op.pick (Operand.tmp 96) (Operand.const (Value.bool true)) (Operand.tmp 107), type := 4, pos := "law.go:54", after := #[{ on := 15, ground := Ground.data }, { on := 26, ground := Ground.data }], guard := none }) (v := ?vk28) rfl (by kernel_rfl) (by kernel_rfl) (by kernel_rfl) (fun _ _ _ h => h) (Or.inl ⟨by rfl, ?hk28⟩) (SK.old U26 SBT.out) ?rk28
        case hk28 => (intro wz hSw; (try dsimp only at hSw); go_simp; try with_reducible rfl)
        (try simp only [Act.put]); (try simp only [List.setIfInBounds_toArray]); (try simp only [List.set_cons_succ]); (try simp only [List.set_cons_zero])
        refine wpAnyH_done (by kernel_rfl) ?_ _
        refine NoPanic.normal ?_
        have U9 := hid U26
        clear HLn HK1 HK2 HV1 HV2 SBT
        go_wp2
        go_roundw
        case rel => exact ⟨k + 1, hlt, by go_num, _, _, _, _, P8.out.to U9.out⟩
        case measure => simp [intOf]; omega
      · have j1 : (z.kd == 1) = false := by rw [beq_eq_false_iff_ne]; exact k1
        clear k1
        by_cases k2 : z.kd = 2
        · have j2 : (z.kd == 2) = true := by rw [beq_iff_eq]; exact k2
          clear k2
          have HRD := hid (fun (W : World) (own : OwnM tb W (.slice a L.length c) M) => rDrop_any tb most z.n (.slice a L.length c) M W own hlM)
          have HKp := hid (keep_perm P4.out.perm z.n)
          obtain ⟨b0, b1, f0, f1⟩ := P4.out.box
          go_upto_region 17 with fail
          go_upto_region 18 with (first | (go_at_call 9; refine (HRD.out _ P4.out.own).mono ?_; rintro e w5 ⟨v5, rfl, om, u5⟩; obtain ⟨a5, c5, hv5⟩ := om.len; rw [HKp.out.length_eq, List.length_map] at hv5; subst hv5; have O5 := hid om; have U5 := hid u5; clear om u5; have q0 := U5.out.keep b0; have q1 := U5.out.keep b1; have g0 := U5.out.keepF b0 f0; have g1 := U5.out.keepF b1 f1))
          have hmw := hid (show mb < w4.heap.size by have := World.block_lt_of_cell? w4 _ P4.out.box.1; simpa using this)
          have HN5 := hid (show (Value.slice a5 (keepL z.n L).length c5).ownBlock ≠ some mb from fun e => by have := (O5.out.lt mb e).1; have := hmw.out; omega)
          generalize hw6 : (w5.setCell ⟨mb, 0, none⟩ (.int .i64 most)).setCell ⟨mb, 1, none⟩ (.slice a5 (keepL z.n L).length c5) = w6 at *
          have K6 := hid (box_put hw6 (P4.out.tab.old U5.out) (O5.out.mono (Nat.le_of_lt P4.out.tab.lt)) (P4.out.box.old U5.out) hmbn.out HN5.out (P4.out.old.trans U5.out) HMB.out)
          clear hw6
          have hnn : ob ∉ [mb] := by simp; exact hob.out.2
          have S6 := hid (show SO mb most a5 (keepL z.n L).length c5 ob z w6 from ⟨K6.out.2.2.2.2.cell (U5.out.keep o1) hnn, K6.out.2.2.2.2.cell (U5.out.keep o5) hnn, K6.out.2.2.1.1, K6.out.2.2.1.2.1⟩)
          have HDr := hid (fun (W : World) (u : Old w6 W) => drop_any tb tb most z.n v L W hlL (K6.out.1.old u))
          have hle := List.length_filter_le (fun x => decide (z.n < x.n)) L
          have hw1 : IntKind.i64.wrap ((L.length : Int) - ((keepL z.n L).length : Int)) = ((L.length - (keepL z.n L).length : Nat) : Int) := by
            rw [IntKind.wrap_i64]
            unfold keepL
            omega
          generalize ((L.length - (keepL z.n L).length : Nat) : Int) = dd at *
          clear q0 q1 g0 g1 b0 b1 f0 f1 o0 o1 o2 o3 o4 o5 B4 hnn HRD hle
          refine wp_region_noPanic ?_
          refine wp_region_held_drew (S := SO mb most a5 (keepL z.n L).length c5 ob z) (by kernel_rfl) ?_ (fun hHeld => ?_)
          · exact SO.old ((Old.refl w6).drew) S6.out
          (try simp only [Act.put]); (try simp only [List.setIfInBounds_toArray]); (try simp only [List.set_cons_succ]); (try simp only [List.set_cons_zero])
          clear hHeld
          refine wpAnyH_take (i := 0) (oi := { dst := some 66, op := Op.move (Operand.tmp 7), type := 24, pos := "law.go:47", after := #[], guard := none }) (v := ?vk29) rfl (by kernel_rfl) (by kernel_rfl) (by kernel_rfl) (fun _ _ _ h => h) (Or.inl ⟨by rfl, ?hk29⟩) (SO.old ((Old.refl w6).drew) S6.out) ?rk29
          case hk29 => (intro wz hSw; (try dsimp only at hSw); go_simp; try with_reducible rfl)
          (try simp only [Act.put]); (try simp only [List.setIfInBounds_toArray]); (try simp only [List.set_cons_succ]); (try simp only [List.set_cons_zero])
          refine wpAnyH_take (i := 1) (oi := { dst := some 67, op := Op.fieldAddr 34 (Operand.tmp 10) 2, type := 0, pos := "law.go:47", after := #[], guard := none }) (v := ?vk30) rfl (by kernel_rfl) (by kernel_rfl) (by kernel_rfl) (fun _ _ _ h => h) (Or.inl ⟨by rfl, ?hk30⟩) (SO.old ((Old.refl w6).drew) S6.out) ?rk30
          case hk30 => (intro wz hSw; (try dsimp only at hSw); go_simp; try with_reducible rfl)
          (try simp only [Act.put]); (try simp only [List.setIfInBounds_toArray]); (try simp only [List.set_cons_succ]); (try simp only [List.set_cons_zero])
          refine wpAnyH_take (i := 2) (oi := { dst := some 68, op := Op.load 2 (Operand.tmp 67), type := 2, pos := "law.go:47", after := #[{ on := 1, ground := Ground.data }], guard := none }) (v := ?vk31) rfl (by kernel_rfl) (by kernel_rfl) (by kernel_rfl) (fun _ _ _ h => h) (Or.inl ⟨by rfl, ?hk31⟩) (SO.old ((Old.refl w6).drew) S6.out) ?rk31
          case hk31 => (intro wz hSw; (try dsimp only at hSw); go_simp; try with_reducible rfl)
          (try simp only [Act.put]); (try simp only [List.setIfInBounds_toArray]); (try simp only [List.set_cons_succ]); (try simp only [List.set_cons_zero])
          refine wpAnyH_take (i := 4) (oi := { dst := some 70, op := Op.move (Operand.tmp 14), type := 3, pos := "law.go:47", after := #[], guard := none }) (v := ?vk32) rfl (by kernel_rfl) (by kernel_rfl) (by kernel_rfl) (fun _ _ _ h => h) (Or.inl ⟨by rfl, ?hk32⟩) (SO.old ((Old.refl w6).drew) S6.out) ?rk32
          case hk32 => (intro wz hSw; (try dsimp only at hSw); go_simp; try with_reducible rfl)
          (try simp only [Act.put]); (try simp only [List.setIfInBounds_toArray]); (try simp only [List.set_cons_succ]); (try simp only [List.set_cons_zero])
          refine wpAnyH_take (i := 5) (oi := { dst := some 71, op := Op.fieldAddr 29 (Operand.tmp 8) 1, type := 0, pos := "law.go:47", after := #[], guard := none }) (v := ?vk33) rfl (by kernel_rfl) (by kernel_rfl) (by kernel_rfl) (fun _ _ _ h => h) (Or.inl ⟨by rfl, ?hk33⟩) (SO.old ((Old.refl w6).drew) S6.out) ?rk33
          case hk33 => (intro wz hSw; (try dsimp only at hSw); go_simp; try with_reducible rfl)
          (try simp only [Act.put]); (try simp only [List.setIfInBounds_toArray]); (try simp only [List.set_cons_succ]); (try simp only [List.set_cons_zero])
          refine wpAnyH_take (i := 6) (oi := { dst := some 72, op := Op.load 27 (Operand.tmp 71), type := 27, pos := "law.go:47", after := #[{ on := 5, ground := Ground.data }], guard := none }) (v := ?vk34) rfl (by kernel_rfl) (by kernel_rfl) (by kernel_rfl) (fun _ _ _ h => h) (Or.inl ⟨by rfl, ?hk34⟩) (SO.old ((Old.refl w6).drew) S6.out) ?rk34
          case hk34 => (intro wz hSw; (try dsimp only at hSw); go_simp; try with_reducible rfl)
          (try simp only [Act.put]); (try simp only [List.setIfInBounds_toArray]); (try simp only [List.set_cons_succ]); (try simp only [List.set_cons_zero])
          refine wpAnyH_take (i := 7) (oi := { dst := some 73, op := Op.call { callee := Callee.builtin Builtin.len, args := #[Operand.tmp 72], argTypes := #[27] }, type := 3, pos := "law.go:47", after := #[{ on := 6, ground := Ground.data }], guard := none }) (v := ?vk35) rfl (by kernel_rfl) (by kernel_rfl) (by kernel_rfl) (fun _ _ _ h => h) (Or.inl ⟨by rfl, ?hk35⟩) (SO.old ((Old.refl w6).drew) S6.out) ?rk35
          case hk35 => (intro wz hSw; (try dsimp only at hSw); go_simp; try with_reducible rfl)
          (try simp only [Act.put]); (try simp only [List.setIfInBounds_toArray]); (try simp only [List.set_cons_succ]); (try simp only [List.set_cons_zero])
          refine wpAnyH_take (i := 8) (oi := { dst := some 74, op := Op.binOp BinOp.sub 3 (Operand.tmp 70) (Operand.tmp 73) 3, type := 3, pos := "law.go:47", after := #[{ on := 4, ground := Ground.data }, { on := 7, ground := Ground.data }], guard := none }) (v := ?vk36) rfl (by kernel_rfl) (by kernel_rfl) (by kernel_rfl) (fun _ _ _ h => h) (Or.inl ⟨by rfl, ?hk36⟩) (SO.old ((Old.refl w6).drew) S6.out) ?rk36
          case hk36 => (intro wz hSw; (try dsimp only at hSw); go_simp; try with_reducible rfl)
          (try simp only [Act.put]); (try simp only [List.setIfInBounds_toArray]); (try simp only [List.set_cons_succ]); (try simp only [List.set_cons_zero])
          refine wpAnyH_ready (rs := [3]) (by kernel_rfl) (by simp) ?_
          refine AllReadyH.cons (o := { dst := some 69, op := Op.call { callee := Callee.value (Operand.func 10), args := #[Operand.tmp 66, Operand.tmp 68], argTypes := #[24, 2] }, type := 3, pos := "law.go:47", after := #[{ on := 0, ground := Ground.data }, { on := 2, ground := Ground.data }], guard := none }) rfl (fun K hK => ?_) AllReadyH.nil
          refine wantCall2 ?_ 10 (.tmp 66) (.tmp 68) #[24, 2] ?_ (.pointer (some ⟨tb, 0, none⟩)) (.int .i64 z.n) ?_ ?_ ?_ (ent_drop _ _) ?_
          · rfl
          · rfl
          · rfl
          · rfl
          · rfl
          refine (HDr.out _ ((Old.refl w6).drew)).mono ?_
          rintro o x37 ⟨v7, rfl, t7, c7, n7⟩
          have UC : Chg (blks tb v) w6 x37 := (Chg.ofOld ((Old.refl w6).drew)).trans c7
          refine ⟨_, rfl, ?_⟩
          refine hK.out _ _ (SO.chg UC S6.out hob.out.1 hmbn.out) (fun _ => ?_)
          clear hK K
          (try simp only [Act.put]); (try simp only [List.setIfInBounds_toArray]); (try simp only [List.set_cons_succ]); (try simp only [List.set_cons_zero])
          refine wpAnyH_take (i := 9) (oi := { dst := some 75, op := Op.binOp BinOp.neq 3 (Operand.tmp 69) (Operand.tmp 74) 3, type := 4, pos := "law.go:47", after := #[{ on := 3, ground := Ground.data }, { on := 8, ground := Ground.data }], guard := none }) (v := ?vk38) rfl (by kernel_rfl) (by kernel_rfl) (by kernel_rfl) (fun _ _ _ h => h) (Or.inl ⟨by rfl, ?hk38⟩) (SO.chg UC S6.out hob.out.1 hmbn.out) ?rk38
          case hk38 => (intro wz hSw; (try dsimp only at hSw); go_simp; try with_reducible rfl)
          (try simp only [Act.put]); (try simp only [List.setIfInBounds_toArray]); (try simp only [List.set_cons_succ]); (try simp only [List.set_cons_zero])
          refine wpAnyH_done (by kernel_rfl) ?_ _
          refine NoPanic.normal ?_
          have T7 := hid t7
          have C7 := hid UC
          have N7 := hid n7
          clear t7 c7 n7 UC
          generalize x37 = w7 at *
          have OB7 := hid (SO.chg C7.out S6.out hob.out.1 hmbn.out).1
          have P7 := hid (show Play tb mb most w v7 (keepL z.n L) (.slice a5 (keepL z.n L).length c5) (keepQ z.n M) w7 from ⟨T7.out, keep_good P4.out.good _, by have := P4.out.len; have := List.length_filter_le (fun x => decide (z.n < x.n)) L; unfold keepL; omega, HKp.out, K6.out.2.1.chg C7.out (fun g hg e => by have := (P4.out.tab.blk g e).2; have := (O5.out.lt g hg).1; omega), K6.out.2.2.1.chg C7.out hmbn.out, fun g hg hg2 => by
            have hg3 : g ∈ blks tb v := by
              rcases mem_blks.1 hg with r | r
              · exact mem_blks.2 (.inl r)
              · exact mem_blks.2 (.inr (N7.out g r))
            rcases mem_blks.1 hg2 with s | s
            · subst s; exact hmbn.out hg3
            · have := (P4.out.tab.blk g hg3).2; have := (O5.out.lt g s).1; omega, HN5.out, K6.out.2.2.2.1.below (Below.mono (K6.out.1.below C7.out) (by have := HTB.out; omega))⟩)
          clear T7 C7 N7 K6 S6 HDr HKp HN5 O5 P4
          clear hw1
          generalize keepL z.n L = K9 at *
          generalize keepQ z.n M = M5 at *
          have SBT := hid (show SK mb most a5 K9.length c5 ob z.a w7 from ⟨OB7.out, P7.out.box.1, P7.out.box.2.1⟩)
          have hz1 : K9.length ≤ 1000000 := by have := P7.out.len; have := hm64.out; omega
          have hz2 : M5.length ≤ 1000000 := by rw [P7.out.leneq]; exact hz1
          have HLn := hid (fun (W : World) (u : Old w7 W) => (len_any tb tb most v7 K9 W (P7.out.tab.old u)).mono fun e w' h => (⟨h.1, by rw [h.2]; exact Old.refl _⟩ : _ ∧ Old W w'))
          have HK1 := hid (fun (W : World) (u : Old w7 W) => at_any tb tb most v7 K9 key hkey W (P7.out.tab.old u) P7.out.good hz1)
          have HK2 := hid (fun (W : World) (u : Old w7 W) => rAt_any tb most (.slice a5 K9.length c5) M5 key hkey W (P7.out.own.old u) hz2)
          rw [at_perm P7.out.perm P7.out.good] at HK2
          have HV1 := hid (fun (W : World) (u : Old w7 W) => at_any tb tb most v7 K9 z.a hW W (P7.out.tab.old u) P7.out.good hz1)
          have HV2 := hid (fun (W : World) (u : Old w7 W) => rAt_any tb most (.slice a5 K9.length c5) M5 z.a hW W (P7.out.own.old u) hz2)
          rw [at_perm P7.out.perm P7.out.good] at HV2
          generalize overT key K9 K9.length = A at *
          generalize overT z.a K9 K9.length = R at *
          go_upto_region 23 with fail
          refine wp_region_noPanic ?_
          refine wp_region_held_drew (S := SK mb most a5 K9.length c5 ob z.a) (by kernel_rfl) ?_ (fun hHeld => ?_)
          · exact SK.old ((Old.refl _).drew) SBT.out
          (try simp only [Act.put]); (try simp only [List.setIfInBounds_toArray]); (try simp only [List.set_cons_succ]); (try simp only [List.set_cons_zero])
          clear hHeld
          refine wpAnyH_take (i := 0) (oi := { dst := some 81, op := Op.move (Operand.tmp 7), type := 24, pos := "law.go:54", after := #[], guard := none }) (v := ?vk39) rfl (by kernel_rfl) (by kernel_rfl) (by kernel_rfl) (fun _ _ _ h => h) (Or.inl ⟨by rfl, ?hk39⟩) (SK.old ((Old.refl w7).drew) SBT.out) ?rk39
          case hk39 => (intro wz hSw; (try dsimp only at hSw); go_simp; try with_reducible rfl)
          (try simp only [Act.put]); (try simp only [List.setIfInBounds_toArray]); (try simp only [List.set_cons_succ]); (try simp only [List.set_cons_zero])
          refine wpAnyH_take (i := 2) (oi := { dst := some 83, op := Op.fieldAddr 29 (Operand.tmp 8) 1, type := 0, pos := "law.go:54", after := #[], guard := none }) (v := ?vk40) rfl (by kernel_rfl) (by kernel_rfl) (by kernel_rfl) (fun _ _ _ h => h) (Or.inl ⟨by rfl, ?hk40⟩) (SK.old ((Old.refl w7).drew) SBT.out) ?rk40
          case hk40 => (intro wz hSw; (try dsimp only at hSw); go_simp; try with_reducible rfl)
          (try simp only [Act.put]); (try simp only [List.setIfInBounds_toArray]); (try simp only [List.set_cons_succ]); (try simp only [List.set_cons_zero])
          refine wpAnyH_take (i := 3) (oi := { dst := some 84, op := Op.load 27 (Operand.tmp 83), type := 27, pos := "law.go:54", after := #[{ on := 2, ground := Ground.data }], guard := none }) (v := ?vk41) rfl (by kernel_rfl) (by kernel_rfl) (by kernel_rfl) (fun _ _ _ h => h) (Or.inl ⟨by rfl, ?hk41⟩) (SK.old ((Old.refl w7).drew) SBT.out) ?rk41
          case hk41 => (intro wz hSw; (try dsimp only at hSw); go_simp; try with_reducible rfl)
          (try simp only [Act.put]); (try simp only [List.setIfInBounds_toArray]); (try simp only [List.set_cons_succ]); (try simp only [List.set_cons_zero])
          refine wpAnyH_take (i := 4) (oi := { dst := some 85, op := Op.call { callee := Callee.builtin Builtin.len, args := #[Operand.tmp 84], argTypes := #[27] }, type := 3, pos := "law.go:54", after := #[{ on := 3, ground := Ground.data }], guard := none }) (v := ?vk42) rfl (by kernel_rfl) (by kernel_rfl) (by kernel_rfl) (fun _ _ _ h => h) (Or.inl ⟨by rfl, ?hk42⟩) (SK.old ((Old.refl w7).drew) SBT.out) ?rk42
          case hk42 => (intro wz hSw; (try dsimp only at hSw); go_simp; try with_reducible rfl)
          (try simp only [Act.put]); (try simp only [List.setIfInBounds_toArray]); (try simp only [List.set_cons_succ]); (try simp only [List.set_cons_zero])
          refine wpAnyH_ready (rs := [1]) (by kernel_rfl) (by simp) ?_
          refine AllReadyH.cons (o := { dst := some 82, op := Op.call { callee := Callee.value (Operand.func 12), args := #[Operand.tmp 81], argTypes := #[24] }, type := 3, pos := "law.go:54", after := #[{ on := 0, ground := Ground.data }], guard := none }) rfl (fun K hK => ?_) AllReadyH.nil
          refine wantCall1 ?_ 12 (.tmp 81) #[24] ?_ (.pointer (some ⟨tb, 0, none⟩)) ?_ ?_ (ent_len _ _) ?_
          · rfl
          · rfl
          · rfl
          · rfl
          refine (HLn.out _ ((Old.refl w7).drew)).mono ?_
          rintro o x43 ⟨rfl, b43⟩
          refine ⟨_, rfl, ?_⟩
          have U43 := ((Old.refl w7).drew).trans b43
          refine hK.out _ _ (SK.old U43 SBT.out) (fun _ => ?_)
          clear hK K
          (try simp only [Act.put]); (try simp only [List.setIfInBounds_toArray]); (try simp only [List.set_cons_succ]); (try simp only [List.set_cons_zero])
          refine wpAnyH_take (i := 5) (oi := { dst := some 86, op := Op.binOp BinOp.neq 3 (Operand.tmp 82) (Operand.tmp 85) 3, type := 4, pos := "law.go:54", after := #[{ on := 1, ground := Ground.data }, { on := 4, ground := Ground.data }], guard := none }) (v := ?vk44) rfl (by kernel_rfl) (by kernel_rfl) (by kernel_rfl) (fun _ _ _ h => h) (Or.inl ⟨by rfl, ?hk44⟩) (SK.old U43 SBT.out) ?rk44
          case hk44 => (intro wz hSw; (try dsimp only at hSw); go_simp; try with_reducible rfl)
          (try simp only [Act.put]); (try simp only [List.setIfInBounds_toArray]); (try simp only [List.set_cons_succ]); (try simp only [List.set_cons_zero])
          refine wpAnyH_take (i := 6) (oi := { dst := some 87, op := Op.move (Operand.tmp 86), type := 4, pos := "law.go:54", after := #[{ on := 5, ground := Ground.data }, { on := 1, ground := Ground.chain }], guard := none }) (v := ?vk45) rfl (by kernel_rfl) (by kernel_rfl) (by kernel_rfl) (fun _ _ _ h => h) (Or.inl ⟨by rfl, ?hk45⟩) (SK.old U43 SBT.out) ?rk45
          case hk45 => (intro wz hSw; (try dsimp only at hSw); go_simp; try with_reducible rfl)
          (try simp only [Act.put]); (try simp only [List.setIfInBounds_toArray]); (try simp only [List.set_cons_succ]); (try simp only [List.set_cons_zero])
          refine wpAnyH_take (i := 7) (oi := { dst := some 88, op := Op.move (Operand.tmp 7), type := 24, pos := "law.go:54", after := #[{ on := 6, ground := Ground.guard }], guard := some (6, false) }) (v := ?vk46) rfl (by kernel_rfl) (by kernel_rfl) (by kernel_rfl) (fun _ _ _ h => h) (Or.inl ⟨by rfl, ?hk46⟩) (SK.old U43 SBT.out) ?rk46
          case hk46 => (intro wz hSw; (try dsimp only at hSw); go_simp; try with_reducible rfl)
          (try simp only [Act.put]); (try simp only [List.setIfInBounds_toArray]); (try simp only [List.set_cons_succ]); (try simp only [List.set_cons_zero])
          refine wpAnyH_take (i := 8) (oi := { dst := some 89, op := Op.move (Operand.tmp 2), type := 23, pos := "law.go:54", after := #[{ on := 6, ground := Ground.guard }], guard := some (6, false) }) (v := ?vk47) rfl (by kernel_rfl) (by kernel_rfl) (by kernel_rfl) (fun _ _ _ h => h) (Or.inl ⟨by rfl, ?hk47⟩) (SK.old U43 SBT.out) ?rk47
          case hk47 => (intro wz hSw; (try dsimp only at hSw); go_simp; try with_reducible rfl)
          (try simp only [Act.put]); (try simp only [List.setIfInBounds_toArray]); (try simp only [List.set_cons_succ]); (try simp only [List.set_cons_zero])
          refine wpAnyH_take (i := 10) (oi := { dst := some 91, op := Op.load 29 (Operand.tmp 8), type := 29, pos := "law.go:54", after := #[{ on := 6, ground := Ground.guard }], guard := some (6, false) }) (v := ?vk48) rfl (by kernel_rfl) (by kernel_rfl) (by kernel_rfl) (fun _ _ _ h => h) (Or.inl ⟨by rfl, ?hk48⟩) (SK.old U43 SBT.out) ?rk48
          case hk48 => (intro wz hSw; (try dsimp only at hSw); go_simp; try with_reducible rfl)
          (try simp only [Act.put]); (try simp only [List.setIfInBounds_toArray]); (try simp only [List.set_cons_succ]); (try simp only [List.set_cons_zero])
          refine wpAnyH_take (i := 11) (oi := { dst := some 92, op := Op.move (Operand.tmp 2), type := 23, pos := "law.go:54", after := #[{ on := 6, ground := Ground.guard }], guard := some (6, false) }) (v := ?vk49) rfl (by kernel_rfl) (by kernel_rfl) (by kernel_rfl) (fun _ _ _ h => h) (Or.inl ⟨by rfl, ?hk49⟩) (SK.old U43 SBT.out) ?rk49
          case hk49 => (intro wz hSw; (try dsimp only at hSw); go_simp; try with_reducible rfl)
          (try simp only [Act.put]); (try simp only [List.setIfInBounds_toArray]); (try simp only [List.set_cons_succ]); (try simp only [List.set_cons_zero])
          refine wpAnyH_ready (rs := [9]) (by kernel_rfl) (by simp) ?_
          refine AllReadyH.cons (o := { dst := some 90, op := Op.call { callee := Callee.value (Operand.func 13), args := #[Operand.tmp 88, Operand.tmp 89], argTypes := #[24, 23] }, type := 2, pos := "law.go:54", after := #[{ on := 7, ground := Ground.data }, { on := 8, ground := Ground.data }, { on := 6, ground := Ground.chain }, { on := 6, ground := Ground.guard }], guard := some (6, false) }) rfl (fun K hK => ?_) AllReadyH.nil
          refine wantCall2 ?_ 13 (.tmp 88) (.tmp 89) #[24, 23] ?_ (.pointer (some ⟨tb, 0, none⟩)) (.float .f64 key) ?_ ?_ ?_ (ent_pat _ _) ?_
          · rfl
          · rfl
          · rfl
          · rfl
          · rfl
          refine (HK1.out _ U43).mono ?_
          rintro o x50 ⟨rfl, b50⟩
          refine ⟨_, rfl, ?_⟩
          have U50 := U43.trans b50
          refine hK.out _ _ (SK.old U50 SBT.out) (fun _ => ?_)
          clear hK K
          (try simp only [Act.put]); (try simp only [List.setIfInBounds_toArray]); (try simp only [List.set_cons_succ]); (try simp only [List.set_cons_zero])
          refine wpAnyH_ready (rs := [12]) (by kernel_rfl) (by simp) ?_
          refine AllReadyH.cons (o := { dst := some 93, op := Op.call { callee := Callee.value (Operand.func 14), args := #[Operand.tmp 91, Operand.tmp 92], argTypes := #[29, 23] }, type := 2, pos := "law.go:54", after := #[{ on := 10, ground := Ground.data }, { on := 11, ground := Ground.data }, { on := 9, ground := Ground.chain }, { on := 6, ground := Ground.guard }], guard := some (6, false) }) rfl (fun K hK => ?_) AllReadyH.nil
          refine wantCall2 ?_ 14 (.tmp 91) (.tmp 92) #[29, 23] ?_ (.agg #[.int .i64 most, .slice a5 K9.length c5]) (.float .f64 key) ?_ ?_ ?_ (ent_rat _ _) ?_
          · rfl
          · rfl
          · rfl
          · rfl
          · rfl
          refine (HK2.out _ U50).mono ?_
          rintro o x51 ⟨rfl, b51⟩
          refine ⟨_, rfl, ?_⟩
          have U51 := U50.trans b51
          refine hK.out _ _ (SK.old U51 SBT.out) (fun _ => ?_)
          clear hK K
          (try simp only [Act.put]); (try simp only [List.setIfInBounds_toArray]); (try simp only [List.set_cons_succ]); (try simp only [List.set_cons_zero])
          refine wpAnyH_take (i := 13) (oi := { dst := some 94, op := Op.binOp BinOp.neq 2 (Operand.tmp 90) (Operand.tmp 93) 2, type := 4, pos := "law.go:54", after := #[{ on := 9, ground := Ground.data }, { on := 12, ground := Ground.data }, { on := 6, ground := Ground.guard }], guard := some (6, false) }) (v := ?vk52) rfl (by kernel_rfl) (by kernel_rfl) (by kernel_rfl) (fun _ _ _ h => h) (Or.inl ⟨by rfl, ?hk52⟩) (SK.old U51 SBT.out) ?rk52
          case hk52 => (intro wz hSw; (try dsimp only at hSw); go_simp; try with_reducible rfl)
          (try simp only [Act.put]); (try simp only [List.setIfInBounds_toArray]); (try simp only [List.set_cons_succ]); (try simp only [List.set_cons_zero])
          refine wpAnyH_take (i := 14) (oi := { dst := some 95, op := Op.pick (Operand.tmp 87) (Operand.const (Value.bool true)) (Operand.tmp 94), type := 4, pos := "law.go:54", after := #[{ on := 6, ground := Ground.data }, { on := 13, ground := Ground.data }], guard := none }) (v := ?vk53) rfl (by kernel_rfl) (by kernel_rfl) (by kernel_rfl) (fun _ _ _ h => h) (Or.inl ⟨by rfl, ?hk53⟩) (SK.old U51 SBT.out) ?rk53
          case hk53 => (intro wz hSw; (try dsimp only at hSw); go_simp; try with_reducible rfl)
          (try simp only [Act.put]); (try simp only [List.setIfInBounds_toArray]); (try simp only [List.set_cons_succ]); (try simp only [List.set_cons_zero])
          refine wpAnyH_take (i := 15) (oi := { dst := some 96, op := Op.move (Operand.tmp 95), type := 4, pos := "law.go:54", after := #[{ on := 14, ground := Ground.data }, { on := 12, ground := Ground.chain }], guard := none }) (v := ?vk54) rfl (by kernel_rfl) (by kernel_rfl) (by kernel_rfl) (fun _ _ _ h => h) (Or.inl ⟨by rfl, ?hk54⟩) (SK.old U51 SBT.out) ?rk54
          case hk54 => (intro wz hSw; (try dsimp only at hSw); go_simp; try with_reducible rfl)
          (try simp only [Act.put]); (try simp only [List.setIfInBounds_toArray]); (try simp only [List.set_cons_succ]); (try simp only [List.set_cons_zero])
          refine wpAnyH_take (i := 16) (oi := { dst := some 97, op := Op.move (Operand.tmp 7), type := 24, pos := "law.go:54", after := #[{ on := 15, ground := Ground.guard }], guard := some (15, false) }) (v := ?vk55) rfl (by kernel_rfl) (by kernel_rfl) (by kernel_rfl) (fun _ _ _ h => h) (Or.inl ⟨by rfl, ?hk55⟩) (SK.old U51 SBT.out) ?rk55
          case hk55 => (intro wz hSw; (try dsimp only at hSw); go_simp; try with_reducible rfl)
          (try simp only [Act.put]); (try simp only [List.setIfInBounds_toArray]); (try simp only [List.set_cons_succ]); (try simp only [List.set_cons_zero])
          refine wpAnyH_take (i := 17) (oi := { dst := some 98, op := Op.fieldAddr 34 (Operand.tmp 10) 1, type := 0, pos := "law.go:54", after := #[{ on := 15, ground := Ground.guard }], guard := some (15, false) }) (v := ?vk56) rfl (by kernel_rfl) (by kernel_rfl) (by kernel_rfl) (fun _ _ _ h => h) (Or.inl ⟨by rfl, ?hk56⟩) (SK.old U51 SBT.out) ?rk56
          case hk56 => (intro wz hSw; (try dsimp only at hSw); go_simp; try with_reducible rfl)
          (try simp only [Act.put]); (try simp only [List.setIfInBounds_toArray]); (try simp only [List.set_cons_succ]); (try simp only [List.set_cons_zero])
          refine wpAnyH_take (i := 18) (oi := { dst := some 99, op := Op.fieldAddr 32 (Operand.tmp 98) 0, type := 0, pos := "law.go:54", after := #[{ on := 17, ground := Ground.data }, { on := 15, ground := Ground.guard }], guard := some (15, false) }) (v := ?vk57) rfl (by kernel_rfl) (by kernel_rfl) (by kernel_rfl) (fun _ _ _ h => h) (Or.inl ⟨by rfl, ?hk57⟩) (SK.old U51 SBT.out) ?rk57
          case hk57 => (intro wz hSw; (try dsimp only at hSw); go_simp; try with_reducible rfl)
          (try simp only [Act.put]); (try simp only [List.setIfInBounds_toArray]); (try simp only [List.set_cons_succ]); (try simp only [List.set_cons_zero])
          refine wpAnyH_take (i := 19) (oi := { dst := some 100, op := Op.load 23 (Operand.tmp 99), type := 23, pos := "law.go:54", after := #[{ on := 18, ground := Ground.data }, { on := 15, ground := Ground.guard }], guard := some (15, false) }) (v := ?vk58) rfl (by kernel_rfl) (by kernel_rfl) (by kernel_rfl) (fun _ _ _ h => h) (Or.inl ⟨by rfl, ?hk58⟩) (SK.old U51 SBT.out) ?rk58
          case hk58 => (intro wz hSw; (try dsimp only at hSw); go_simp; try with_reducible rfl)
          (try simp only [Act.put]); (try simp only [List.setIfInBounds_toArray]); (try simp only [List.set_cons_succ]); (try simp only [List.set_cons_zero])
          refine wpAnyH_take (i := 21) (oi := { dst := some 102, op := Op.load 29 (Operand.tmp 8), type := 29, pos := "law.go:54", after := #[{ on := 15, ground := Ground.guard }], guard := some (15, false) }) (v := ?vk59) rfl (by kernel_rfl) (by kernel_rfl) (by kernel_rfl) (fun _ _ _ h => h) (Or.inl ⟨by rfl, ?hk59⟩) (SK.old U51 SBT.out) ?rk59
          case hk59 => (intro wz hSw; (try dsimp only at hSw); go_simp; try with_reducible rfl)
          (try simp only [Act.put]); (try simp only [List.setIfInBounds_toArray]); (try simp only [List.set_cons_succ]); (try simp only [List.set_cons_zero])
          refine wpAnyH_take (i := 22) (oi := { dst := some 103, op := Op.fieldAddr 34 (Operand.tmp 10) 1, type := 0, pos := "law.go:54", after := #[{ on := 15, ground := Ground.guard }], guard := some (15, false) }) (v := ?vk60) rfl (by kernel_rfl) (by kernel_rfl) (by kernel_rfl) (fun _ _ _ h => h) (Or.inl ⟨by rfl, ?hk60⟩) (SK.old U51 SBT.out) ?rk60
          case hk60 => (intro wz hSw; (try dsimp only at hSw); go_simp; try with_reducible rfl)
          (try simp only [Act.put]); (try simp only [List.setIfInBounds_toArray]); (try simp only [List.set_cons_succ]); (try simp only [List.set_cons_zero])
          refine wpAnyH_take (i := 23) (oi := { dst := some 104, op := Op.fieldAddr 32 (Operand.tmp 103) 0, type := 0, pos := "law.go:54", after := #[{ on := 22, ground := Ground.data }, { on := 15, ground := Ground.guard }], guard := some (15, false) }) (v := ?vk61) rfl (by kernel_rfl) (by kernel_rfl) (by kernel_rfl) (fun _ _ _ h => h) (Or.inl ⟨by rfl, ?hk61⟩) (SK.old U51 SBT.out) ?rk61
          case hk61 => (intro wz hSw; (try dsimp only at hSw); go_simp; try with_reducible rfl)
          (try simp only [Act.put]); (try simp only [List.setIfInBounds_toArray]); (try simp only [List.set_cons_succ]); (try simp only [List.set_cons_zero])
          refine wpAnyH_take (i := 24) (oi := { dst := some 105, op := Op.load 23 (Operand.tmp 104), type := 23, pos := "law.go:54", after := #[{ on := 23, ground := Ground.data }, { on := 15, ground := Ground.guard }], guard := some (15, false) }) (v := ?vk62) rfl (by kernel_rfl) (by kernel_rfl) (by kernel_rfl) (fun _ _ _ h => h) (Or.inl ⟨by rfl, ?hk62⟩) (SK.old U51 SBT.out) ?rk62
          case hk62 => (intro wz hSw; (try dsimp only at hSw); go_simp; try with_reducible rfl)
          (try simp only [Act.put]); (try simp only [List.setIfInBounds_toArray]); (try simp only [List.set_cons_succ]); (try simp only [List.set_cons_zero])
          refine wpAnyH_ready (rs := [20]) (by kernel_rfl) (by simp) ?_
          refine AllReadyH.cons (o := { dst := some 101, op := Op.call { callee := Callee.value (Operand.func 13), args := #[Operand.tmp 97, Operand.tmp 100], argTypes := #[24, 23] }, type := 2, pos := "law.go:54", after := #[{ on := 16, ground := Ground.data }, { on := 19, ground := Ground.data }, { on := 15, ground := Ground.chain }, { on := 15, ground := Ground.guard }], guard := some (15, false) }) rfl (fun K hK => ?_) AllReadyH.nil
          refine wantCall2 ?_ 13 (.tmp 97) (.tmp 100) #[24, 23] ?_ (.pointer (some ⟨tb, 0, none⟩)) (.float .f64 z.a) ?_ ?_ ?_ (ent_pat _ _) ?_
          · rfl
          · rfl
          · rfl
          · rfl
          · rfl
          refine (HV1.out _ U51).mono ?_
          rintro o x63 ⟨rfl, b63⟩
          refine ⟨_, rfl, ?_⟩
          have U63 := U51.trans b63
          refine hK.out _ _ (SK.old U63 SBT.out) (fun _ => ?_)
          clear hK K
          (try simp only [Act.put]); (try simp only [List.setIfInBounds_toArray]); (try simp only [List.set_cons_succ]); (try simp only [List.set_cons_zero])
          refine wpAnyH_ready (rs := [25]) (by kernel_rfl) (by simp) ?_
          refine AllReadyH.cons (o := { dst := some 106, op := Op.call { callee := Callee.value (Operand.func 14), args := #[Operand.tmp 102, Operand.tmp 105], argTypes := #[29, 23] }, type := 2, pos := "law.go:54", after := #[{ on := 21, ground := Ground.data }, { on := 24, ground := Ground.data }, { on := 20, ground := Ground.chain }, { on := 15, ground := Ground.guard }], guard := some (15, false) }) rfl (fun K hK => ?_) AllReadyH.nil
          refine wantCall2 ?_ 14 (.tmp 102) (.tmp 105) #[29, 23] ?_ (.agg #[.int .i64 most, .slice a5 K9.length c5]) (.float .f64 z.a) ?_ ?_ ?_ (ent_rat _ _) ?_
          · rfl
          · rfl
          · rfl
          · rfl
          · rfl
          refine (HV2.out _ U63).mono ?_
          rintro o x64 ⟨rfl, b64⟩
          refine ⟨_, rfl, ?_⟩
          have U64 := U63.trans b64
          refine hK.out _ _ (SK.old U64 SBT.out) (fun _ => ?_)
          clear hK K
          (try simp only [Act.put]); (try simp only [List.setIfInBounds_toArray]); (try simp only [List.set_cons_succ]); (try simp only [List.set_cons_zero])
          refine wpAnyH_take (i := 26) (oi := { dst := some 107, op := Op.binOp BinOp.neq 2 (Operand.tmp 101) (Operand.tmp 106) 2, type := 4, pos := "law.go:54", after := #[{ on := 20, ground := Ground.data }, { on := 25, ground := Ground.data }, { on := 15, ground := Ground.guard }], guard := some (15, false) }) (v := ?vk65) rfl (by kernel_rfl) (by kernel_rfl) (by kernel_rfl) (fun _ _ _ h => h) (Or.inl ⟨by rfl, ?hk65⟩) (SK.old U64 SBT.out) ?rk65
          case hk65 => (intro wz hSw; (try dsimp only at hSw); go_simp; try with_reducible rfl)
          (try simp only [Act.put]); (try simp only [List.setIfInBounds_toArray]); (try simp only [List.set_cons_succ]); (try simp only [List.set_cons_zero])
          refine wpAnyH_take (i := 27) (oi := { dst := some 108, op := Op.pick (Operand.tmp 96) (Operand.const (Value.bool true)) (Operand.tmp 107), type := 4, pos := "law.go:54", after := #[{ on := 15, ground := Ground.data }, { on := 26, ground := Ground.data }], guard := none }) (v := ?vk66) rfl (by kernel_rfl) (by kernel_rfl) (by kernel_rfl) (fun _ _ _ h => h) (Or.inl ⟨by rfl, ?hk66⟩) (SK.old U64 SBT.out) ?rk66
          case hk66 => (intro wz hSw; (try dsimp only at hSw); go_simp; try with_reducible rfl)
          (try simp only [Act.put]); (try simp only [List.setIfInBounds_toArray]); (try simp only [List.set_cons_succ]); (try simp only [List.set_cons_zero])
          refine wpAnyH_done (by kernel_rfl) ?_ _
          refine NoPanic.normal ?_
          have U9 := hid U64
          clear HLn HK1 HK2 HV1 HV2 SBT
          go_wp2
          go_roundw
          case rel => exact ⟨k + 1, hlt, by go_num, _, _, _, _, P7.out.to U9.out⟩
          case measure => simp [intOf]; omega
        · have j2 : (z.kd == 2) = false := by rw [beq_eq_false_iff_ne]; exact k2
          clear k2
          by_cases k3 : z.kd = 3
          · have j3 : (z.kd == 3) = true := by rw [beq_iff_eq]; exact k3
            clear k3
            have HC := hid (clear_any tb tb most v L w4 P4.out.tab)
            go_upto_region 22 with (first | (go_at_call 11; refine HC.out.mono ?_; rintro e w5 ⟨rfl, t5, c5⟩; have T5 := hid t5; have C5 := hid c5; clear t5 c5))
            have R5 := hid (P4.out.turn C5.out HTB.out.symm)
            obtain ⟨b0, b1, f0, f1⟩ := R5.out.2.1
            go_upto_region 23 with fail
            generalize hw6 : w5.setCell ⟨mb, 1, none⟩ (.slice none 0 0) = w6 at *
            have HMB5 := hid (show mb ∉ blks tb (.slice none 0 0) from fun e => by
              rcases mem_blks.1 e with r | r
              · have := HTM.out; omega
              · simp [Value.ownBlock] at r)
            have K6 := hid (box_nil hw6 T5.out R5.out.2.1 HMB5.out R5.out.2.2 HMB.out)
            have OB6 := hid (show w6.cell? ⟨ob, 1, none⟩ = some (.float .f64 z.a) from by rw [← hw6, World.cell?_setCell_other _ _ _ _ (by have := hob.out.2; simp <;> omega)]; exact C5.out.cell o1 hob.out.1)
            clear hw6
            obtain ⟨L9, hL9⟩ : ∃ L9 : List It, L9 = [] := ⟨_, rfl⟩
            have P6 := hid (show Play tb mb most w (.slice none 0 0) L9 (.slice none L9.length 0) (L9.map rOf) w6 from by
              subst hL9
              exact ⟨K6.out.1, good0, by simpa using hm0.out, List.Perm.refl _, K6.out.2.1, K6.out.2.2.1, fun g hg hg2 => by
                rcases mem_blks.1 hg2 with s | s
                · subst s; exact HMB5.out hg
                · simp [Value.ownBlock] at s, by simp [Value.ownBlock], K6.out.2.2.2⟩)
            clear hL9 b0 b1 f0 f1 K6 R5 T5 C5 HC HMB5 P4 B4 o0 o1 o2 o3 o4 o5
            have SBT := hid (show SK mb most none L9.length 0 ob z.a w6 from ⟨OB6.out, P6.out.box.1, P6.out.box.2.1⟩)
            have hz1 : L9.length ≤ 1000000 := by have := P6.out.len; have := hm64.out; omega
            have hz2 : (L9.map rOf).length ≤ 1000000 := by rw [P6.out.leneq]; exact hz1
            have HLn := hid (fun (W : World) (u : Old w6 W) => (len_any tb tb most (.slice none 0 0) L9 W (P6.out.tab.old u)).mono fun e w' h => (⟨h.1, by rw [h.2]; exact Old.refl _⟩ : _ ∧ Old W w'))
            have HK1 := hid (fun (W : World) (u : Old w6 W) => at_any tb tb most (.slice none 0 0) L9 key hkey W (P6.out.tab.old u) P6.out.good hz1)
            have HK2 := hid (fun (W : World) (u : Old w6 W) => rAt_any tb most (.slice none L9.length 0) (L9.map rOf) key hkey W (P6.out.own.old u) hz2)
            rw [at_perm P6.out.perm P6.out.good] at HK2
            have HV1 := hid (fun (W : World) (u : Old w6 W) => at_any tb tb most (.slice none 0 0) L9 z.a hW W (P6.out.tab.old u) P6.out.good hz1)
            have HV2 := hid (fun (W : World) (u : Old w6 W) => rAt_any tb most (.slice none L9.length 0) (L9.map rOf) z.a hW W (P6.out.own.old u) hz2)
            rw [at_perm P6.out.perm P6.out.good] at HV2
            generalize overT key L9 L9.length = A at *
            generalize overT z.a L9 L9.length = R at *
            refine wp_region_noPanic ?_
            refine wp_region_held_drew (S := SK mb most none L9.length 0 ob z.a) (by kernel_rfl) ?_ (fun hHeld => ?_)
            · exact SK.old ((Old.refl _).drew) SBT.out
            (try simp only [Act.put]); (try simp only [List.setIfInBounds_toArray]); (try simp only [List.set_cons_succ]); (try simp only [List.set_cons_zero])
            clear hHeld
            refine wpAnyH_take (i := 0) (oi := { dst := some 81, op := Op.move (Operand.tmp 7), type := 24, pos := "law.go:54", after := #[], guard := none }) (v := ?vk67) rfl (by kernel_rfl) (by kernel_rfl) (by kernel_rfl) (fun _ _ _ h => h) (Or.inl ⟨by rfl, ?hk67⟩) (SK.old ((Old.refl w6).drew) SBT.out) ?rk67
            case hk67 => (intro wz hSw; (try dsimp only at hSw); go_simp; try with_reducible rfl)
            (try simp only [Act.put]); (try simp only [List.setIfInBounds_toArray]); (try simp only [List.set_cons_succ]); (try simp only [List.set_cons_zero])
            refine wpAnyH_take (i := 2) (oi := { dst := some 83, op := Op.fieldAddr 29 (Operand.tmp 8) 1, type := 0, pos := "law.go:54", after := #[], guard := none }) (v := ?vk68) rfl (by kernel_rfl) (by kernel_rfl) (by kernel_rfl) (fun _ _ _ h => h) (Or.inl ⟨by rfl, ?hk68⟩) (SK.old ((Old.refl w6).drew) SBT.out) ?rk68
            case hk68 => (intro wz hSw; (try dsimp only at hSw); go_simp; try with_reducible rfl)
            (try simp only [Act.put]); (try simp only [List.setIfInBounds_toArray]); (try simp only [List.set_cons_succ]); (try simp only [List.set_cons_zero])
            refine wpAnyH_take (i := 3) (oi := { dst := some 84, op := Op.load 27 (Operand.tmp 83), type := 27, pos := "law.go:54", after := #[{ on := 2, ground := Ground.data }], guard := none }) (v := ?vk69) rfl (by kernel_rfl) (by kernel_rfl) (by kernel_rfl) (fun _ _ _ h => h) (Or.inl ⟨by rfl, ?hk69⟩) (SK.old ((Old.refl w6).drew) SBT.out) ?rk69
            case hk69 => (intro wz hSw; (try dsimp only at hSw); go_simp; try with_reducible rfl)
            (try simp only [Act.put]); (try simp only [List.setIfInBounds_toArray]); (try simp only [List.set_cons_succ]); (try simp only [List.set_cons_zero])
            refine wpAnyH_take (i := 4) (oi := { dst := some 85, op := Op.call { callee := Callee.builtin Builtin.len, args := #[Operand.tmp 84], argTypes := #[27] }, type := 3, pos := "law.go:54", after := #[{ on := 3, ground := Ground.data }], guard := none }) (v := ?vk70) rfl (by kernel_rfl) (by kernel_rfl) (by kernel_rfl) (fun _ _ _ h => h) (Or.inl ⟨by rfl, ?hk70⟩) (SK.old ((Old.refl w6).drew) SBT.out) ?rk70
            case hk70 => (intro wz hSw; (try dsimp only at hSw); go_simp; try with_reducible rfl)
            (try simp only [Act.put]); (try simp only [List.setIfInBounds_toArray]); (try simp only [List.set_cons_succ]); (try simp only [List.set_cons_zero])
            refine wpAnyH_ready (rs := [1]) (by kernel_rfl) (by simp) ?_
            refine AllReadyH.cons (o := { dst := some 82, op := Op.call { callee := Callee.value (Operand.func 12), args := #[Operand.tmp 81], argTypes := #[24] }, type := 3, pos := "law.go:54", after := #[{ on := 0, ground := Ground.data }], guard := none }) rfl (fun K hK => ?_) AllReadyH.nil
            refine wantCall1 ?_ 12 (.tmp 81) #[24] ?_ (.pointer (some ⟨tb, 0, none⟩)) ?_ ?_ (ent_len _ _) ?_
            · rfl
            · rfl
            · rfl
            · rfl
            refine (HLn.out _ ((Old.refl w6).drew)).mono ?_
            rintro o x71 ⟨rfl, b71⟩
            refine ⟨_, rfl, ?_⟩
            have U71 := ((Old.refl w6).drew).trans b71
            refine hK.out _ _ (SK.old U71 SBT.out) (fun _ => ?_)
            clear hK K
            (try simp only [Act.put]); (try simp only [List.setIfInBounds_toArray]); (try simp only [List.set_cons_succ]); (try simp only [List.set_cons_zero])
            refine wpAnyH_take (i := 5) (oi := { dst := some 86, op := Op.binOp BinOp.neq 3 (Operand.tmp 82) (Operand.tmp 85) 3, type := 4, pos := "law.go:54", after := #[{ on := 1, ground := Ground.data }, { on := 4, ground := Ground.data }], guard := none }) (v := ?vk72) rfl (by kernel_rfl) (by kernel_rfl) (by kernel_rfl) (fun _ _ _ h => h) (Or.inl ⟨by rfl, ?hk72⟩) (SK.old U71 SBT.out) ?rk72
            case hk72 => (intro wz hSw; (try dsimp only at hSw); go_simp; try with_reducible rfl)
            (try simp only [Act.put]); (try simp only [List.setIfInBounds_toArray]); (try simp only [List.set_cons_succ]); (try simp only [List.set_cons_zero])
            refine wpAnyH_take (i := 6) (oi := { dst := some 87, op := Op.move (Operand.tmp 86), type := 4, pos := "law.go:54", after := #[{ on := 5, ground := Ground.data }, { on := 1, ground := Ground.chain }], guard := none }) (v := ?vk73) rfl (by kernel_rfl) (by kernel_rfl) (by kernel_rfl) (fun _ _ _ h => h) (Or.inl ⟨by rfl, ?hk73⟩) (SK.old U71 SBT.out) ?rk73
            case hk73 => (intro wz hSw; (try dsimp only at hSw); go_simp; try with_reducible rfl)
            (try simp only [Act.put]); (try simp only [List.setIfInBounds_toArray]); (try simp only [List.set_cons_succ]); (try simp only [List.set_cons_zero])
            refine wpAnyH_take (i := 7) (oi := { dst := some 88, op := Op.move (Operand.tmp 7), type := 24, pos := "law.go:54", after := #[{ on := 6, ground := Ground.guard }], guard := some (6, false) }) (v := ?vk74) rfl (by kernel_rfl) (by kernel_rfl) (by kernel_rfl) (fun _ _ _ h => h) (Or.inl ⟨by rfl, ?hk74⟩) (SK.old U71 SBT.out) ?rk74
            case hk74 => (intro wz hSw; (try dsimp only at hSw); go_simp; try with_reducible rfl)
            (try simp only [Act.put]); (try simp only [List.setIfInBounds_toArray]); (try simp only [List.set_cons_succ]); (try simp only [List.set_cons_zero])
            refine wpAnyH_take (i := 8) (oi := { dst := some 89, op := Op.move (Operand.tmp 2), type := 23, pos := "law.go:54", after := #[{ on := 6, ground := Ground.guard }], guard := some (6, false) }) (v := ?vk75) rfl (by kernel_rfl) (by kernel_rfl) (by kernel_rfl) (fun _ _ _ h => h) (Or.inl ⟨by rfl, ?hk75⟩) (SK.old U71 SBT.out) ?rk75
            case hk75 => (intro wz hSw; (try dsimp only at hSw); go_simp; try with_reducible rfl)
            (try simp only [Act.put]); (try simp only [List.setIfInBounds_toArray]); (try simp only [List.set_cons_succ]); (try simp only [List.set_cons_zero])
            refine wpAnyH_take (i := 10) (oi := { dst := some 91, op := Op.load 29 (Operand.tmp 8), type := 29, pos := "law.go:54", after := #[{ on := 6, ground := Ground.guard }], guard := some (6, false) }) (v := ?vk76) rfl (by kernel_rfl) (by kernel_rfl) (by kernel_rfl) (fun _ _ _ h => h) (Or.inl ⟨by rfl, ?hk76⟩) (SK.old U71 SBT.out) ?rk76
            case hk76 => (intro wz hSw; (try dsimp only at hSw); go_simp; try with_reducible rfl)
            (try simp only [Act.put]); (try simp only [List.setIfInBounds_toArray]); (try simp only [List.set_cons_succ]); (try simp only [List.set_cons_zero])
            refine wpAnyH_take (i := 11) (oi := { dst := some 92, op := Op.move (Operand.tmp 2), type := 23, pos := "law.go:54", after := #[{ on := 6, ground := Ground.guard }], guard := some (6, false) }) (v := ?vk77) rfl (by kernel_rfl) (by kernel_rfl) (by kernel_rfl) (fun _ _ _ h => h) (Or.inl ⟨by rfl, ?hk77⟩) (SK.old U71 SBT.out) ?rk77
            case hk77 => (intro wz hSw; (try dsimp only at hSw); go_simp; try with_reducible rfl)
            (try simp only [Act.put]); (try simp only [List.setIfInBounds_toArray]); (try simp only [List.set_cons_succ]); (try simp only [List.set_cons_zero])
            refine wpAnyH_ready (rs := [9]) (by kernel_rfl) (by simp) ?_
            refine AllReadyH.cons (o := { dst := some 90, op := Op.call { callee := Callee.value (Operand.func 13), args := #[Operand.tmp 88, Operand.tmp 89], argTypes := #[24, 23] }, type := 2, pos := "law.go:54", after := #[{ on := 7, ground := Ground.data }, { on := 8, ground := Ground.data }, { on := 6, ground := Ground.chain }, { on := 6, ground := Ground.guard }], guard := some (6, false) }) rfl (fun K hK => ?_) AllReadyH.nil
            refine wantCall2 ?_ 13 (.tmp 88) (.tmp 89) #[24, 23] ?_ (.pointer (some ⟨tb, 0, none⟩)) (.float .f64 key) ?_ ?_ ?_ (ent_pat _ _) ?_
            · rfl
            · rfl
            · rfl
            · rfl
            · rfl
            refine (HK1.out _ U71).mono ?_
            rintro o x78 ⟨rfl, b78⟩
            refine ⟨_, rfl, ?_⟩
            have U78 := U71.trans b78
            refine hK.out _ _ (SK.old U78 SBT.out) (fun _ => ?_)
            clear hK K
            (try simp only [Act.put]); (try simp only [List.setIfInBounds_toArray]); (try simp only [List.set_cons_succ]); (try simp only [List.set_cons_zero])
            refine wpAnyH_ready (rs := [12]) (by kernel_rfl) (by simp) ?_
            refine AllReadyH.cons (o := { dst := some 93, op := Op.call { callee := Callee.value (Operand.func 14), args := #[Operand.tmp 91, Operand.tmp 92], argTypes := #[29, 23] }, type := 2, pos := "law.go:54", after := #[{ on := 10, ground := Ground.data }, { on := 11, ground := Ground.data }, { on := 9, ground := Ground.chain }, { on := 6, ground := Ground.guard }], guard := some (6, false) }) rfl (fun K hK => ?_) AllReadyH.nil
            refine wantCall2 ?_ 14 (.tmp 91) (.tmp 92) #[29, 23] ?_ (.agg #[.int .i64 most, .slice none L9.length 0]) (.float .f64 key) ?_ ?_ ?_ (ent_rat _ _) ?_
            · rfl
            · rfl
            · rfl
            · rfl
            · rfl
            refine (HK2.out _ U78).mono ?_
            rintro o x79 ⟨rfl, b79⟩
            refine ⟨_, rfl, ?_⟩
            have U79 := U78.trans b79
            refine hK.out _ _ (SK.old U79 SBT.out) (fun _ => ?_)
            clear hK K
            (try simp only [Act.put]); (try simp only [List.setIfInBounds_toArray]); (try simp only [List.set_cons_succ]); (try simp only [List.set_cons_zero])
            refine wpAnyH_take (i := 13) (oi := { dst := some 94, op := Op.binOp BinOp.neq 2 (Operand.tmp 90) (Operand.tmp 93) 2, type := 4, pos := "law.go:54", after := #[{ on := 9, ground := Ground.data }, { on := 12, ground := Ground.data }, { on := 6, ground := Ground.guard }], guard := some (6, false) }) (v := ?vk80) rfl (by kernel_rfl) (by kernel_rfl) (by kernel_rfl) (fun _ _ _ h => h) (Or.inl ⟨by rfl, ?hk80⟩) (SK.old U79 SBT.out) ?rk80
            case hk80 => (intro wz hSw; (try dsimp only at hSw); go_simp; try with_reducible rfl)
            (try simp only [Act.put]); (try simp only [List.setIfInBounds_toArray]); (try simp only [List.set_cons_succ]); (try simp only [List.set_cons_zero])
            refine wpAnyH_take (i := 14) (oi := { dst := some 95, op := Op.pick (Operand.tmp 87) (Operand.const (Value.bool true)) (Operand.tmp 94), type := 4, pos := "law.go:54", after := #[{ on := 6, ground := Ground.data }, { on := 13, ground := Ground.data }], guard := none }) (v := ?vk81) rfl (by kernel_rfl) (by kernel_rfl) (by kernel_rfl) (fun _ _ _ h => h) (Or.inl ⟨by rfl, ?hk81⟩) (SK.old U79 SBT.out) ?rk81
            case hk81 => (intro wz hSw; (try dsimp only at hSw); go_simp; try with_reducible rfl)
            (try simp only [Act.put]); (try simp only [List.setIfInBounds_toArray]); (try simp only [List.set_cons_succ]); (try simp only [List.set_cons_zero])
            refine wpAnyH_take (i := 15) (oi := { dst := some 96, op := Op.move (Operand.tmp 95), type := 4, pos := "law.go:54", after := #[{ on := 14, ground := Ground.data }, { on := 12, ground := Ground.chain }], guard := none }) (v := ?vk82) rfl (by kernel_rfl) (by kernel_rfl) (by kernel_rfl) (fun _ _ _ h => h) (Or.inl ⟨by rfl, ?hk82⟩) (SK.old U79 SBT.out) ?rk82
            case hk82 => (intro wz hSw; (try dsimp only at hSw); go_simp; try with_reducible rfl)
            (try simp only [Act.put]); (try simp only [List.setIfInBounds_toArray]); (try simp only [List.set_cons_succ]); (try simp only [List.set_cons_zero])
            refine wpAnyH_take (i := 16) (oi := { dst := some 97, op := Op.move (Operand.tmp 7), type := 24, pos := "law.go:54", after := #[{ on := 15, ground := Ground.guard }], guard := some (15, false) }) (v := ?vk83) rfl (by kernel_rfl) (by kernel_rfl) (by kernel_rfl) (fun _ _ _ h => h) (Or.inl ⟨by rfl, ?hk83⟩) (SK.old U79 SBT.out) ?rk83
            case hk83 => (intro wz hSw; (try dsimp only at hSw); go_simp; try with_reducible rfl)
            (try simp only [Act.put]); (try simp only [List.setIfInBounds_toArray]); (try simp only [List.set_cons_succ]); (try simp only [List.set_cons_zero])
            refine wpAnyH_take (i := 17) (oi := { dst := some 98, op := Op.fieldAddr 34 (Operand.tmp 10) 1, type := 0, pos := "law.go:54", after := #[{ on := 15, ground := Ground.guard }], guard := some (15, false) }) (v := ?vk84) rfl (by kernel_rfl) (by kernel_rfl) (by kernel_rfl) (fun _ _ _ h => h) (Or.inl ⟨by rfl, ?hk84⟩) (SK.old U79 SBT.out) ?rk84
            case hk84 => (intro wz hSw; (try dsimp only at hSw); go_simp; try with_reducible rfl)
            (try simp only [Act.put]); (try simp only [List.setIfInBounds_toArray]); (try simp only [List.set_cons_succ]); (try simp only [List.set_cons_zero])
            refine wpAnyH_take (i := 18) (oi := { dst := some 99, op := Op.fieldAddr 32 (Operand.tmp 98) 0, type := 0, pos := "law.go:54", after := #[{ on := 17, ground := Ground.data }, { on := 15, ground := Ground.guard }], guard := some (15, false) }) (v := ?vk85) rfl (by kernel_rfl) (by kernel_rfl) (by kernel_rfl) (fun _ _ _ h => h) (Or.inl ⟨by rfl, ?hk85⟩) (SK.old U79 SBT.out) ?rk85
            case hk85 => (intro wz hSw; (try dsimp only at hSw); go_simp; try with_reducible rfl)
            (try simp only [Act.put]); (try simp only [List.setIfInBounds_toArray]); (try simp only [List.set_cons_succ]); (try simp only [List.set_cons_zero])
            refine wpAnyH_take (i := 19) (oi := { dst := some 100, op := Op.load 23 (Operand.tmp 99), type := 23, pos := "law.go:54", after := #[{ on := 18, ground := Ground.data }, { on := 15, ground := Ground.guard }], guard := some (15, false) }) (v := ?vk86) rfl (by kernel_rfl) (by kernel_rfl) (by kernel_rfl) (fun _ _ _ h => h) (Or.inl ⟨by rfl, ?hk86⟩) (SK.old U79 SBT.out) ?rk86
            case hk86 => (intro wz hSw; (try dsimp only at hSw); go_simp; try with_reducible rfl)
            (try simp only [Act.put]); (try simp only [List.setIfInBounds_toArray]); (try simp only [List.set_cons_succ]); (try simp only [List.set_cons_zero])
            refine wpAnyH_take (i := 21) (oi := { dst := some 102, op := Op.load 29 (Operand.tmp 8), type := 29, pos := "law.go:54", after := #[{ on := 15, ground := Ground.guard }], guard := some (15, false) }) (v := ?vk87) rfl (by kernel_rfl) (by kernel_rfl) (by kernel_rfl) (fun _ _ _ h => h) (Or.inl ⟨by rfl, ?hk87⟩) (SK.old U79 SBT.out) ?rk87
            case hk87 => (intro wz hSw; (try dsimp only at hSw); go_simp; try with_reducible rfl)
            (try simp only [Act.put]); (try simp only [List.setIfInBounds_toArray]); (try simp only [List.set_cons_succ]); (try simp only [List.set_cons_zero])
            refine wpAnyH_take (i := 22) (oi := { dst := some 103, op := Op.fieldAddr 34 (Operand.tmp 10) 1, type := 0, pos := "law.go:54", after := #[{ on := 15, ground := Ground.guard }], guard := some (15, false) }) (v := ?vk88) rfl (by kernel_rfl) (by kernel_rfl) (by kernel_rfl) (fun _ _ _ h => h) (Or.inl ⟨by rfl, ?hk88⟩) (SK.old U79 SBT.out) ?rk88
            case hk88 => (intro wz hSw; (try dsimp only at hSw); go_simp; try with_reducible rfl)
            (try simp only [Act.put]); (try simp only [List.setIfInBounds_toArray]); (try simp only [List.set_cons_succ]); (try simp only [List.set_cons_zero])
            refine wpAnyH_take (i := 23) (oi := { dst := some 104, op := Op.fieldAddr 32 (Operand.tmp 103) 0, type := 0, pos := "law.go:54", after := #[{ on := 22, ground := Ground.data }, { on := 15, ground := Ground.guard }], guard := some (15, false) }) (v := ?vk89) rfl (by kernel_rfl) (by kernel_rfl) (by kernel_rfl) (fun _ _ _ h => h) (Or.inl ⟨by rfl, ?hk89⟩) (SK.old U79 SBT.out) ?rk89
            case hk89 => (intro wz hSw; (try dsimp only at hSw); go_simp; try with_reducible rfl)
            (try simp only [Act.put]); (try simp only [List.setIfInBounds_toArray]); (try simp only [List.set_cons_succ]); (try simp only [List.set_cons_zero])
            refine wpAnyH_take (i := 24) (oi := { dst := some 105, op := Op.load 23 (Operand.tmp 104), type := 23, pos := "law.go:54", after := #[{ on := 23, ground := Ground.data }, { on := 15, ground := Ground.guard }], guard := some (15, false) }) (v := ?vk90) rfl (by kernel_rfl) (by kernel_rfl) (by kernel_rfl) (fun _ _ _ h => h) (Or.inl ⟨by rfl, ?hk90⟩) (SK.old U79 SBT.out) ?rk90
            case hk90 => (intro wz hSw; (try dsimp only at hSw); go_simp; try with_reducible rfl)
            (try simp only [Act.put]); (try simp only [List.setIfInBounds_toArray]); (try simp only [List.set_cons_succ]); (try simp only [List.set_cons_zero])
            refine wpAnyH_ready (rs := [20]) (by kernel_rfl) (by simp) ?_
            refine AllReadyH.cons (o := { dst := some 101, op := Op.call { callee := Callee.value (Operand.func 13), args := #[Operand.tmp 97, Operand.tmp 100], argTypes := #[24, 23] }, type := 2, pos := "law.go:54", after := #[{ on := 16, ground := Ground.data }, { on := 19, ground := Ground.data }, { on := 15, ground := Ground.chain }, { on := 15, ground := Ground.guard }], guard := some (15, false) }) rfl (fun K hK => ?_) AllReadyH.nil
            refine wantCall2 ?_ 13 (.tmp 97) (.tmp 100) #[24, 23] ?_ (.pointer (some ⟨tb, 0, none⟩)) (.float .f64 z.a) ?_ ?_ ?_ (ent_pat _ _) ?_
            · rfl
            · rfl
            · rfl
            · rfl
            · rfl
            refine (HV1.out _ U79).mono ?_
            rintro o x91 ⟨rfl, b91⟩
            refine ⟨_, rfl, ?_⟩
            have U91 := U79.trans b91
            refine hK.out _ _ (SK.old U91 SBT.out) (fun _ => ?_)
            clear hK K
            (try simp only [Act.put]); (try simp only [List.setIfInBounds_toArray]); (try simp only [List.set_cons_succ]); (try simp only [List.set_cons_zero])
            refine wpAnyH_ready (rs := [25]) (by kernel_rfl) (by simp) ?_
            refine AllReadyH.cons (o := { dst := some 106, op := Op.call { callee := Callee.value (Operand.func 14), args := #[Operand.tmp 102, Operand.tmp 105], argTypes := #[29, 23] }, type := 2, pos := "law.go:54", after := #[{ on := 21, ground := Ground.data }, { on := 24, ground := Ground.data }, { on := 20, ground := Ground.chain }, { on := 15, ground := Ground.guard }], guard := some (15, false) }) rfl (fun K hK => ?_) AllReadyH.nil
            refine wantCall2 ?_ 14 (.tmp 102) (.tmp 105) #[29, 23] ?_ (.agg #[.int .i64 most, .slice none L9.length 0]) (.float .f64 z.a) ?_ ?_ ?_ (ent_rat _ _) ?_
            · rfl
            · rfl
            · rfl
            · rfl
            · rfl
            refine (HV2.out _ U91).mono ?_
            rintro o x92 ⟨rfl, b92⟩
            refine ⟨_, rfl, ?_⟩
            have U92 := U91.trans b92
            refine hK.out _ _ (SK.old U92 SBT.out) (fun _ => ?_)
            clear hK K
            (try simp only [Act.put]); (try simp only [List.setIfInBounds_toArray]); (try simp only [List.set_cons_succ]); (try simp only [List.set_cons_zero])
            refine wpAnyH_take (i := 26) (oi := { dst := some 107, op := Op.binOp BinOp.neq 2 (Operand.tmp 101) (Operand.tmp 106) 2, type := 4, pos := "law.go:54", after := #[{ on := 20, ground := Ground.data }, { on := 25, ground := Ground.data }, { on := 15, ground := Ground.guard }], guard := some (15, false) }) (v := ?vk93) rfl (by kernel_rfl) (by kernel_rfl) (by kernel_rfl) (fun _ _ _ h => h) (Or.inl ⟨by rfl, ?hk93⟩) (SK.old U92 SBT.out) ?rk93
            case hk93 => (intro wz hSw; (try dsimp only at hSw); go_simp; try with_reducible rfl)
            (try simp only [Act.put]); (try simp only [List.setIfInBounds_toArray]); (try simp only [List.set_cons_succ]); (try simp only [List.set_cons_zero])
            refine wpAnyH_take (i := 27) (oi := { dst := some 108, op := Op.pick (Operand.tmp 96) (Operand.const (Value.bool true)) (Operand.tmp 107), type := 4, pos := "law.go:54", after := #[{ on := 15, ground := Ground.data }, { on := 26, ground := Ground.data }], guard := none }) (v := ?vk94) rfl (by kernel_rfl) (by kernel_rfl) (by kernel_rfl) (fun _ _ _ h => h) (Or.inl ⟨by rfl, ?hk94⟩) (SK.old U92 SBT.out) ?rk94
            case hk94 => (intro wz hSw; (try dsimp only at hSw); go_simp; try with_reducible rfl)
            (try simp only [Act.put]); (try simp only [List.setIfInBounds_toArray]); (try simp only [List.set_cons_succ]); (try simp only [List.set_cons_zero])
            refine wpAnyH_done (by kernel_rfl) ?_ _
            refine NoPanic.normal ?_
            have U9 := hid U92
            clear HLn HK1 HK2 HV1 HV2 SBT
            go_wp2
            go_roundw
            case rel => exact ⟨k + 1, hlt, by go_num, _, _, _, _, P6.out.to U9.out⟩
            case measure => simp [intOf]; omega
          · have j3 : (z.kd == 3) = false := by rw [beq_eq_false_iff_ne]; exact k3
            clear k3
            have SBT := hid (show SK mb most a L.length c ob z.a w4 from ⟨o1, P4.out.box.1, P4.out.box.2.1⟩)
            have hz1 : L.length ≤ 1000000 := by have := P4.out.len; have := hm64.out; omega
            have hz2 : M.length ≤ 1000000 := by rw [P4.out.leneq]; exact hz1
            have HLn := hid (fun (W : World) (u : Old w4 W) => (len_any tb tb most v L W (P4.out.tab.old u)).mono fun e w' h => (⟨h.1, by rw [h.2]; exact Old.refl _⟩ : _ ∧ Old W w'))
            have HK1 := hid (fun (W : World) (u : Old w4 W) => at_any tb tb most v L key hkey W (P4.out.tab.old u) P4.out.good hz1)
            have HK2 := hid (fun (W : World) (u : Old w4 W) => rAt_any tb most (.slice a L.length c) M key hkey W (P4.out.own.old u) hz2)
            rw [at_perm P4.out.perm P4.out.good] at HK2
            have HV1 := hid (fun (W : World) (u : Old w4 W) => at_any tb tb most v L z.a hW W (P4.out.tab.old u) P4.out.good hz1)
            have HV2 := hid (fun (W : World) (u : Old w4 W) => rAt_any tb most (.slice a L.length c) M z.a hW W (P4.out.own.old u) hz2)
            rw [at_perm P4.out.perm P4.out.good] at HV2
            generalize overT key L L.length = A at *
            generalize overT z.a L L.length = R at *
            go_upto_region 23 with fail
            refine wp_region_noPanic ?_
            refine wp_region_held_drew (S := SK mb most a L.length c ob z.a) (by kernel_rfl) ?_ (fun hHeld => ?_)
            · exact SK.old ((Old.refl _).drew) SBT.out
            (try simp only [Act.put]); (try simp only [List.setIfInBounds_toArray]); (try simp only [List.set_cons_succ]); (try simp only [List.set_cons_zero])
            clear hHeld
            refine wpAnyH_take (i := 0) (oi := { dst := some 81, op := Op.move (Operand.tmp 7), type := 24, pos := "law.go:54", after := #[], guard := none }) (v := ?vk95) rfl (by kernel_rfl) (by kernel_rfl) (by kernel_rfl) (fun _ _ _ h => h) (Or.inl ⟨by rfl, ?hk95⟩) (SK.old ((Old.refl w4).drew) SBT.out) ?rk95
            case hk95 => (intro wz hSw; (try dsimp only at hSw); go_simp; try with_reducible rfl)
            (try simp only [Act.put]); (try simp only [List.setIfInBounds_toArray]); (try simp only [List.set_cons_succ]); (try simp only [List.set_cons_zero])
            refine wpAnyH_take (i := 2) (oi := { dst := some 83, op := Op.fieldAddr 29 (Operand.tmp 8) 1, type := 0, pos := "law.go:54", after := #[], guard := none }) (v := ?vk96) rfl (by kernel_rfl) (by kernel_rfl) (by kernel_rfl) (fun _ _ _ h => h) (Or.inl ⟨by rfl, ?hk96⟩) (SK.old ((Old.refl w4).drew) SBT.out) ?rk96
            case hk96 => (intro wz hSw; (try dsimp only at hSw); go_simp; try with_reducible rfl)
            (try simp only [Act.put]); (try simp only [List.setIfInBounds_toArray]); (try simp only [List.set_cons_succ]); (try simp only [List.set_cons_zero])
            refine wpAnyH_take (i := 3) (oi := { dst := some 84, op := Op.load 27 (Operand.tmp 83), type := 27, pos := "law.go:54", after := #[{ on := 2, ground := Ground.data }], guard := none }) (v := ?vk97) rfl (by kernel_rfl) (by kernel_rfl) (by kernel_rfl) (fun _ _ _ h => h) (Or.inl ⟨by rfl, ?hk97⟩) (SK.old ((Old.refl w4).drew) SBT.out) ?rk97
            case hk97 => (intro wz hSw; (try dsimp only at hSw); go_simp; try with_reducible rfl)
            (try simp only [Act.put]); (try simp only [List.setIfInBounds_toArray]); (try simp only [List.set_cons_succ]); (try simp only [List.set_cons_zero])
            refine wpAnyH_take (i := 4) (oi := { dst := some 85, op := Op.call { callee := Callee.builtin Builtin.len, args := #[Operand.tmp 84], argTypes := #[27] }, type := 3, pos := "law.go:54", after := #[{ on := 3, ground := Ground.data }], guard := none }) (v := ?vk98) rfl (by kernel_rfl) (by kernel_rfl) (by kernel_rfl) (fun _ _ _ h => h) (Or.inl ⟨by rfl, ?hk98⟩) (SK.old ((Old.refl w4).drew) SBT.out) ?rk98
            case hk98 => (intro wz hSw; (try dsimp only at hSw); go_simp; try with_reducible rfl)
            (try simp only [Act.put]); (try simp only [List.setIfInBounds_toArray]); (try simp only [List.set_cons_succ]); (try simp only [List.set_cons_zero])
            refine wpAnyH_ready (rs := [1]) (by kernel_rfl) (by simp) ?_
            refine AllReadyH.cons (o := { dst := some 82, op := Op.call { callee := Callee.value (Operand.func 12), args := #[Operand.tmp 81], argTypes := #[24] }, type := 3, pos := "law.go:54", after := #[{ on := 0, ground := Ground.data }], guard := none }) rfl (fun K hK => ?_) AllReadyH.nil
            refine wantCall1 ?_ 12 (.tmp 81) #[24] ?_ (.pointer (some ⟨tb, 0, none⟩)) ?_ ?_ (ent_len _ _) ?_
            · rfl
            · rfl
            · rfl
            · rfl
            refine (HLn.out _ ((Old.refl w4).drew)).mono ?_
            rintro o x99 ⟨rfl, b99⟩
            refine ⟨_, rfl, ?_⟩
            have U99 := ((Old.refl w4).drew).trans b99
            refine hK.out _ _ (SK.old U99 SBT.out) (fun _ => ?_)
            clear hK K
            (try simp only [Act.put]); (try simp only [List.setIfInBounds_toArray]); (try simp only [List.set_cons_succ]); (try simp only [List.set_cons_zero])
            refine wpAnyH_take (i := 5) (oi := { dst := some 86, op := Op.binOp BinOp.neq 3 (Operand.tmp 82) (Operand.tmp 85) 3, type := 4, pos := "law.go:54", after := #[{ on := 1, ground := Ground.data }, { on := 4, ground := Ground.data }], guard := none }) (v := ?vk100) rfl (by kernel_rfl) (by kernel_rfl) (by kernel_rfl) (fun _ _ _ h => h) (Or.inl ⟨by rfl, ?hk100⟩) (SK.old U99 SBT.out) ?rk100
            case hk100 => (intro wz hSw; (try dsimp only at hSw); go_simp; try with_reducible rfl)
            (try simp only [Act.put]); (try simp only [List.setIfInBounds_toArray]); (try simp only [List.set_cons_succ]); (try simp only [List.set_cons_zero])
            refine wpAnyH_take (i := 6) (oi := { dst := some 87, op := Op.move (Operand.tmp 86), type := 4, pos := "law.go:54", after := #[{ on := 5, ground := Ground.data }, { on := 1, ground := Ground.chain }], guard := none }) (v := ?vk101) rfl (by kernel_rfl) (by kernel_rfl) (by kernel_rfl) (fun _ _ _ h => h) (Or.inl ⟨by rfl, ?hk101⟩) (SK.old U99 SBT.out) ?rk101
            case hk101 => (intro wz hSw; (try dsimp only at hSw); go_simp; try with_reducible rfl)
            (try simp only [Act.put]); (try simp only [List.setIfInBounds_toArray]); (try simp only [List.set_cons_succ]); (try simp only [List.set_cons_zero])
            refine wpAnyH_take (i := 7) (oi := { dst := some 88, op := Op.move (Operand.tmp 7), type := 24, pos := "law.go:54", after := #[{ on := 6, ground := Ground.guard }], guard := some (6, false) }) (v := ?vk102) rfl (by kernel_rfl) (by kernel_rfl) (by kernel_rfl) (fun _ _ _ h => h) (Or.inl ⟨by rfl, ?hk102⟩) (SK.old U99 SBT.out) ?rk102
            case hk102 => (intro wz hSw; (try dsimp only at hSw); go_simp; try with_reducible rfl)
            (try simp only [Act.put]); (try simp only [List.setIfInBounds_toArray]); (try simp only [List.set_cons_succ]); (try simp only [List.set_cons_zero])
            refine wpAnyH_take (i := 8) (oi := { dst := some 89, op := Op.move (Operand.tmp 2), type := 23, pos := "law.go:54", after := #[{ on := 6, ground := Ground.guard }], guard := some (6, false) }) (v := ?vk103) rfl (by kernel_rfl) (by kernel_rfl) (by kernel_rfl) (fun _ _ _ h => h) (Or.inl ⟨by rfl, ?hk103⟩) (SK.old U99 SBT.out) ?rk103
            case hk103 => (intro wz hSw; (try dsimp only at hSw); go_simp; try with_reducible rfl)
            (try simp only [Act.put]); (try simp only [List.setIfInBounds_toArray]); (try simp only [List.set_cons_succ]); (try simp only [List.set_cons_zero])
            refine wpAnyH_take (i := 10) (oi := { dst := some 91, op := Op.load 29 (Operand.tmp 8), type := 29, pos := "law.go:54", after := #[{ on := 6, ground := Ground.guard }], guard := some (6, false) }) (v := ?vk104) rfl (by kernel_rfl) (by kernel_rfl) (by kernel_rfl) (fun _ _ _ h => h) (Or.inl ⟨by rfl, ?hk104⟩) (SK.old U99 SBT.out) ?rk104
            case hk104 => (intro wz hSw; (try dsimp only at hSw); go_simp; try with_reducible rfl)
            (try simp only [Act.put]); (try simp only [List.setIfInBounds_toArray]); (try simp only [List.set_cons_succ]); (try simp only [List.set_cons_zero])
            refine wpAnyH_take (i := 11) (oi := { dst := some 92, op := Op.move (Operand.tmp 2), type := 23, pos := "law.go:54", after := #[{ on := 6, ground := Ground.guard }], guard := some (6, false) }) (v := ?vk105) rfl (by kernel_rfl) (by kernel_rfl) (by kernel_rfl) (fun _ _ _ h => h) (Or.inl ⟨by rfl, ?hk105⟩) (SK.old U99 SBT.out) ?rk105
            case hk105 => (intro wz hSw; (try dsimp only at hSw); go_simp; try with_reducible rfl)
            (try simp only [Act.put]); (try simp only [List.setIfInBounds_toArray]); (try simp only [List.set_cons_succ]); (try simp only [List.set_cons_zero])
            refine wpAnyH_ready (rs := [9]) (by kernel_rfl) (by simp) ?_
            refine AllReadyH.cons (o := { dst := some 90, op := Op.call { callee := Callee.value (Operand.func 13), args := #[Operand.tmp 88, Operand.tmp 89], argTypes := #[24, 23] }, type := 2, pos := "law.go:54", after := #[{ on := 7, ground := Ground.data }, { on := 8, ground := Ground.data }, { on := 6, ground := Ground.chain }, { on := 6, ground := Ground.guard }], guard := some (6, false) }) rfl (fun K hK => ?_) AllReadyH.nil
            refine wantCall2 ?_ 13 (.tmp 88) (.tmp 89) #[24, 23] ?_ (.pointer (some ⟨tb, 0, none⟩)) (.float .f64 key) ?_ ?_ ?_ (ent_pat _ _) ?_
            · rfl
            · rfl
            · rfl
            · rfl
            · rfl
            refine (HK1.out _ U99).mono ?_
            rintro o x106 ⟨rfl, b106⟩
            refine ⟨_, rfl, ?_⟩
            have U106 := U99.trans b106
            refine hK.out _ _ (SK.old U106 SBT.out) (fun _ => ?_)
            clear hK K
            (try simp only [Act.put]); (try simp only [List.setIfInBounds_toArray]); (try simp only [List.set_cons_succ]); (try simp only [List.set_cons_zero])
            refine wpAnyH_ready (rs := [12]) (by kernel_rfl) (by simp) ?_
            refine AllReadyH.cons (o := { dst := some 93, op := Op.call { callee := Callee.value (Operand.func 14), args := #[Operand.tmp 91, Operand.tmp 92], argTypes := #[29, 23] }, type := 2, pos := "law.go:54", after := #[{ on := 10, ground := Ground.data }, { on := 11, ground := Ground.data }, { on := 9, ground := Ground.chain }, { on := 6, ground := Ground.guard }], guard := some (6, false) }) rfl (fun K hK => ?_) AllReadyH.nil
            refine wantCall2 ?_ 14 (.tmp 91) (.tmp 92) #[29, 23] ?_ (.agg #[.int .i64 most, .slice a L.length c]) (.float .f64 key) ?_ ?_ ?_ (ent_rat _ _) ?_
            · rfl
            · rfl
            · rfl
            · rfl
            · rfl
            refine (HK2.out _ U106).mono ?_
            rintro o x107 ⟨rfl, b107⟩
            refine ⟨_, rfl, ?_⟩
            have U107 := U106.trans b107
            refine hK.out _ _ (SK.old U107 SBT.out) (fun _ => ?_)
            clear hK K
            (try simp only [Act.put]); (try simp only [List.setIfInBounds_toArray]); (try simp only [List.set_cons_succ]); (try simp only [List.set_cons_zero])
            refine wpAnyH_take (i := 13) (oi := { dst := some 94, op := Op.binOp BinOp.neq 2 (Operand.tmp 90) (Operand.tmp 93) 2, type := 4, pos := "law.go:54", after := #[{ on := 9, ground := Ground.data }, { on := 12, ground := Ground.data }, { on := 6, ground := Ground.guard }], guard := some (6, false) }) (v := ?vk108) rfl (by kernel_rfl) (by kernel_rfl) (by kernel_rfl) (fun _ _ _ h => h) (Or.inl ⟨by rfl, ?hk108⟩) (SK.old U107 SBT.out) ?rk108
            case hk108 => (intro wz hSw; (try dsimp only at hSw); go_simp; try with_reducible rfl)
            (try simp only [Act.put]); (try simp only [List.setIfInBounds_toArray]); (try simp only [List.set_cons_succ]); (try simp only [List.set_cons_zero])
            refine wpAnyH_take (i := 14) (oi := { dst := some 95, op := Op.pick (Operand.tmp 87) (Operand.const (Value.bool true)) (Operand.tmp 94), type := 4, pos := "law.go:54", after := #[{ on := 6, ground := Ground.data }, { on := 13, ground := Ground.data }], guard := none }) (v := ?vk109) rfl (by kernel_rfl) (by kernel_rfl) (by kernel_rfl) (fun _ _ _ h => h) (Or.inl ⟨by rfl, ?hk109⟩) (SK.old U107 SBT.out) ?rk109
            case hk109 => (intro wz hSw; (try dsimp only at hSw); go_simp; try with_reducible rfl)
            (try simp only [Act.put]); (try simp only [List.setIfInBounds_toArray]); (try simp only [List.set_cons_succ]); (try simp only [List.set_cons_zero])
            refine wpAnyH_take (i := 15) (oi := { dst := some 96, op := Op.move (Operand.tmp 95), type := 4, pos := "law.go:54", after := #[{ on := 14, ground := Ground.data }, { on := 12, ground := Ground.chain }], guard := none }) (v := ?vk110) rfl (by kernel_rfl) (by kernel_rfl) (by kernel_rfl) (fun _ _ _ h => h) (Or.inl ⟨by rfl, ?hk110⟩) (SK.old U107 SBT.out) ?rk110
            case hk110 => (intro wz hSw; (try dsimp only at hSw); go_simp; try with_reducible rfl)
            (try simp only [Act.put]); (try simp only [List.setIfInBounds_toArray]); (try simp only [List.set_cons_succ]); (try simp only [List.set_cons_zero])
            refine wpAnyH_take (i := 16) (oi := { dst := some 97, op := Op.move (Operand.tmp 7), type := 24, pos := "law.go:54", after := #[{ on := 15, ground := Ground.guard }], guard := some (15, false) }) (v := ?vk111) rfl (by kernel_rfl) (by kernel_rfl) (by kernel_rfl) (fun _ _ _ h => h) (Or.inl ⟨by rfl, ?hk111⟩) (SK.old U107 SBT.out) ?rk111
            case hk111 => (intro wz hSw; (try dsimp only at hSw); go_simp; try with_reducible rfl)
            (try simp only [Act.put]); (try simp only [List.setIfInBounds_toArray]); (try simp only [List.set_cons_succ]); (try simp only [List.set_cons_zero])
            refine wpAnyH_take (i := 17) (oi := { dst := some 98, op := Op.fieldAddr 34 (Operand.tmp 10) 1, type := 0, pos := "law.go:54", after := #[{ on := 15, ground := Ground.guard }], guard := some (15, false) }) (v := ?vk112) rfl (by kernel_rfl) (by kernel_rfl) (by kernel_rfl) (fun _ _ _ h => h) (Or.inl ⟨by rfl, ?hk112⟩) (SK.old U107 SBT.out) ?rk112
            case hk112 => (intro wz hSw; (try dsimp only at hSw); go_simp; try with_reducible rfl)
            (try simp only [Act.put]); (try simp only [List.setIfInBounds_toArray]); (try simp only [List.set_cons_succ]); (try simp only [List.set_cons_zero])
            refine wpAnyH_take (i := 18) (oi := { dst := some 99, op := Op.fieldAddr 32 (Operand.tmp 98) 0, type := 0, pos := "law.go:54", after := #[{ on := 17, ground := Ground.data }, { on := 15, ground := Ground.guard }], guard := some (15, false) }) (v := ?vk113) rfl (by kernel_rfl) (by kernel_rfl) (by kernel_rfl) (fun _ _ _ h => h) (Or.inl ⟨by rfl, ?hk113⟩) (SK.old U107 SBT.out) ?rk113
            case hk113 => (intro wz hSw; (try dsimp only at hSw); go_simp; try with_reducible rfl)
            (try simp only [Act.put]); (try simp only [List.setIfInBounds_toArray]); (try simp only [List.set_cons_succ]); (try simp only [List.set_cons_zero])
            refine wpAnyH_take (i := 19) (oi := { dst := some 100, op := Op.load 23 (Operand.tmp 99), type := 23, pos := "law.go:54", after := #[{ on := 18, ground := Ground.data }, { on := 15, ground := Ground.guard }], guard := some (15, false) }) (v := ?vk114) rfl (by kernel_rfl) (by kernel_rfl) (by kernel_rfl) (fun _ _ _ h => h) (Or.inl ⟨by rfl, ?hk114⟩) (SK.old U107 SBT.out) ?rk114
            case hk114 => (intro wz hSw; (try dsimp only at hSw); go_simp; try with_reducible rfl)
            (try simp only [Act.put]); (try simp only [List.setIfInBounds_toArray]); (try simp only [List.set_cons_succ]); (try simp only [List.set_cons_zero])
            refine wpAnyH_take (i := 21) (oi := { dst := some 102, op := Op.load 29 (Operand.tmp 8), type := 29, pos := "law.go:54", after := #[{ on := 15, ground := Ground.guard }], guard := some (15, false) }) (v := ?vk115) rfl (by kernel_rfl) (by kernel_rfl) (by kernel_rfl) (fun _ _ _ h => h) (Or.inl ⟨by rfl, ?hk115⟩) (SK.old U107 SBT.out) ?rk115
            case hk115 => (intro wz hSw; (try dsimp only at hSw); go_simp; try with_reducible rfl)
            (try simp only [Act.put]); (try simp only [List.setIfInBounds_toArray]); (try simp only [List.set_cons_succ]); (try simp only [List.set_cons_zero])
            refine wpAnyH_take (i := 22) (oi := { dst := some 103, op := Op.fieldAddr 34 (Operand.tmp 10) 1, type := 0, pos := "law.go:54", after := #[{ on := 15, ground := Ground.guard }], guard := some (15, false) }) (v := ?vk116) rfl (by kernel_rfl) (by kernel_rfl) (by kernel_rfl) (fun _ _ _ h => h) (Or.inl ⟨by rfl, ?hk116⟩) (SK.old U107 SBT.out) ?rk116
            case hk116 => (intro wz hSw; (try dsimp only at hSw); go_simp; try with_reducible rfl)
            (try simp only [Act.put]); (try simp only [List.setIfInBounds_toArray]); (try simp only [List.set_cons_succ]); (try simp only [List.set_cons_zero])
            refine wpAnyH_take (i := 23) (oi := { dst := some 104, op := Op.fieldAddr 32 (Operand.tmp 103) 0, type := 0, pos := "law.go:54", after := #[{ on := 22, ground := Ground.data }, { on := 15, ground := Ground.guard }], guard := some (15, false) }) (v := ?vk117) rfl (by kernel_rfl) (by kernel_rfl) (by kernel_rfl) (fun _ _ _ h => h) (Or.inl ⟨by rfl, ?hk117⟩) (SK.old U107 SBT.out) ?rk117
            case hk117 => (intro wz hSw; (try dsimp only at hSw); go_simp; try with_reducible rfl)
            (try simp only [Act.put]); (try simp only [List.setIfInBounds_toArray]); (try simp only [List.set_cons_succ]); (try simp only [List.set_cons_zero])
            refine wpAnyH_take (i := 24) (oi := { dst := some 105, op := Op.load 23 (Operand.tmp 104), type := 23, pos := "law.go:54", after := #[{ on := 23, ground := Ground.data }, { on := 15, ground := Ground.guard }], guard := some (15, false) }) (v := ?vk118) rfl (by kernel_rfl) (by kernel_rfl) (by kernel_rfl) (fun _ _ _ h => h) (Or.inl ⟨by rfl, ?hk118⟩) (SK.old U107 SBT.out) ?rk118
            case hk118 => (intro wz hSw; (try dsimp only at hSw); go_simp; try with_reducible rfl)
            (try simp only [Act.put]); (try simp only [List.setIfInBounds_toArray]); (try simp only [List.set_cons_succ]); (try simp only [List.set_cons_zero])
            refine wpAnyH_ready (rs := [20]) (by kernel_rfl) (by simp) ?_
            refine AllReadyH.cons (o := { dst := some 101, op := Op.call { callee := Callee.value (Operand.func 13), args := #[Operand.tmp 97, Operand.tmp 100], argTypes := #[24, 23] }, type := 2, pos := "law.go:54", after := #[{ on := 16, ground := Ground.data }, { on := 19, ground := Ground.data }, { on := 15, ground := Ground.chain }, { on := 15, ground := Ground.guard }], guard := some (15, false) }) rfl (fun K hK => ?_) AllReadyH.nil
            refine wantCall2 ?_ 13 (.tmp 97) (.tmp 100) #[24, 23] ?_ (.pointer (some ⟨tb, 0, none⟩)) (.float .f64 z.a) ?_ ?_ ?_ (ent_pat _ _) ?_
            · rfl
            · rfl
            · rfl
            · rfl
            · rfl
            refine (HV1.out _ U107).mono ?_
            rintro o x119 ⟨rfl, b119⟩
            refine ⟨_, rfl, ?_⟩
            have U119 := U107.trans b119
            refine hK.out _ _ (SK.old U119 SBT.out) (fun _ => ?_)
            clear hK K
            (try simp only [Act.put]); (try simp only [List.setIfInBounds_toArray]); (try simp only [List.set_cons_succ]); (try simp only [List.set_cons_zero])
            refine wpAnyH_ready (rs := [25]) (by kernel_rfl) (by simp) ?_
            refine AllReadyH.cons (o := { dst := some 106, op := Op.call { callee := Callee.value (Operand.func 14), args := #[Operand.tmp 102, Operand.tmp 105], argTypes := #[29, 23] }, type := 2, pos := "law.go:54", after := #[{ on := 21, ground := Ground.data }, { on := 24, ground := Ground.data }, { on := 20, ground := Ground.chain }, { on := 15, ground := Ground.guard }], guard := some (15, false) }) rfl (fun K hK => ?_) AllReadyH.nil
            refine wantCall2 ?_ 14 (.tmp 102) (.tmp 105) #[29, 23] ?_ (.agg #[.int .i64 most, .slice a L.length c]) (.float .f64 z.a) ?_ ?_ ?_ (ent_rat _ _) ?_
            · rfl
            · rfl
            · rfl
            · rfl
            · rfl
            refine (HV2.out _ U119).mono ?_
            rintro o x120 ⟨rfl, b120⟩
            refine ⟨_, rfl, ?_⟩
            have U120 := U119.trans b120
            refine hK.out _ _ (SK.old U120 SBT.out) (fun _ => ?_)
            clear hK K
            (try simp only [Act.put]); (try simp only [List.setIfInBounds_toArray]); (try simp only [List.set_cons_succ]); (try simp only [List.set_cons_zero])
            refine wpAnyH_take (i := 26) (oi := { dst := some 107, op := Op.binOp BinOp.neq 2 (Operand.tmp 101) (Operand.tmp 106) 2, type := 4, pos := "law.go:54", after := #[{ on := 20, ground := Ground.data }, { on := 25, ground := Ground.data }, { on := 15, ground := Ground.guard }], guard := some (15, false) }) (v := ?vk121) rfl (by kernel_rfl) (by kernel_rfl) (by kernel_rfl) (fun _ _ _ h => h) (Or.inl ⟨by rfl, ?hk121⟩) (SK.old U120 SBT.out) ?rk121
            case hk121 => (intro wz hSw; (try dsimp only at hSw); go_simp; try with_reducible rfl)
            (try simp only [Act.put]); (try simp only [List.setIfInBounds_toArray]); (try simp only [List.set_cons_succ]); (try simp only [List.set_cons_zero])
            refine wpAnyH_take (i := 27) (oi := { dst := some 108, op := Op.pick (Operand.tmp 96) (Operand.const (Value.bool true)) (Operand.tmp 107), type := 4, pos := "law.go:54", after := #[{ on := 15, ground := Ground.data }, { on := 26, ground := Ground.data }], guard := none }) (v := ?vk122) rfl (by kernel_rfl) (by kernel_rfl) (by kernel_rfl) (fun _ _ _ h => h) (Or.inl ⟨by rfl, ?hk122⟩) (SK.old U120 SBT.out) ?rk122
            case hk122 => (intro wz hSw; (try dsimp only at hSw); go_simp; try with_reducible rfl)
            (try simp only [Act.put]); (try simp only [List.setIfInBounds_toArray]); (try simp only [List.set_cons_succ]); (try simp only [List.set_cons_zero])
            refine wpAnyH_done (by kernel_rfl) ?_ _
            refine NoPanic.normal ?_
            have U9 := hid U120
            clear HLn HK1 HK2 HV1 HV2 SBT
            go_wp2
            go_roundw
            case rel => exact ⟨k + 1, hlt, by go_num, _, _, _, _, P4.out.to U9.out⟩
            case measure => simp [intOf]; omega
    · obtain rfl : k = N := by omega
      have hzN := hid hlL
      go_upto_region 26 with fail
      have SB0 := hid (show SB mb most a L.length c wr from ⟨P0.out.box.1, P0.out.box.2.1⟩)
      have HAl := hid (fun (W : World) (u : Old wr W) => all_any tb tb most v L W hlL (P0.out.tab.old u))
      have HRl := hid (fun (W : World) (u : Old wr W) => rAll_any tb most (.slice a L.length c) M P0.out.w W (P0.out.own.old u) hlM)
      rw [out_perm P0.out.perm P0.out.good.1] at HRl
      refine wp_region_noPanic ?_
      refine wp_region_held_drew (S := SB mb most a L.length c) (by kernel_rfl) ?_ (fun hHeld => ?_)
      · exact SB.old ((Old.refl wr).drew) SB0.out
      (try simp only [Act.put]); (try simp only [List.setIfInBounds_toArray]); (try simp only [List.set_cons_succ]); (try simp only [List.set_cons_zero])
      clear hHeld
      refine wpAnyH_take (i := 0) (oi := { dst := some 110, op := Op.move (Operand.tmp 7), type := 24, pos := "law.go:58", after := #[], guard := none }) (v := ?vk123) rfl (by kernel_rfl) (by kernel_rfl) (by kernel_rfl) (fun _ _ _ h => h) (Or.inl ⟨by rfl, ?hk123⟩) (SB.old ((Old.refl wr).drew) SB0.out) ?rk123
      case hk123 => (intro wz hSw; (try dsimp only at hSw); go_simp; try with_reducible rfl)
      (try simp only [Act.put]); (try simp only [List.setIfInBounds_toArray]); (try simp only [List.set_cons_succ]); (try simp only [List.set_cons_zero])
      refine wpAnyH_take (i := 2) (oi := { dst := some 112, op := Op.load 29 (Operand.tmp 8), type := 29, pos := "law.go:58", after := #[], guard := none }) (v := ?vk124) rfl (by kernel_rfl) (by kernel_rfl) (by kernel_rfl) (fun _ _ _ h => h) (Or.inl ⟨by rfl, ?hk124⟩) (SB.old ((Old.refl wr).drew) SB0.out) ?rk124
      case hk124 => (intro wz hSw; (try dsimp only at hSw); go_simp; try with_reducible rfl)
      (try simp only [Act.put]); (try simp only [List.setIfInBounds_toArray]); (try simp only [List.set_cons_succ]); (try simp only [List.set_cons_zero])
      refine wpAnyH_ready (rs := [1]) (by kernel_rfl) (by simp) ?_
      refine AllReadyH.cons (o := { dst := some 111, op := Op.call { callee := Callee.value (Operand.func 15), args := #[Operand.tmp 110], argTypes := #[24] }, type := 44, pos := "law.go:58", after := #[{ on := 0, ground := Ground.data }], guard := none }) rfl (fun K hK => ?_) AllReadyH.nil
      refine wantCall1 ?_ 15 (.tmp 110) #[24] ?_ (.pointer (some ⟨tb, 0, none⟩)) ?_ ?_ (ent_all _ _) ?_
      · rfl
      · rfl
      · rfl
      · rfl
      refine (HAl.out _ ((Old.refl wr).drew)).mono ?_
      rintro o x125 ⟨v1, rfl, oA, uA⟩
      obtain ⟨a1, c1, hv1⟩ := oA.len
      subst hv1
      have U125 := ((Old.refl wr).drew).trans uA
      refine ⟨_, rfl, ?_⟩
      refine hK.out _ _ (SB.old U125 SB0.out) (fun _ => ?_)
      clear hK K
      (try simp only [Act.put]); (try simp only [List.setIfInBounds_toArray]); (try simp only [List.set_cons_succ]); (try simp only [List.set_cons_zero])
      refine wpAnyH_ready (rs := [3]) (by kernel_rfl) (by simp) ?_
      refine AllReadyH.cons (o := { dst := some 113, op := Op.call { callee := Callee.value (Operand.func 16), args := #[Operand.tmp 112], argTypes := #[29] }, type := 27, pos := "law.go:58", after := #[{ on := 2, ground := Ground.data }, { on := 1, ground := Ground.chain }], guard := none }) rfl (fun K hK => ?_) AllReadyH.nil
      refine wantCall1 ?_ 16 (.tmp 112) #[29] ?_ (.agg #[.int .i64 most, .slice a L.length c]) ?_ ?_ (ent_rall _ _) ?_
      · rfl
      · rfl
      · rfl
      · rfl
      refine (HRl.out _ U125).mono ?_
      rintro o x126 ⟨v2, rfl, oB, uB⟩
      obtain ⟨a2, c2, hv2⟩ := oB.len
      rw [List.length_map] at hv2
      subst hv2
      have U126 := U125.trans uB
      refine ⟨_, rfl, ?_⟩
      refine hK.out _ _ (SB.old U126 SB0.out) (fun _ => ?_)
      clear hK K
      (try simp only [Act.put]); (try simp only [List.setIfInBounds_toArray]); (try simp only [List.set_cons_succ]); (try simp only [List.set_cons_zero])
      refine wpAnyH_ready (rs := [4]) (by kernel_rfl) (by simp) ?_
      refine AllReadyH.cons (o := { dst := some 15, op := Op.assign (Operand.tmp 111), type := 44, pos := "law.go:58", after := #[{ on := 1, ground := Ground.data }, { on := 3, ground := Ground.chain }, { on := 0, ground := Ground.phase }, { on := 1, ground := Ground.phase }, { on := 2, ground := Ground.textOnly Departure.lateStores }, { on := 3, ground := Ground.textOnly Departure.lateStoresUnsure }], guard := none }) rfl (fun K hK => ?_) AllReadyH.nil
      go_simp
      refine hK.out _ _ (SB.old U126 SB0.out) (fun _ => ?_)
      clear hK K
      (try simp only [Act.put]); (try simp only [List.setIfInBounds_toArray]); (try simp only [List.set_cons_succ]); (try simp only [List.set_cons_zero])
      refine wpAnyH_ready (rs := [5]) (by kernel_rfl) (by simp) ?_
      refine AllReadyH.cons (o := { dst := some 16, op := Op.assign (Operand.tmp 113), type := 27, pos := "law.go:58", after := #[{ on := 3, ground := Ground.data }, { on := 4, ground := Ground.chain }, { on := 0, ground := Ground.phase }, { on := 1, ground := Ground.phase }, { on := 2, ground := Ground.phase }, { on := 3, ground := Ground.phase }, { on := 4, ground := Ground.phase }], guard := none }) rfl (fun K hK => ?_) AllReadyH.nil
      go_simp
      refine hK.out _ _ (SB.old U126 SB0.out) (fun _ => ?_)
      clear hK K
      (try simp only [Act.put]); (try simp only [List.setIfInBounds_toArray]); (try simp only [List.set_cons_succ]); (try simp only [List.set_cons_zero])
      refine wpAnyH_done (by kernel_rfl) ?_ _
      refine NoPanic.normal ?_
      have U9 := hid U126
      have OA := hid (oA.old uB)
      have OB := hid oB
      have hgA := hid (show ∀ g, (Value.slice a1 L.length c1).ownBlock = some g → wr.heap.size ≤ g ∧ g < x125.heap.size from fun g hg => by have := oA.lt g hg; exact ⟨by have := ((Old.refl wr).drew).size; omega, this.2⟩)
      have HSA := hid (fun (e : 0 < L.length) => OA.out.shape e)
      clear oA oB uA uB
      generalize x125.heap.size = s1 at *
      generalize x126 = w7 at *
      have HK1 := hid (fun (W : World) (u : Old wr W) => at_any tb tb most v L key hkey W (P0.out.tab.old u) P0.out.good hlL)
      have HK2 := hid (fun (W : World) (u : Old wr W) => rAt_any tb most (.slice a L.length c) M key hkey W (P0.out.own.old u) hlM)
      rw [at_perm P0.out.perm P0.out.good] at HK2
      generalize overT key L L.length = A at *
      have HGd := hid P0.out.good
      have HOldw := hid P0.out.old
      clear HAl HRl OA
      generalize hn : L.length = n at *
      have hn1 := hid hn
      clear hn
      have HB0 := hid SB0.out
      obtain ⟨wE, hwE⟩ : ∃ wE, wE = wr := ⟨_, rfl⟩
      subst hwE
      go_wp2
      go_loopw [121] (fun i wq => ∃ j : Nat, j ≤ n ∧ i = .int .i64 (j : Nat) ∧ (0 < n → ∃ g cap, Value.slice a1 n c1 = .slice (some ⟨g, 0, none⟩) n cap ∧ wE.heap.size ≤ g ∧ g < s1 ∧ (∀ i, j ≤ i → i < n → ItIn wq g (i * 5) (atI L i)) ∧ ∀ i, j ≤ i → i < n → wq.frozen? ⟨g, i * 5 + 4, none⟩ = false) ∧ OwnM s1 wq (.slice a2 n c2) (L.map rOf) ∧ Old wE wq) (fun i _ => n - (intOf i).toNat)
      case atStart =>
        refine ⟨0, Nat.zero_le _, rfl, fun h0 => ?_, OB.out, U9.out⟩
        obtain ⟨g, cap, he, hgb, hgl, hi, hf⟩ := HSA.out h0
        have hb := hgA.out g (by rw [he]; rfl)
        exact ⟨g, cap, he, hb.1, hb.2, fun i _ hi2 => hi i hi2, fun i _ _ => hf _⟩
      case round =>
        obtain ⟨j, hjn, rfl, hA, hB, hU⟩ := hrel
        have HA := hid hA
        have HBq := hid hB
        have HUq := hid hU
        clear hA hB hU HSA hgA OB U9
        by_cases hjt : j < n
        · obtain ⟨g, cap, he, hg1, hg2, hi, hf⟩ := HA.out (by omega)
          simp only [Value.slice.injEq] at he
          obtain ⟨rfl, _, rfl⟩ := he
          have c0 := hi j (Nat.le_refl _) hjt
          have hf1 := hf j (Nat.le_refl _) hjt
          have HI2 := hid hi
          have HF2 := hid hf
          have HG12 := hid (And.intro hg1 hg2)
          obtain ⟨gB, capB, heB, _, _, hiB⟩ := HBq.out.shape (by rw [List.length_map, hn1.out]; omega)
          rw [List.length_map, hn1.out] at heB hiB
          simp only [Value.slice.injEq] at heB
          obtain ⟨rfl, _, rfl⟩ := heB
          have d0 := hiB j hjt
          rw [atR_map L j (by rw [hn1.out]; exact hjt)] at d0
          have hok := HGd.out.at j (by rw [hn1.out]; exact hjt)
          clear hi hf hiB hg1 hg2
          have l1 : (0 : Int) ≤ (j : Int) := by omega
          have l2 : (j : Int) < (n : Int) := by omega
          generalize hxx : atI L j = z at *
          have hxx' := hid hxx
          clear hxx
          go_upto_region 32 with fail
          have SQ := hid (show S32e g gB j z wr from ⟨c0, d0⟩)
          have HSp := hid (fun (W : World) (u : Old wr W) => span_old z hok W)
          have HSs := hid (fun (W : World) (u : Old wr W) => same_old z W)
          clear c0 d0 hok
          refine wp_region_noPanic ?_
          refine wp_region_held_drew (S := S32e g gB j z) (by kernel_rfl) ?_ (fun hHeld => ?_)
          · exact S32e.old ((Old.refl _).drew) SQ.out
          (try simp only [Act.put]); (try simp only [List.setIfInBounds_toArray]); (try simp only [List.set_cons_succ]); (try simp only [List.set_cons_zero])
          clear hHeld
          refine wpAnyH_take (i := 0) (oi := { dst := some 124, op := Op.move (Operand.tmp 15), type := 44, pos := "law.go:63", after := #[], guard := none }) (v := ?vk127) rfl (by kernel_rfl) (by kernel_rfl) (by kernel_rfl) (fun _ _ _ h => h) (Or.inl ⟨by rfl, ?hk127⟩) (S32e.old ((Old.refl wr).drew) SQ.out) ?rk127
          case hk127 => (intro wz hSw; (try dsimp only at hSw); go_simp; try with_reducible rfl)
          (try simp only [Act.put]); (try simp only [List.setIfInBounds_toArray]); (try simp only [List.set_cons_succ]); (try simp only [List.set_cons_zero])
          refine wpAnyH_take (i := 1) (oi := { dst := some 125, op := Op.move (Operand.tmp 17), type := 3, pos := "law.go:63", after := #[], guard := none }) (v := ?vk128) rfl (by kernel_rfl) (by kernel_rfl) (by kernel_rfl) (fun _ _ _ h => h) (Or.inl ⟨by rfl, ?hk128⟩) (S32e.old ((Old.refl wr).drew) SQ.out) ?rk128
          case hk128 => (intro wz hSw; (try dsimp only at hSw); go_simp; try with_reducible rfl)
          (try simp only [Act.put]); (try simp only [List.setIfInBounds_toArray]); (try simp only [List.set_cons_succ]); (try simp only [List.set_cons_zero])
          refine wpAnyH_take (i := 2) (oi := { dst := some 126, op := Op.indexAddr 44 (Operand.tmp 124) (Operand.tmp 125), type := 0, pos := "law.go:63", after := #[{ on := 0, ground := Ground.data }, { on := 1, ground := Ground.data }], guard := none }) (v := ?vk129) rfl (by kernel_rfl) (by kernel_rfl) (by kernel_rfl) (fun _ _ _ h => h) (Or.inl ⟨by rfl, ?hk129⟩) (S32e.old ((Old.refl wr).drew) SQ.out) ?rk129
          case hk129 => (intro wz hSw; (try dsimp only at hSw); go_simp; try with_reducible rfl)
          (try simp only [Act.put]); (try simp only [List.setIfInBounds_toArray]); (try simp only [List.set_cons_succ]); (try simp only [List.set_cons_zero])
          refine wpAnyH_take (i := 3) (oi := { dst := some 127, op := Op.fieldAddr 49 (Operand.tmp 126) 0, type := 0, pos := "law.go:63", after := #[{ on := 2, ground := Ground.data }], guard := none }) (v := ?vk130) rfl (by kernel_rfl) (by kernel_rfl) (by kernel_rfl) (fun _ _ _ h => h) (Or.inl ⟨by rfl, ?hk130⟩) (S32e.old ((Old.refl wr).drew) SQ.out) ?rk130
          case hk130 => (intro wz hSw; (try dsimp only at hSw); go_simp; try with_reducible rfl)
          (try simp only [Act.put]); (try simp only [List.setIfInBounds_toArray]); (try simp only [List.set_cons_succ]); (try simp only [List.set_cons_zero])
          refine wpAnyH_take (i := 4) (oi := { dst := some 128, op := Op.load 32 (Operand.tmp 127), type := 32, pos := "law.go:63", after := #[{ on := 3, ground := Ground.data }], guard := none }) (v := ?vk131) rfl (by kernel_rfl) (by kernel_rfl) (by kernel_rfl) (fun _ _ _ h => h) (Or.inl ⟨by rfl, ?hk131⟩) (S32e.old ((Old.refl wr).drew) SQ.out) ?rk131
          case hk131 => (intro wz hSw; (try dsimp only at hSw); go_simp; try with_reducible rfl)
          (try simp only [Act.put]); (try simp only [List.setIfInBounds_toArray]); (try simp only [List.set_cons_succ]); (try simp only [List.set_cons_zero])
          refine wpAnyH_take (i := 5) (oi := { dst := some 129, op := Op.move (Operand.tmp 16), type := 27, pos := "law.go:63", after := #[], guard := none }) (v := ?vk132) rfl (by kernel_rfl) (by kernel_rfl) (by kernel_rfl) (fun _ _ _ h => h) (Or.inl ⟨by rfl, ?hk132⟩) (S32e.old ((Old.refl wr).drew) SQ.out) ?rk132
          case hk132 => (intro wz hSw; (try dsimp only at hSw); go_simp; try with_reducible rfl)
          (try simp only [Act.put]); (try simp only [List.setIfInBounds_toArray]); (try simp only [List.set_cons_succ]); (try simp only [List.set_cons_zero])
          refine wpAnyH_take (i := 6) (oi := { dst := some 130, op := Op.move (Operand.tmp 17), type := 3, pos := "law.go:63", after := #[], guard := none }) (v := ?vk133) rfl (by kernel_rfl) (by kernel_rfl) (by kernel_rfl) (fun _ _ _ h => h) (Or.inl ⟨by rfl, ?hk133⟩) (S32e.old ((Old.refl wr).drew) SQ.out) ?rk133
          case hk133 => (intro wz hSw; (try dsimp only at hSw); go_simp; try with_reducible rfl)
          (try simp only [Act.put]); (try simp only [List.setIfInBounds_toArray]); (try simp only [List.set_cons_succ]); (try simp only [List.set_cons_zero])
          refine wpAnyH_take (i := 7) (oi := { dst := some 131, op := Op.indexAddr 27 (Operand.tmp 129) (Operand.tmp 130), type := 0, pos := "law.go:63", after := #[{ on := 5, ground := Ground.data }, { on := 6, ground := Ground.data }], guard := none }) (v := ?vk134) rfl (by kernel_rfl) (by kernel_rfl) (by kernel_rfl) (fun _ _ _ h => h) (Or.inl ⟨by rfl, ?hk134⟩) (S32e.old ((Old.refl wr).drew) SQ.out) ?rk134
          case hk134 => (intro wz hSw; (try dsimp only at hSw); go_simp; try with_reducible rfl)
          (try simp only [Act.put]); (try simp only [List.setIfInBounds_toArray]); (try simp only [List.set_cons_succ]); (try simp only [List.set_cons_zero])
          refine wpAnyH_take (i := 8) (oi := { dst := some 132, op := Op.fieldAddr 55 (Operand.tmp 131) 0, type := 0, pos := "law.go:63", after := #[{ on := 7, ground := Ground.data }], guard := none }) (v := ?vk135) rfl (by kernel_rfl) (by kernel_rfl) (by kernel_rfl) (fun _ _ _ h => h) (Or.inl ⟨by rfl, ?hk135⟩) (S32e.old ((Old.refl wr).drew) SQ.out) ?rk135
          case hk135 => (intro wz hSw; (try dsimp only at hSw); go_simp; try with_reducible rfl)
          (try simp only [Act.put]); (try simp only [List.setIfInBounds_toArray]); (try simp only [List.set_cons_succ]); (try simp only [List.set_cons_zero])
          refine wpAnyH_take (i := 9) (oi := { dst := some 133, op := Op.load 53 (Operand.tmp 132), type := 53, pos := "law.go:63", after := #[{ on := 8, ground := Ground.data }], guard := none }) (v := ?vk136) rfl (by kernel_rfl) (by kernel_rfl) (by kernel_rfl) (fun _ _ _ h => h) (Or.inl ⟨by rfl, ?hk136⟩) (S32e.old ((Old.refl wr).drew) SQ.out) ?rk136
          case hk136 => (intro wz hSw; (try dsimp only at hSw); go_simp; try with_reducible rfl)
          (try simp only [Act.put]); (try simp only [List.setIfInBounds_toArray]); (try simp only [List.set_cons_succ]); (try simp only [List.set_cons_zero])
          refine wpAnyH_ready (rs := [10]) (by kernel_rfl) (by simp) ?_
          refine AllReadyH.cons (o := { dst := some 134, op := Op.call { callee := Callee.value (Operand.func 18), args := #[Operand.tmp 133], argTypes := #[53] }, type := 32, pos := "law.go:63", after := #[{ on := 9, ground := Ground.data }], guard := none }) rfl (fun K hK => ?_) AllReadyH.nil
          refine wantCall1 ?_ 18 (.tmp 133) #[53] ?_ (.agg #[.int .u64 (Fl.code z.a : Nat), .int .u64 (Fl.code z.b : Nat)]) ?_ ?_ (ent_rsp _ _) ?_
          · rfl
          · rfl
          · rfl
          · rfl
          refine (HSp.out _ ((Old.refl wr).drew)).mono ?_
          rintro o x137 ⟨rfl, b137⟩
          refine ⟨_, rfl, ?_⟩
          have U137 := ((Old.refl wr).drew).trans b137
          refine hK.out _ _ (S32e.old U137 SQ.out) (fun _ => ?_)
          clear hK K
          (try simp only [Act.put]); (try simp only [List.setIfInBounds_toArray]); (try simp only [List.set_cons_succ]); (try simp only [List.set_cons_zero])
          refine wpAnyH_ready (rs := [11]) (by kernel_rfl) (by simp) ?_
          refine AllReadyH.cons (o := { dst := some 135, op := Op.call { callee := Callee.value (Operand.func 17), args := #[Operand.tmp 128, Operand.tmp 134], argTypes := #[32, 32] }, type := 4, pos := "law.go:63", after := #[{ on := 4, ground := Ground.data }, { on := 10, ground := Ground.data }, { on := 10, ground := Ground.chain }], guard := none }) rfl (fun K hK => ?_) AllReadyH.nil
          refine wantCall2 ?_ 17 (.tmp 128) (.tmp 134) #[32, 32] ?_ (.agg #[.float .f64 z.a, .float .f64 z.b, .bool z.p, .bool z.q]) (.agg #[.float .f64 z.a, .float .f64 z.b, .bool z.p, .bool z.q]) ?_ ?_ ?_ (ent_ssp _ _) ?_
          · rfl
          · rfl
          · rfl
          · rfl
          · rfl
          refine (HSs.out _ U137).mono ?_
          rintro o x138 ⟨rfl, b138⟩
          refine ⟨_, rfl, ?_⟩
          have U138 := U137.trans b138
          refine hK.out _ _ (S32e.old U138 SQ.out) (fun _ => ?_)
          clear hK K
          (try simp only [Act.put]); (try simp only [List.setIfInBounds_toArray]); (try simp only [List.set_cons_succ]); (try simp only [List.set_cons_zero])
          refine wpAnyH_take (i := 12) (oi := { dst := some 136, op := Op.unOp UnOp.not 4 (Operand.tmp 135), type := 4, pos := "law.go:63", after := #[{ on := 11, ground := Ground.data }], guard := none }) (v := ?vk139) rfl (by kernel_rfl) (by kernel_rfl) (by kernel_rfl) (fun _ _ _ h => h) (Or.inl ⟨by rfl, ?hk139⟩) (S32e.old U138 SQ.out) ?rk139
          case hk139 => (intro wz hSw; (try dsimp only at hSw); go_simp; try with_reducible rfl)
          (try simp only [Act.put]); (try simp only [List.setIfInBounds_toArray]); (try simp only [List.set_cons_succ]); (try simp only [List.set_cons_zero])
          refine wpAnyH_take (i := 13) (oi := { dst := some 137, op := Op.move (Operand.tmp 136), type := 4, pos := "law.go:63", after := #[{ on := 12, ground := Ground.data }, { on := 11, ground := Ground.chain }], guard := none }) (v := ?vk140) rfl (by kernel_rfl) (by kernel_rfl) (by kernel_rfl) (fun _ _ _ h => h) (Or.inl ⟨by rfl, ?hk140⟩) (S32e.old U138 SQ.out) ?rk140
          case hk140 => (intro wz hSw; (try dsimp only at hSw); go_simp; try with_reducible rfl)
          (try simp only [Act.put]); (try simp only [List.setIfInBounds_toArray]); (try simp only [List.set_cons_succ]); (try simp only [List.set_cons_zero])
          refine wpAnyH_take (i := 14) (oi := { dst := some 138, op := Op.move (Operand.tmp 15), type := 44, pos := "law.go:63", after := #[{ on := 13, ground := Ground.guard }], guard := some (13, false) }) (v := ?vk141) rfl (by kernel_rfl) (by kernel_rfl) (by kernel_rfl) (fun _ _ _ h => h) (Or.inl ⟨by rfl, ?hk141⟩) (S32e.old U138 SQ.out) ?rk141
          case hk141 => (intro wz hSw; (try dsimp only at hSw); go_simp; try with_reducible rfl)
          (try simp only [Act.put]); (try simp only [List.setIfInBounds_toArray]); (try simp only [List.set_cons_succ]); (try simp only [List.set_cons_zero])
          refine wpAnyH_take (i := 15) (oi := { dst := some 139, op := Op.move (Operand.tmp 17), type := 3, pos := "law.go:63", after := #[{ on := 13, ground := Ground.guard }], guard := some (13, false) }) (v := ?vk142) rfl (by kernel_rfl) (by kernel_rfl) (by kernel_rfl) (fun _ _ _ h => h) (Or.inl ⟨by rfl, ?hk142⟩) (S32e.old U138 SQ.out) ?rk142
          case hk142 => (intro wz hSw; (try dsimp only at hSw); go_simp; try with_reducible rfl)
          (try simp only [Act.put]); (try simp only [List.setIfInBounds_toArray]); (try simp only [List.set_cons_succ]); (try simp only [List.set_cons_zero])
          refine wpAnyH_take (i := 16) (oi := { dst := some 140, op := Op.indexAddr 44 (Operand.tmp 138) (Operand.tmp 139), type := 0, pos := "law.go:63", after := #[{ on := 14, ground := Ground.data }, { on := 15, ground := Ground.data }, { on := 13, ground := Ground.guard }], guard := some (13, false) }) (v := ?vk143) rfl (by kernel_rfl) (by kernel_rfl) (by kernel_rfl) (fun _ _ _ h => h) (Or.inl ⟨by rfl, ?hk143⟩) (S32e.old U138 SQ.out) ?rk143
          case hk143 => (intro wz hSw; (try dsimp only at hSw); go_simp; try with_reducible rfl)
          (try simp only [Act.put]); (try simp only [List.setIfInBounds_toArray]); (try simp only [List.set_cons_succ]); (try simp only [List.set_cons_zero])
          refine wpAnyH_take (i := 17) (oi := { dst := some 141, op := Op.fieldAddr 49 (Operand.tmp 140) 1, type := 0, pos := "law.go:63", after := #[{ on := 16, ground := Ground.data }, { on := 13, ground := Ground.guard }], guard := some (13, false) }) (v := ?vk144) rfl (by kernel_rfl) (by kernel_rfl) (by kernel_rfl) (fun _ _ _ h => h) (Or.inl ⟨by rfl, ?hk144⟩) (S32e.old U138 SQ.out) ?rk144
          case hk144 => (intro wz hSw; (try dsimp only at hSw); go_simp; try with_reducible rfl)
          (try simp only [Act.put]); (try simp only [List.setIfInBounds_toArray]); (try simp only [List.set_cons_succ]); (try simp only [List.set_cons_zero])
          refine wpAnyH_take (i := 18) (oi := { dst := some 142, op := Op.load 2 (Operand.tmp 141), type := 2, pos := "law.go:63", after := #[{ on := 17, ground := Ground.data }, { on := 13, ground := Ground.guard }], guard := some (13, false) }) (v := ?vk145) rfl (by kernel_rfl) (by kernel_rfl) (by kernel_rfl) (fun _ _ _ h => h) (Or.inl ⟨by rfl, ?hk145⟩) (S32e.old U138 SQ.out) ?rk145
          case hk145 => (intro wz hSw; (try dsimp only at hSw); go_simp; try with_reducible rfl)
          (try simp only [Act.put]); (try simp only [List.setIfInBounds_toArray]); (try simp only [List.set_cons_succ]); (try simp only [List.set_cons_zero])
          refine wpAnyH_take (i := 19) (oi := { dst := some 143, op := Op.move (Operand.tmp 16), type := 27, pos := "law.go:63", after := #[{ on := 13, ground := Ground.guard }], guard := some (13, false) }) (v := ?vk146) rfl (by kernel_rfl) (by kernel_rfl) (by kernel_rfl) (fun _ _ _ h => h) (Or.inl ⟨by rfl, ?hk146⟩) (S32e.old U138 SQ.out) ?rk146
          case hk146 => (intro wz hSw; (try dsimp only at hSw); go_simp; try with_reducible rfl)
          (try simp only [Act.put]); (try simp only [List.setIfInBounds_toArray]); (try simp only [List.set_cons_succ]); (try simp only [List.set_cons_zero])
          refine wpAnyH_take (i := 20) (oi := { dst := some 144, op := Op.move (Operand.tmp 17), type := 3, pos := "law.go:63", after := #[{ on := 13, ground := Ground.guard }], guard := some (13, false) }) (v := ?vk147) rfl (by kernel_rfl) (by kernel_rfl) (by kernel_rfl) (fun _ _ _ h => h) (Or.inl ⟨by rfl, ?hk147⟩) (S32e.old U138 SQ.out) ?rk147
          case hk147 => (intro wz hSw; (try dsimp only at hSw); go_simp; try with_reducible rfl)
          (try simp only [Act.put]); (try simp only [List.setIfInBounds_toArray]); (try simp only [List.set_cons_succ]); (try simp only [List.set_cons_zero])
          refine wpAnyH_take (i := 21) (oi := { dst := some 145, op := Op.indexAddr 27 (Operand.tmp 143) (Operand.tmp 144), type := 0, pos := "law.go:63", after := #[{ on := 19, ground := Ground.data }, { on := 20, ground := Ground.data }, { on := 13, ground := Ground.guard }], guard := some (13, false) }) (v := ?vk148) rfl (by kernel_rfl) (by kernel_rfl) (by kernel_rfl) (fun _ _ _ h => h) (Or.inl ⟨by rfl, ?hk148⟩) (S32e.old U138 SQ.out) ?rk148
          case hk148 => (intro wz hSw; (try dsimp only at hSw); go_simp; try with_reducible rfl)
          (try simp only [Act.put]); (try simp only [List.setIfInBounds_toArray]); (try simp only [List.set_cons_succ]); (try simp only [List.set_cons_zero])
          refine wpAnyH_take (i := 22) (oi := { dst := some 146, op := Op.fieldAddr 55 (Operand.tmp 145) 1, type := 0, pos := "law.go:63", after := #[{ on := 21, ground := Ground.data }, { on := 13, ground := Ground.guard }], guard := some (13, false) }) (v := ?vk149) rfl (by kernel_rfl) (by kernel_rfl) (by kernel_rfl) (fun _ _ _ h => h) (Or.inl ⟨by rfl, ?hk149⟩) (S32e.old U138 SQ.out) ?rk149
          case hk149 => (intro wz hSw; (try dsimp only at hSw); go_simp; try with_reducible rfl)
          (try simp only [Act.put]); (try simp only [List.setIfInBounds_toArray]); (try simp only [List.set_cons_succ]); (try simp only [List.set_cons_zero])
          refine wpAnyH_take (i := 23) (oi := { dst := some 147, op := Op.load 2 (Operand.tmp 146), type := 2, pos := "law.go:63", after := #[{ on := 22, ground := Ground.data }, { on := 13, ground := Ground.guard }], guard := some (13, false) }) (v := ?vk150) rfl (by kernel_rfl) (by kernel_rfl) (by kernel_rfl) (fun _ _ _ h => h) (Or.inl ⟨by rfl, ?hk150⟩) (S32e.old U138 SQ.out) ?rk150
          case hk150 => (intro wz hSw; (try dsimp only at hSw); go_simp; try with_reducible rfl)
          (try simp only [Act.put]); (try simp only [List.setIfInBounds_toArray]); (try simp only [List.set_cons_succ]); (try simp only [List.set_cons_zero])
          refine wpAnyH_take (i := 24) (oi := { dst := some 148, op := Op.binOp BinOp.neq 2 (Operand.tmp 142) (Operand.tmp 147) 2, type := 4, pos := "law.go:63", after := #[{ on := 18, ground := Ground.data }, { on := 23, ground := Ground.data }, { on := 13, ground := Ground.guard }], guard := some (13, false) }) (v := ?vk151) rfl (by kernel_rfl) (by kernel_rfl) (by kernel_rfl) (fun _ _ _ h => h) (Or.inl ⟨by rfl, ?hk151⟩) (S32e.old U138 SQ.out) ?rk151
          case hk151 => (intro wz hSw; (try dsimp only at hSw); go_simp; try with_reducible rfl)
          (try simp only [Act.put]); (try simp only [List.setIfInBounds_toArray]); (try simp only [List.set_cons_succ]); (try simp only [List.set_cons_zero])
          refine wpAnyH_take (i := 25) (oi := { dst := some 149, op := Op.pick (Operand.tmp 137) (Operand.const (Value.bool true)) (Operand.tmp 148), type := 4, pos := "law.go:63", after := #[{ on := 13, ground := Ground.data }, { on := 24, ground := Ground.data }], guard := none }) (v := ?vk152) rfl (by kernel_rfl) (by kernel_rfl) (by kernel_rfl) (fun _ _ _ h => h) (Or.inl ⟨by rfl, ?hk152⟩) (S32e.old U138 SQ.out) ?rk152
          case hk152 => (intro wz hSw; (try dsimp only at hSw); go_simp; try with_reducible rfl)
          (try simp only [Act.put]); (try simp only [List.setIfInBounds_toArray]); (try simp only [List.set_cons_succ]); (try simp only [List.set_cons_zero])
          refine wpAnyH_done (by kernel_rfl) ?_ _
          refine NoPanic.normal ?_
          have U9 := hid U138
          obtain ⟨⟨c0, c1', c2', c3', c4'⟩, d0, d1, d2⟩ := S32e.old U9.out SQ.out
          have hf2 := U9.out.keepF (S32e.old (Old.refl wr) SQ.out).1.2.2.2.2 hf1
          clear hf1
          have HV9 := hid U9.out
          clear U9 HSp HSs
          generalize x138 = w9 at *
          go_wp2
          go_roundw
          case rel =>
            refine ⟨j + 1, hjt, by go_num, fun _ => ⟨g, _, rfl, HG12.out.1, HG12.out.2, fun i h1 h2 => ?_, fun i h1 h2 => ?_⟩, ?_, ?_⟩
            · obtain ⟨e0, e1, e2, e3, e4⟩ := (HI2.out i (by omega) h2).old HV9.out
              exact ⟨by rw [World.cell?_setCell_other _ _ _ _ (by simp <;> omega)]; exact e0, by rw [World.cell?_setCell_other _ _ _ _ (by simp <;> omega)]; exact e1, by rw [World.cell?_setCell_other _ _ _ _ (by simp <;> omega)]; exact e2, by rw [World.cell?_setCell_other _ _ _ _ (by simp <;> omega)]; exact e3, by rw [World.cell?_setCell_other _ _ _ _ (by simp <;> omega)]; exact e4⟩
            · rw [World.frozen?_setCell]; exact HV9.out.keepF (HI2.out i (by omega) h2).2.2.2.2 (HF2.out i (by omega) h2)
            · exact (HBq.out.old HV9.out).set _ _ HG12.out.2
            · exact (HUq.out.trans HV9.out).setCell HG12.out.1 _
          case measure => simp [intOf]; omega
        · obtain rfl : j = n := by omega
          have SBq := hid (SB.old HUq.out HB0.out)
          have HQ1 := hid (fun (W : World) (u : Old wr W) => HK1.out W (HUq.out.trans u))
          have HQ2 := hid (fun (W : World) (u : Old wr W) => HK2.out W (HUq.out.trans u))
          clear HK1 HK2 HA HBq
          go_upto_region 36 with fail
          refine wp_region_noPanic ?_
          refine wp_region_held_drew (S := SB mb most a j c) (by kernel_rfl) ?_ (fun hHeld => ?_)
          · exact SB.old ((Old.refl _).drew) SBq.out
          (try simp only [Act.put]); (try simp only [List.setIfInBounds_toArray]); (try simp only [List.set_cons_succ]); (try simp only [List.set_cons_zero])
          clear hHeld
          refine wpAnyH_take (i := 0) (oi := { dst := some 155, op := Op.move (Operand.tmp 7), type := 24, pos := "law.go:68", after := #[], guard := none }) (v := ?vk153) rfl (by kernel_rfl) (by kernel_rfl) (by kernel_rfl) (fun _ _ _ h => h) (Or.inl ⟨by rfl, ?hk153⟩) (SB.old ((Old.refl wr).drew) SBq.out) ?rk153
          case hk153 => (intro wz hSw; (try dsimp only at hSw); go_simp; try with_reducible rfl)
          (try simp only [Act.put]); (try simp only [List.setIfInBounds_toArray]); (try simp only [List.set_cons_succ]); (try simp only [List.set_cons_zero])
          refine wpAnyH_take (i := 1) (oi := { dst := some 156, op := Op.move (Operand.tmp 2), type := 23, pos := "law.go:68", after := #[], guard := none }) (v := ?vk154) rfl (by kernel_rfl) (by kernel_rfl) (by kernel_rfl) (fun _ _ _ h => h) (Or.inl ⟨by rfl, ?hk154⟩) (SB.old ((Old.refl wr).drew) SBq.out) ?rk154
          case hk154 => (intro wz hSw; (try dsimp only at hSw); go_simp; try with_reducible rfl)
          (try simp only [Act.put]); (try simp only [List.setIfInBounds_toArray]); (try simp only [List.set_cons_succ]); (try simp only [List.set_cons_zero])
          refine wpAnyH_take (i := 3) (oi := { dst := some 158, op := Op.load 29 (Operand.tmp 8), type := 29, pos := "law.go:68", after := #[], guard := none }) (v := ?vk155) rfl (by kernel_rfl) (by kernel_rfl) (by kernel_rfl) (fun _ _ _ h => h) (Or.inl ⟨by rfl, ?hk155⟩) (SB.old ((Old.refl wr).drew) SBq.out) ?rk155
          case hk155 => (intro wz hSw; (try dsimp only at hSw); go_simp; try with_reducible rfl)
          (try simp only [Act.put]); (try simp only [List.setIfInBounds_toArray]); (try simp only [List.set_cons_succ]); (try simp only [List.set_cons_zero])
          refine wpAnyH_take (i := 4) (oi := { dst := some 159, op := Op.move (Operand.tmp 2), type := 23, pos := "law.go:68", after := #[], guard := none }) (v := ?vk156) rfl (by kernel_rfl) (by kernel_rfl) (by kernel_rfl) (fun _ _ _ h => h) (Or.inl ⟨by rfl, ?hk156⟩) (SB.old ((Old.refl wr).drew) SBq.out) ?rk156
          case hk156 => (intro wz hSw; (try dsimp only at hSw); go_simp; try with_reducible rfl)
          (try simp only [Act.put]); (try simp only [List.setIfInBounds_toArray]); (try simp only [List.set_cons_succ]); (try simp only [List.set_cons_zero])
          refine wpAnyH_ready (rs := [2]) (by kernel_rfl) (by simp) ?_
          refine AllReadyH.cons (o := { dst := some 157, op := Op.call { callee := Callee.value (Operand.func 13), args := #[Operand.tmp 155, Operand.tmp 156], argTypes := #[24, 23] }, type := 2, pos := "law.go:68", after := #[{ on := 0, ground := Ground.data }, { on := 1, ground := Ground.data }], guard := none }) rfl (fun K hK => ?_) AllReadyH.nil
          refine wantCall2 ?_ 13 (.tmp 155) (.tmp 156) #[24, 23] ?_ (.pointer (some ⟨tb, 0, none⟩)) (.float .f64 key) ?_ ?_ ?_ (ent_pat _ _) ?_
          · rfl
          · rfl
          · rfl
          · rfl
          · rfl
          refine (HQ1.out _ ((Old.refl wr).drew)).mono ?_
          rintro o x157 ⟨rfl, b157⟩
          refine ⟨_, rfl, ?_⟩
          have U157 := ((Old.refl wr).drew).trans b157
          refine hK.out _ _ (SB.old U157 SBq.out) (fun _ => ?_)
          clear hK K
          (try simp only [Act.put]); (try simp only [List.setIfInBounds_toArray]); (try simp only [List.set_cons_succ]); (try simp only [List.set_cons_zero])
          refine wpAnyH_ready (rs := [5]) (by kernel_rfl) (by simp) ?_
          refine AllReadyH.cons (o := { dst := some 160, op := Op.call { callee := Callee.value (Operand.func 14), args := #[Operand.tmp 158, Operand.tmp 159], argTypes := #[29, 23] }, type := 2, pos := "law.go:68", after := #[{ on := 3, ground := Ground.data }, { on := 4, ground := Ground.data }, { on := 2, ground := Ground.chain }], guard := none }) rfl (fun K hK => ?_) AllReadyH.nil
          refine wantCall2 ?_ 14 (.tmp 158) (.tmp 159) #[29, 23] ?_ (.agg #[.int .i64 most, .slice a j c]) (.float .f64 key) ?_ ?_ ?_ (ent_rat _ _) ?_
          · rfl
          · rfl
          · rfl
          · rfl
          · rfl
          refine (HQ2.out _ U157).mono ?_
          rintro o x158 ⟨rfl, b158⟩
          refine ⟨_, rfl, ?_⟩
          have U158 := U157.trans b158
          refine hK.out _ _ (SB.old U158 SBq.out) (fun _ => ?_)
          clear hK K
          (try simp only [Act.put]); (try simp only [List.setIfInBounds_toArray]); (try simp only [List.set_cons_succ]); (try simp only [List.set_cons_zero])
          refine wpAnyH_take (i := 6) (oi := { dst := some 161, op := Op.binOp BinOp.eql 2 (Operand.tmp 157) (Operand.tmp 160) 2, type := 4, pos := "law.go:68", after := #[{ on := 2, ground := Ground.data }, { on := 5, ground := Ground.data }], guard := none }) (v := ?vk159) rfl (by kernel_rfl) (by kernel_rfl) (by kernel_rfl) (fun _ _ _ h => h) (Or.inl ⟨by rfl, ?hk159⟩) (SB.old U158 SBq.out) ?rk159
          case hk159 => (intro wz hSw; (try dsimp only at hSw); go_simp; try with_reducible rfl)
          (try simp only [Act.put]); (try simp only [List.setIfInBounds_toArray]); (try simp only [List.set_cons_succ]); (try simp only [List.set_cons_zero])
          refine wpAnyH_ready (rs := [7]) (by kernel_rfl) (by simp) ?_
          refine AllReadyH.cons (o := { dst := some 6, op := Op.assign (Operand.tmp 161), type := 4, pos := "law.go:68", after := #[{ on := 6, ground := Ground.data }, { on := 5, ground := Ground.chain }, { on := 0, ground := Ground.phase }, { on := 1, ground := Ground.phase }, { on := 2, ground := Ground.phase }, { on := 3, ground := Ground.phase }, { on := 4, ground := Ground.phase }, { on := 5, ground := Ground.phase }, { on := 6, ground := Ground.phase }], guard := none }) rfl (fun K hK => ?_) AllReadyH.nil
          go_simp
          refine hK.out _ _ (SB.old U158 SBq.out) (fun _ => ?_)
          clear hK K
          (try simp only [Act.put]); (try simp only [List.setIfInBounds_toArray]); (try simp only [List.set_cons_succ]); (try simp only [List.set_cons_zero])
          refine wpAnyH_done (by kernel_rfl) ?_ _
          refine NoPanic.normal ?_
          have U9 := hid U158
          go_wp2
          go_ret
          exact ⟨rfl, (HOldw.out.trans HUq.out).trans U9.out⟩
end Go.Proofs.Ytodoogcllahfgaa
