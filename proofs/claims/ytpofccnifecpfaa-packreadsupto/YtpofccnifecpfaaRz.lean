/- The walk of PackReads; conditions: at most 1048576 kinds. -/
import Derived.Test.YtpofccnifecpfaaRq
import Derived.Test.YtpofccnifecpfaaSw
import Derived.Test.YtpofccnifecpfaaRg2
namespace Go.Proofs.Ytpofccnifecpfaa
open Go.RowKit
set_option linter.unusedVariables false
attribute [local go_sem] run_bits run_frombits run_store_float
/-- Two values that are read from the same bytes are the same. -/
theorem IsV.same {q : Int} {x : Nat → Nat} {n : Nat} {p p' : PV} (hq : 1 ≤ q ∧ q ≤ 4) (h : IsV q x n p) (h' : IsV q x n p') : SameP p p' := by
  have e1 := h.ebn
  have e2 := h'.ebn
  refine ⟨by rw [h.ek]; exact hq, by rw [h.ek, h'.ek], fun _ => by rw [h.en, h'.en], fun _ => by rw [h.ex, h'.ex], fun _ => ⟨by rw [e1, e2], fun i hi => ?_⟩, fun _ => by rw [h.eon, h'.eon]⟩
  rw [h.ebx i hi, h'.ebx i (by rw [e2, ← e1]; exact hi)]
/-- What the law's own Read leaves. -/
def ReadsOut (G n m : Nat) (x : Nat → Nat) (ks : Nat → Int) (e : Ending) (W : World) : Prop :=
  (¬ unk ks m ∧ (∀ i, i < m → vKat ks x n i ≠ 0) ∧ e = .returned (.int .i64 (if pos ks x n m < n then 30 else 0)) ∧ W.cell? ⟨G + 2, 0, none⟩ = some (.bool true) ∧ ∃ va vc f, W.cell? ⟨G + 1, 0, none⟩ = some (.slice va m vc) ∧ SVs W va m f ∧ ∀ j, j < m → IsVat ks x n j (f j)) ∨
  (∃ cd : Int, e = .returned (.int .i64 cd) ∧ ((cd = 1 ∧ unk ks m) ∨ (cd = 30 ∧ ∃ i, i < m ∧ vKat ks x n i = 0)) ∧ W.cell? ⟨G + 2, 0, none⟩ = some (.bool false))
set_option maxHeartbeats 1000000 in
theorem readsread_any (a : Option Addr) (n c m kc A : Nat) (ka : Option Addr) (x : Nat → Nat) (ks : Nat → Int) (u : World) (hv : ByRow u (.slice a n c) n x) (hka : KAt u ka m ks) (hm : m ≤ 1048576) (tk tv te : TypeId) (hA : u.heap[A]? = some (.cells #[.slice ka m kc] tk (0, 0))) :
    Calls Try.prog 15 #[.slice a n c, .func (.func 16) #[] #[.pointer (some ⟨A, 0, none⟩), .pointer (some ⟨u.heap.size + 1, 0, none⟩), .pointer (some ⟨u.heap.size + 2, 0, none⟩)]] (((u.alloc (.cells #[] 35)).alloc (.cells #[.slice (some ⟨u.heap.size, 0, none⟩) 0 0] tv)).alloc (.cells #[.bool false] te)) fun e W4 => ReadsOut u.heap.size n m x ks e W4 ∧ Up u W4 := by
  have hAl := lt_of_block hA
  have hup : Up u (((u.alloc (.cells #[] 35)).alloc (.cells #[.slice (some ⟨u.heap.size, 0, none⟩) 0 0] tv)).alloc (.cells #[.bool false] te)) := (((Up.refl u).alloc _).alloc _).alloc _
  have hsz : (((u.alloc (.cells #[] 35)).alloc (.cells #[.slice (some ⟨u.heap.size, 0, none⟩) 0 0] tv)).alloc (.cells #[.bool false] te)).heap.size = u.heap.size + 3 := by simp
  have hg0 : (((u.alloc (.cells #[] 35)).alloc (.cells #[.slice (some ⟨u.heap.size, 0, none⟩) 0 0] tv)).alloc (.cells #[.bool false] te)).heap[u.heap.size]? = some (.cells #[] 35 (0, 0)) := by rw [Below.heap_alloc _ _ _ (by simp; omega), Below.heap_alloc _ _ _ (by simp)]; exact heap_new _ _
  have hv0 : (((u.alloc (.cells #[] 35)).alloc (.cells #[.slice (some ⟨u.heap.size, 0, none⟩) 0 0] tv)).alloc (.cells #[.bool false] te)).heap[u.heap.size + 1]? = some (.cells #[.slice (some ⟨u.heap.size, 0, none⟩) 0 0] tv (0, 0)) := by
    rw [Below.heap_alloc _ _ _ (by simp)]
    have := heap_new (u.alloc (.cells #[] 35)) (.cells #[.slice (some ⟨u.heap.size, 0, none⟩) 0 0] tv)
    rw [show (u.alloc (.cells #[] 35)).heap.size = u.heap.size + 1 by simp] at this
    exact this
  have he0 : (((u.alloc (.cells #[] 35)).alloc (.cells #[.slice (some ⟨u.heap.size, 0, none⟩) 0 0] tv)).alloc (.cells #[.bool false] te)).heap[u.heap.size + 2]? = some (.cells #[.bool false] te (0, 0)) := by
    have := heap_new ((u.alloc (.cells #[] 35)).alloc (.cells #[.slice (some ⟨u.heap.size, 0, none⟩) 0 0] tv)) (.cells #[.bool false] te)
    rw [show ((u.alloc (.cells #[] 35)).alloc (.cells #[.slice (some ⟨u.heap.size, 0, none⟩) 0 0] tv)).heap.size = u.heap.size + 2 by simp] at this
    exact this
  generalize (((u.alloc (.cells #[] 35)).alloc (.cells #[.slice (some ⟨u.heap.size, 0, none⟩) 0 0] tv)).alloc (.cells #[.bool false] te)) = W0 at *
  have hop := opened_up W0 (.slice a n c)
  have hos := opened_size W0 (.slice a n c)
  obtain ⟨b0, hb0, hbl⟩ : ∃ b0, (n = 0 ∨ (Value.slice a n c).ownBlock = some b0) ∧ b0 < u.heap.size := by
    by_cases hz : n = 0
    · exact ⟨A, .inl hz, hAl⟩
    · obtain ⟨b, off, cap, e, hc, _⟩ := hv.cells (by omega)
      refine ⟨b, .inr (by rw [e]; rfl), ?_⟩
      have := World.block_lt_of_cell? u _ (hc 0 (by omega)).2
      simp at this; omega
  have hrb : RB (opened W0 (.slice a n c)) (W0.heap.size + 1) b0 n x := ⟨_, opened_R W0 _, (hv.up hup).up hop, hb0⟩
  refine (read_of2 16 _ enter_reads1 W0 a n c [u.heap.size, u.heap.size + 1, u.heap.size + 2] (fun k hk => by simp at hk; omega) (fun W k => k = n - pos ks x n m ∧ ∃ v f wz, GT (opened W0 (.slice a n c)) (W0.heap.size + 1) (u.heap.size + 1) b0 u.heap.size n x ks tv m v f wz ∧ W = wz.setCell ⟨u.heap.size + 2, 0, none⟩ (.bool true)) (fun W cd => ((cd = 1 ∧ unk ks m) ∨ (cd = 30 ∧ ∃ i, i < m ∧ vKat ks x n i = 0)) ∧ W.heap[u.heap.size + 2]? = some (.cells #[.bool false] te (0, 0))) ?_).mono ?_
  · refine (reads1_any (W0.heap.size + 1) A (u.heap.size + 1) (u.heap.size + 2) b0 u.heap.size n m kc ka tk tv te x ks _ hrb hm ((hop.block _ (by omega)).trans ((hup.block _ hAl).trans hA)) ((hka.up hup).up hop) (fun b off h0 hb => ?_) ((hop.block _ (by omega)).trans hv0) ((hop.block _ (by omega)).trans he0) ((hop.block _ (by omega)).trans hg0) (by omega) (by omega) (by omega) (by omega) (by omega) (by omega) (by omega) (by omega) (by omega) (by omega)).mono ?_
    · obtain ⟨b', off', e', hc'⟩ := hka 0 h0
      rw [hb] at e'; cases e'
      have := World.block_lt_of_cell? u _ hc'
      simp at this; omega
    · rintro e W2 (⟨rfl, v, f, wz, G, rfl⟩ | ⟨rfl, cd, h1, h2, h3⟩)
      · refine ⟨(G.chg.mono (fun i hi => by simp at hi ⊢; omega)).trans (Chg.set _ _ _ (by simp)), .inl ⟨rfl, n - pos ks x n m, ?_, rfl, v, f, wz, G, rfl⟩⟩
        obtain ⟨uu, hr, hu, _⟩ := G.rb
        obtain ⟨ua, uc, rfl⟩ := hu.slice
        exact ⟨ua, uc, hr.set _ _ (by simp; omega)⟩
      · refine ⟨h3.mono (fun i hi => by simp at hi ⊢; omega), .inr ⟨rfl, cd, ?_, h2, h1, ?_⟩⟩
        · rcases h1 with ⟨h, _⟩ | ⟨h, _⟩ <;> omega
        · exact (h3.block _ (by omega) (by simp; omega)).trans ((hop.block _ (by omega)).trans he0)
  · rintro e W4 ⟨hc, W2, hb, ⟨k, ⟨rfl, v, f, wz, G, rfl⟩, rfl⟩ | ⟨cd, ⟨h1, h2⟩, rfl⟩⟩
    · have hple := pos_le ks x n m
      refine ⟨.inl ⟨?_, fun i hi => (G.each i hi).1, ?_, ?_, ?_⟩, Below.trans hup (hc.below _ (fun k hk => by simp at hk; omega) (by omega))⟩
      · rintro ⟨i, hi, h⟩
        have := (G.each i hi).2.1
        omega
      · by_cases hp : pos ks x n m < n
        · rw [if_pos hp, if_pos (by omega)]
        · rw [if_neg hp, if_neg (by omega)]
      · have hbe : wz.heap[u.heap.size + 2]? = some (.cells #[.bool false] te (0, 0)) := (G.chg.block _ (by omega) (by simp; omega)).trans ((hop.block _ (by omega)).trans he0)
        have h5 := one_setCell (u := .bool true) hbe
        exact cell_of_one ((hb.block _ (lt_of_block h5) (by simp; omega)).trans h5)
      · obtain ⟨va, vc, rfl, hs⟩ := G.own.shape
        have hbv : (wz.setCell ⟨u.heap.size + 2, 0, none⟩ (.bool true)).heap[u.heap.size + 1]? = some (.cells #[.slice va m vc] tv (0, 0)) := (Below.heap_setCell _ _ _ _ (by simp)).trans G.var
        have cz : Chg [u.heap.size + 2, W0.heap.size, W0.heap.size + 1] wz W4 := (Chg.set wz ⟨u.heap.size + 2, 0, none⟩ (.bool true) (by simp)).trans (hb.mono (fun i hi => by simp at hi ⊢; omega))
        refine ⟨va, vc, f, cell_of_one ((hb.block _ (lt_of_block hbv) (by simp; omega)).trans hbv), fun i hi => ?_, fun j hj => (G.each j hj).2.2.1⟩
        obtain ⟨b, off, rfl, hat⟩ := hs i hi
        obtain ⟨_, _, _, e3, e4⟩ := G.each i hi
        refine ⟨b, off, rfl, ?_, e3.chg cz ?_⟩
        · have hbn : b ∉ [u.heap.size + 2, W0.heap.size, W0.heap.size + 1] := by
            have hob := G.ob b rfl
            simp; omega
          exact ⟨cz.cell hat.c0 hbn, cz.cell hat.c1 hbn, cz.cell hat.c2 hbn, cz.cell hat.c3 hbn, cz.cell hat.c4 hbn⟩
        · rcases e4 with h | ⟨g, h1, h2, h3⟩
          · exact .inl h
          · right; intro b' hb2; rw [h1] at hb2; cases hb2; simp; omega
    · refine ⟨.inr ⟨cd, rfl, h1, ?_⟩, Below.trans hup (hc.below _ (fun k hk => by simp at hk; omega) (by omega))⟩
      exact cell_of_one ((hb.block _ (lt_of_block h2) (by simp; omega)).trans h2)
set_option maxHeartbeats 4000000 in
theorem reads_walk (v0 : Value) (n : Nat) (x : Nat → Nat) (v1 : Value) (m : Nat) (ks : Nat → Int) (w : World) (w0 : ByRow w v0 n x) (w1 : KRow w v1 m ks) (b1 : m ≤ 1048576) :
    Calls Try.prog 5 #[v0, v1] w fun e w' => e = .returned (.bool true) ∧ Up w w' := by
  have hmf : ∀ (fn : Fn) (first cap : Array Value) (w : World), (Instr.makeFunc fn first cap).run Try.prog w = .ok (.func fn first cap) w := fun _ _ _ _ => rfl
  obtain ⟨a, c, rfl⟩ := w0.slice
  obtain ⟨ka, kc, rfl, hka⟩ := w1
  have HG := hid (fun (W : World) (hW : Up w W) => get_any a n c m kc ka x ks W (w0.up hW) (hka.up hW) (by omega))
  have HR := hid (fun (W : World) (hW : Up w W) (tk tv te : TypeId) (hA : W.heap[w.heap.size]? = some (.cells #[.slice ka m kc] tk (0, 0))) => readsread_any a n c m kc w.heap.size ka x ks W (w0.up hW) (hka.up hW) b1 tk tv te hA)
  clear w0 hka
  go_enter Try.func5, Try.ntmps5
  go_wp2_with (first | (go_at_call 14; refine (reading_any _).mono ?_; rintro e u1 ⟨rfl, h1⟩; have U1 := hid h1; clear h1) | (go_at_call 8; refine (getting_any _).mono ?_; rintro e u2 ⟨rfl, h2⟩; have U2 := hid (Up.trans U1.out h2); clear h2) | (go_at_call 15; fail))
  have hA : Hid (u2.heap[w.heap.size]? = some (.cells #[.slice ka m kc] 23 (0, 0))) := (U2.out.block _ (by simp)).trans (heap_new _ _)
  have UW := hid (Up.trans ((Up.refl w).alloc (.cells #[.slice ka m kc] 23)) U2.out)
  refine (HR.out u2 UW.out _ _ _ hA.out).mono ?_
  rintro e W4 ⟨hro, u4⟩
  have hk4 : W4.cell? ⟨w.heap.size, 0, none⟩ = some (.slice ka m kc) := cell_of_one ((u4.block _ (lt_of_block hA.out)).trans hA.out)
  have U4 := hid (Up.trans UW.out u4)
  clear HR hA U1 U2 u4
  rcases hro with ⟨hun, hvk, rfl, hbe, va, vc, f, hbv, hs, hf⟩ | ⟨cd, rfl, hcd, hbe⟩
  · by_cases hp : pos ks x n m < n
    · rw [if_pos hp]
      have HVK := hid hvk
      have HUN := hid hun
      have HP := hid hp
      clear hvk hun hs hf hp
      go_wp2_with (go_at_call 9; fail)
      refine (HG.out _ U4.out).mono ?_
      rintro e w5 ⟨hgo, u5⟩
      have e5 : e = .returned (.tuple #[.slice none 0 0, .int .i64 30]) := by
        rcases hgo with ⟨h, _⟩ | ⟨_, _, h, _⟩ | ⟨_, _, h⟩
        · exact absurd h HUN.out
        · have := HP.out; omega
        · exact h
      subst e5
      have c1 := u5.keep hbe
      have c2 := u5.keep hbv
      have c3 := u5.keep hk4
      clear hgo HG hbe hbv hk4
      go_wp2
      go_ret
      exact ⟨rfl, Up.trans U4.out u5⟩
    · rw [if_neg hp]
      have HVK := hid hvk
      have HUN := hid hun
      have hpn : pos ks x n m = n := by have := pos_le ks x n m; omega
      have HP := hid hpn
      have HS := hid hs
      have HF := hid hf
      clear hvk hun hs hf hp hpn
      go_wp2_with (go_at_call 9; fail)
      refine (HG.out _ U4.out).mono ?_
      rintro e w5 ⟨hgo, u5⟩
      have e5 : ∃ va' vc' f', e = .returned (.tuple #[.slice va' m vc', .int .i64 0]) ∧ SVs w5 va' m f' ∧ ∀ j, j < m → IsVat ks x n j (f' j) := by
        rcases hgo with ⟨h, _⟩ | ⟨_, _, _, v', f', h1, h2, h3⟩ | ⟨_, h, _⟩
        · exact absurd h HUN.out
        · obtain ⟨va', vc', rfl, h4⟩ := h2.shape
          exact ⟨va', vc', f', h1, fun i hi => by obtain ⟨b, off, q1, q2⟩ := h4 i hi; exact ⟨b, off, q1, q2, (h3 i hi).2.1⟩, fun j hj => (h3 j hj).1⟩
        · rcases h with ⟨i, hi, h⟩ | h
          · exact absurd h (HVK.out i hi)
          · have := HP.out; omega
      obtain ⟨va', vc', f', rfl, hs', hf'⟩ := e5
      have HS' := hid hs'
      have HQ : Hid (∀ i, i < m → SameP (f i) (f' i)) := fun i hi => IsV.same (by
        by_cases h : ks i < 1 ∨ 4 < ks i
        · exact absurd ⟨i, hi, h⟩ HUN.out
        · omega) (HF.out i hi) (hf' i hi)
      have c1 := u5.keep hbe
      have c2 := u5.keep hbv
      have c3 := u5.keep hk4
      have HS5 : Hid (SVs w5 va m f) := fun i hi => by obtain ⟨b, off, q1, q2, q3⟩ := HS.out i hi; exact ⟨b, off, q1, q2.up u5, q3.up u5⟩
      have F1 := hid (of_any va m vc f b1 w5 HS5.out)
      have F2 := hid (fun (W : World) (hW : Up w5 W) => of_any va' m vc' f' b1 W (fun i hi => by obtain ⟨b, off, q1, q2, q3⟩ := HS'.out i hi; exact ⟨b, off, q1, q2.up hW, q3.up hW⟩))
      have HSame := hid (fun (W : World) (hW : Up w5 W) (a1 a2 : Option Addr) (c1 c2 : Nat) (h1 : ∀ i, i < m → ∃ b off, a1 = some ⟨b, off, none⟩ ∧ PV.At W b (off + i * 5) (f i)) (h2 : ∀ i, i < m → ∃ b off, a2 = some ⟨b, off, none⟩ ∧ PV.At W b (off + i * 5) (f' i)) => sameRows a1 a2 m c1 c2 f f' b1 W (fun i hi => by obtain ⟨b, off, q1, q2⟩ := h1 i hi; obtain ⟨_, _, _, _, q3⟩ := HS5.out i hi; exact ⟨b, off, q1, q2, q3.up hW⟩) (fun i hi => by obtain ⟨b, off, q1, q2⟩ := h2 i hi; obtain ⟨_, _, _, _, q3⟩ := HS'.out i hi; exact ⟨b, off, q1, q2, q3.up hW⟩) HQ.out)
      have U5 := hid (Up.trans U4.out u5)
      clear hgo HG hbe hbv hk4 hs' hf' HS HS' HF HQ HVK HUN HP HS5 u5
      go_wp2_with (first | (go_at_call_of 13 (Value.slice va m vc); refine F1.out.mono ?_; rintro e w11 ⟨v11, rfl, o11, u11⟩; have U11 := hid u11; have H11 := hid o11; clear u11 o11) | (go_at_call_of 13 (Value.slice va' m vc'); refine (F2.out _ U11.out).mono ?_; rintro e w12 ⟨v12, rfl, o12, u12⟩; have U12 := hid (Up.trans U11.out u12); have H12 := hid (OwnR.up H11.out u12); obtain ⟨a12, c12, rfl, s12⟩ := o12.shape; obtain ⟨a11, c11, rfl, s11⟩ := H12.out.shape; have HSm := hid (HSame.out w12 U12.out a11 a12 c11 c12 s11 s12); clear u12 o12 s11 s12) | (go_at_call 12; refine HSm.out.mono ?_; rintro e w13 ⟨rfl, u13⟩; have U13 := hid (Up.trans U12.out u13); clear u13))
      go_ret
      exact ⟨rfl, Up.trans U5.out U13.out⟩
  · have HCD := hid hcd
    clear hcd
    go_wp2_with (go_at_call 9; fail)
    refine (HG.out _ U4.out).mono ?_
    rintro e w5 ⟨hgo, u5⟩
    have c1 := u5.keep hbe
    have c3 := u5.keep hk4
    have e5 : (e = .returned (.tuple #[.slice none 0 0, .int .i64 1]) ∧ (cd = 1 ∨ cd = 30)) ∨ (e = .returned (.tuple #[.slice none 0 0, .int .i64 30]) ∧ cd = 30) := by
      rcases HCD.out with ⟨h1, h2⟩ | ⟨h1, i, hi, h2⟩
      · rcases hgo with ⟨_, h⟩ | ⟨h, _⟩ | ⟨h, _⟩
        · exact .inl ⟨h, .inl h1⟩
        · exact absurd h2 h
        · exact absurd h2 h
      · rcases hgo with ⟨_, h⟩ | ⟨_, h, _⟩ | ⟨_, _, h⟩
        · exact .inl ⟨h, .inr h1⟩
        · exact absurd h2 (h i hi)
        · exact .inr ⟨h, h1⟩
    clear hgo HG hbe hk4 HCD
    rcases e5 with ⟨rfl, rfl | rfl⟩ | ⟨rfl, rfl⟩
    · go_wp2
      go_ret
      exact ⟨rfl, Up.trans U4.out u5⟩
    · go_wp2
      go_ret
      exact ⟨rfl, Up.trans U4.out u5⟩
    · go_wp2
      go_ret
      exact ⟨rfl, Up.trans U4.out u5⟩
end Go.Proofs.Ytpofccnifecpfaa
