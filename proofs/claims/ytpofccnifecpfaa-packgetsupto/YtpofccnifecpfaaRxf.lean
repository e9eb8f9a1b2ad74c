/- What pack.Get returns at any bytes and any row of kinds; conditions: the rows lie in memory, at most 4194304 kinds. -/
import Derived.Test.YtpofccnifecpfaaRwf
namespace Go.Proofs.Ytpofccnifecpfaa
open Go.RowKit
set_option linter.unusedVariables false
theorem KAt.up {w w' : World} {ka : Option Addr} {m : Nat} {ks : Nat → Int} (h : KAt w ka m ks) (u : Up w w') : KAt w' ka m ks := fun i hi => by
  obtain ⟨b, off, h1, h2⟩ := h i hi
  exact ⟨b, off, h1, u.keep h2⟩
theorem OwnV.mono {base b' : Nat} {w : World} {v : Value} {n : Nat} {f : Nat → PV} (h : OwnV base w v n f) (hb : b' ≤ base) : OwnV b' w v n f := by
  refine ⟨h.1, ?_⟩
  rcases h.2 with h | ⟨g, cap, cur, hv, hg, rest⟩
  · exact .inl h
  · exact .inr ⟨g, cap, cur, hv, Nat.le_trans hb hg, rest⟩
theorem OwnV.chg {S : List Nat} {base : Nat} {w w' : World} {v : Value} {n : Nat} {f : Nat → PV} (h : OwnV base w v n f) (c : Chg S w w') (hb : ∀ b, v.ownBlock = some b → b ∉ S) : OwnV base w' v n f := by
  have h0 := h
  refine ⟨h.1, ?_⟩
  rcases h.2 with h | ⟨g, cap, cur, hv, hg, hh, rest⟩
  · exact .inl h
  · refine .inr ⟨g, cap, cur, hv, hg, ?_, rest⟩
    have e : v.ownBlock = some g := by rw [hv]; rfl
    rw [c.block g (World.ownsRow.lt h0 g e).2 (hb g e)]
    exact hh
def unk (ks : Nat → Int) (m : Nat) : Prop := ∃ i, i < m ∧ (ks i < 1 ∨ 4 < ks i)
set_option maxHeartbeats 400000 in
theorem index_unk (m kc : Nat) (ka : Option Addr) (ks : Nat → Int) (hm : m ≤ 4194304) (w : World) (hka : KAt w ka m ks) :
    Calls Try.prog 43 #[.slice ka m kc, .func (.func 26) #[] #[]] w fun e w' => ∃ r : Int, e = .returned (.int .i64 r) ∧ (0 ≤ r ↔ unk ks m) ∧ w' = w := by
  have HK := hid hka
  clear hka
  go_enter Try.func43, Try.ntmps43
  go_wp2
  go_loop [8] (fun i => ∃ k : Nat, k ≤ m ∧ i = .int .i64 (k : Nat) ∧ ¬ unk ks k) (fun i => m - (intOf i).toNat)
  case atStart => exact ⟨0, Nat.zero_le _, rfl, fun ⟨i, h, _⟩ => by omega⟩
  case round =>
    obtain ⟨k, hk, rfl, h0⟩ := hrel
    by_cases hlt : k < m
    · obtain ⟨b, off, rfl, cx⟩ := HK.out k hlt
      have l1 : (0 : Int) ≤ (k : Int) := by omega
      have l2 : (k : Int) < (m : Int) := by omega
      have HU := hid (unknown_any (ks k) w)
      have H0 := hid h0
      clear h0
      by_cases hq : ks k < 1 ∨ 4 < ks k
      · rw [show decide (ks k < 1 ∨ 4 < ks k) = true by simpa using hq] at HU
        have HT : Hid (unk ks m) := ⟨k, hlt, hq⟩
        clear hq HK
        generalize ks k = q at *
        go_wp2_with (go_at_call 26; refine HU.out.mono ?_; rintro e w' ⟨rfl, hw⟩; have hw2 := hw.symm; subst hw2)
        go_ret
        exact ⟨_, rfl, ⟨fun _ => HT.out, fun _ => by omega⟩, rfl⟩
      · rw [show decide (ks k < 1 ∨ 4 < ks k) = false by simpa using hq] at HU
        have HT : Hid (¬ unk ks (k + 1)) := by
          rintro ⟨i, h1, h2⟩
          by_cases e : i = k
          · subst e; exact hq h2
          · exact H0.out ⟨i, by omega, h2⟩
        clear hq HK
        generalize ks k = q at *
        go_wp2_with (go_at_call 26; refine HU.out.mono ?_; rintro e w' ⟨rfl, hw⟩; have hw2 := hw.symm; subst hw2)
        go_round
        case rel => exact ⟨k + 1, hlt, by go_num, HT.out⟩
        case measure => simp [intOf]; omega
    · obtain rfl : k = m := by omega
      have H0 := hid h0
      clear h0
      go_wp2
      go_ret
      exact ⟨_, rfl, ⟨fun h => by omega, fun h => absurd h H0.out⟩, rfl⟩
set_option maxHeartbeats 400000 in
theorem contains_unk (m kc : Nat) (ka : Option Addr) (ks : Nat → Int) (hm : m ≤ 4194304) (B : Bool) (hB : B = true ↔ unk ks m) (w : World) (hka : KAt w ka m ks) :
    Calls Try.prog 25 #[.slice ka m kc, .func (.func 26) #[] #[]] w fun e w' => e = .returned (.bool B) ∧ w' = w := by
  have HI := hid (index_unk m kc ka ks hm w hka)
  have HB := hid hB
  clear hka hB
  go_enter Try.func25, Try.ntmps25
  go_wp2_with (go_at_call 43; refine HI.out.mono ?_; rintro e w' ⟨r, rfl, hr, hw⟩; have hw2 := hw.symm; subst hw2; have HR := hid hr; clear hr)
  go_ret
  refine ⟨ret_b ?_, rfl⟩
  rw [Bool.eq_iff_iff, HB.out, ← HR.out]; simp
/-- What Get answers. -/
def GetOut (w : World) (n m : Nat) (x : Nat → Nat) (ks : Nat → Int) (e : Ending) (w' : World) : Prop :=
  (unk ks m ∧ e = .returned (.tuple #[.slice none 0 0, .int .i64 1])) ∨
  (¬ unk ks m ∧ (∀ i, i < m → vKat ks x n i ≠ 0) ∧ pos ks x n m = n ∧ ∃ v f, e = .returned (.tuple #[v, .int .i64 0]) ∧ OwnV w.heap.size w' v m f ∧ ∀ j, j < m → IsVat ks x n j (f j) ∧ PVF w' (f j) ∧ ((f j).bn = 0 ∨ ∃ g, (f j).b.ownBlock = some g ∧ w.heap.size ≤ g ∧ v.ownBlock ≠ some g)) ∨
  (¬ unk ks m ∧ ((∃ i, i < m ∧ vKat ks x n i = 0) ∨ pos ks x n m < n) ∧ e = .returned (.tuple #[.slice none 0 0, .int .i64 30]))
/-- What its Read answers. -/
def GetRead (w : World) (n m : Nat) (x : Nat → Nat) (ks : Nat → Int) (e : Ending) (w' : World) : Prop :=
  ((∀ i, i < m → vKat ks x n i ≠ 0) ∧ pos ks x n m = n ∧ ∃ v f, e = .returned (.int .i64 0) ∧ w'.cell? ⟨w.heap.size + 1, 0, none⟩ = some v ∧ OwnV w.heap.size w' v m f ∧ ∀ j, j < m → IsVat ks x n j (f j) ∧ PVF w' (f j) ∧ ((f j).bn = 0 ∨ ∃ g, (f j).b.ownBlock = some g ∧ w.heap.size ≤ g ∧ v.ownBlock ≠ some g)) ∨
  (((∃ i, i < m ∧ vKat ks x n i = 0) ∨ pos ks x n m < n) ∧ e = .returned (.int .i64 30))
set_option maxHeartbeats 1000000 in
theorem getread_any (a : Option Addr) (n c m kc : Nat) (ka : Option Addr) (x : Nat → Nat) (ks : Nat → Int) (w : World) (hv : ByRow w (.slice a n c) n x) (hka : KAt w ka m ks) (hm : m ≤ 4194304) (hun : ¬ unk ks m) (tk tv : TypeId) :
    Calls Try.prog 15 #[.slice a n c, .func (.func 27) #[] #[.pointer (some ⟨w.heap.size, 0, none⟩), .pointer (some ⟨w.heap.size + 1, 0, none⟩)]] ((w.alloc (.cells #[.slice ka m kc] tk)).alloc (.cells #[.slice none 0 0] tv)) fun e W4 => GetRead w n m x ks e W4 ∧ Up w W4 := by
  have hkr : ∀ i, i < m → 1 ≤ ks i ∧ ks i ≤ 4 := fun i hi => by
    by_cases h : ks i < 1 ∨ 4 < ks i
    · exact absurd ⟨i, hi, h⟩ hun
    · omega
  have hup : Up w ((w.alloc (.cells #[.slice ka m kc] tk)).alloc (.cells #[.slice none 0 0] tv)) := ((Up.refl w).alloc _).alloc _
  have hsz : ((w.alloc (.cells #[.slice ka m kc] tk)).alloc (.cells #[.slice none 0 0] tv)).heap.size = w.heap.size + 2 := by simp
  have hk0 : ((w.alloc (.cells #[.slice ka m kc] tk)).alloc (.cells #[.slice none 0 0] tv)).heap[w.heap.size]? = some (.cells #[.slice ka m kc] tk (0, 0)) := by rw [Below.heap_alloc _ _ _ (by simp)]; exact heap_new _ _
  have hv0 : ((w.alloc (.cells #[.slice ka m kc] tk)).alloc (.cells #[.slice none 0 0] tv)).heap[w.heap.size + 1]? = some (.cells #[.slice none 0 0] tv (0, 0)) := by
    have := heap_new (w.alloc (.cells #[.slice ka m kc] tk)) (.cells #[.slice none 0 0] tv)
    rw [show (w.alloc (.cells #[.slice ka m kc] tk)).heap.size = w.heap.size + 1 by simp] at this
    exact this
  generalize ((w.alloc (.cells #[.slice ka m kc] tk)).alloc (.cells #[.slice none 0 0] tv)) = W0 at *
  have hop := opened_up W0 (.slice a n c)
  have hos := opened_size W0 (.slice a n c)
  obtain ⟨b0, hb0, hbl⟩ : ∃ b0, (n = 0 ∨ (Value.slice a n c).ownBlock = some b0) ∧ b0 ≤ w.heap.size := by
    by_cases hz : n = 0
    · exact ⟨w.heap.size, .inl hz, Nat.le_refl _⟩
    · obtain ⟨b, off, cap, e, hc, _⟩ := hv.cells (by omega)
      refine ⟨b, .inr (by rw [e]; rfl), ?_⟩
      have := World.block_lt_of_cell? w _ (hc 0 (by omega)).2
      simp at this; omega
  have hrb : RB (opened W0 (.slice a n c)) (W0.heap.size + 1) b0 n x := ⟨_, opened_R W0 _, (hv.up hup).up hop, hb0⟩
  refine (read_of2 27 _ enter_get1 W0 a n c [w.heap.size + 1] (fun k hk => by simp at hk; omega) (fun W k => k = n - pos ks x n m ∧ ∃ v f, GS (opened W0 (.slice a n c)) (W0.heap.size + 1) (w.heap.size + 1) b0 n x ks tv m v f W) (fun _ cd => cd = 30 ∧ ∃ i, i < m ∧ vKat ks x n i = 0) ?_).mono ?_
  · refine (get1_any (W0.heap.size + 1) w.heap.size (w.heap.size + 1) b0 n m kc ka tk tv x ks _ hrb hm hkr ((hop.block _ (by omega)).trans hk0) ((hka.up hup).up hop) (fun b off h0 hb => ?_) ((hop.block _ (by omega)).trans hv0) (by omega) (by omega) (by omega) (by omega)).mono ?_
    · obtain ⟨b', off', e', hc'⟩ := hka 0 h0
      rw [hb] at e'; cases e'
      have := World.block_lt_of_cell? w _ hc'
      simp at this; omega
    · rintro e W2 (⟨rfl, v, f, G⟩ | ⟨rfl, h1, h2, h3⟩)
      · refine ⟨G.chg, .inl ⟨rfl, n - pos ks x n m, ?_, rfl, v, f, G⟩⟩
        obtain ⟨u, hr, hu, _⟩ := G.rb
        obtain ⟨ua, uc, rfl⟩ := hu.slice
        exact ⟨ua, uc, hr⟩
      · exact ⟨h3, .inr ⟨rfl, 30, by decide, h2, rfl, h1⟩⟩
  · rintro e W4 ⟨hc, W2, hb, ⟨k, ⟨rfl, v, f, G⟩, rfl⟩ | ⟨cd, ⟨rfl, h1⟩, rfl⟩⟩
    · have hple := pos_le ks x n m
      refine ⟨?_, Below.trans hup (hc.below _ (fun k hk => by simp at hk; omega) (by omega))⟩
      by_cases hp : pos ks x n m = n
      · refine .inl ⟨fun i hi => (G.each i hi).1, hp, v, f, by rw [if_neg (by omega)], ?_, ?_, ?_⟩
        · exact cell_of_one ((hb.block _ (lt_of_block G.var) (by simp; omega)).trans G.var)
        · refine (G.own.chg hb (fun b hb2 => ?_)).mono (by omega)
          have := (World.ownsRow.lt G.own b hb2).1
          simp; omega
        · intro j hj
          obtain ⟨_, e2, e3, e4⟩ := G.each j hj
          refine ⟨e2, e3.chg hb ?_, ?_⟩
          · rcases e4 with h | ⟨g, h1, h2, h3⟩
            · exact .inl h
            · right; intro b hb2; rw [h1] at hb2; cases hb2; simp; omega
          · rcases e4 with h | ⟨g, h1, h2, h3⟩
            · exact .inl h
            · exact .inr ⟨g, h1, by omega, h3⟩
      · exact .inr ⟨.inr (by omega), by rw [if_pos (by omega)]⟩
    · exact ⟨.inr ⟨.inl h1, rfl⟩, Below.trans hup (hc.below _ (fun k hk => by simp at hk; omega) (by omega))⟩
set_option maxHeartbeats 1000000 in
theorem get_any (a : Option Addr) (n c m kc : Nat) (ka : Option Addr) (x : Nat → Nat) (ks : Nat → Int) (w : World) (hv : ByRow w (.slice a n c) n x) (hka : KAt w ka m ks) (hm : m ≤ 4194304) :
    Calls Try.prog 9 #[.slice a n c, .slice ka m kc] w fun e w' => GetOut w n m x ks e w' ∧ Up w w' := by
  have hmf : ∀ (fn : Fn) (first cap : Array Value) (w : World), (Instr.makeFunc fn first cap).run Try.prog w = .ok (.func fn first cap) w := fun _ _ _ _ => rfl
  by_cases hun : unk ks m
  · have HC := hid (fun (W : World) (hW : Up w W) => contains_unk m kc ka ks hm true (by simp [hun]) W (hka.up hW))
    have HN : Hid (unk ks m) := hun
    clear hv hka hun
    go_enter Try.func9, Try.ntmps9
    go_wp2_with (go_at_call 25; refine (HC.out _ ((Up.refl w).alloc _)).mono ?_; rintro e w' ⟨rfl, hw⟩; have hw2 := hw.symm; subst hw2)
    go_ret2
    exact ⟨.inl ⟨HN.out, rfl⟩, (Up.refl w).alloc _⟩
  · have HC := hid (fun (W : World) (hW : Up w W) => contains_unk m kc ka ks hm false (by simp [hun]) W (hka.up hW))
    have HR := hid (fun tk tv => getread_any a n c m kc ka x ks w hv hka hm hun tk tv)
    have HN : Hid (¬ unk ks m) := hun
    clear hv hka hun
    go_enter Try.func9, Try.ntmps9
    go_wp2_with (go_at_call 25; refine (HC.out _ ((Up.refl w).alloc _)).mono ?_; rintro e w' ⟨rfl, hw⟩; have hw2 := hw.symm; subst hw2)
    refine (HR.out _ _).mono ?_
    rintro e W4 ⟨hgr | ⟨h1, rfl⟩, hu⟩
    · obtain ⟨h1, h2, v, f, rfl, hcell, ho, he⟩ := hgr
      have H1 := hid h1
      have H2 := hid h2
      have HO := hid ho
      have HE := hid he
      clear h1 h2 ho he HR HC
      go_wp2
      go_ret2
      exact ⟨.inr (.inl ⟨HN.out, H1.out, H2.out, v, f, rfl, HO.out, HE.out⟩), hu⟩
    · have H1 := hid h1
      clear h1 HR HC
      go_wp2
      go_ret2
      exact ⟨.inr (.inr ⟨HN.out, H1.out, rfl⟩), hu⟩
end Go.Proofs.Ytpofccnifecpfaa
