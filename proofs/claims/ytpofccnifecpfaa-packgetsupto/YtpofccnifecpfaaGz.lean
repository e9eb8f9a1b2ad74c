/- The walk of PackGets; conditions: at most 1048576 kinds. -/
import Derived.Test.YtpofccnifecpfaaGr
import Derived.Test.YtpofccnifecpfaaSw
namespace Go.Proofs.Ytpofccnifecpfaa
open Go.RowKit
set_option linter.unusedVariables false
attribute [local go_sem] run_bits run_frombits run_store_float
theorem IsV.same {q : Int} {x : Nat → Nat} {n : Nat} {p p' : PV} (hq : 1 ≤ q ∧ q ≤ 4) (h : IsV q x n p) (h' : IsV q x n p') : SameP p p' := by
  have e1 := h.ebn
  have e2 := h'.ebn
  refine ⟨by rw [h.ek]; exact hq, by rw [h.ek, h'.ek], fun _ => by rw [h.en, h'.en], fun _ => by rw [h.ex, h'.ex], fun _ => ⟨by rw [e1, e2], fun i hi => ?_⟩, fun _ => by rw [h.eon, h'.eon]⟩
  rw [h.ebx i hi, h'.ebx i (by rw [e2, ← e1]; exact hi)]
/-- Old memory is as it was, but for the blocks of S. -/
structure ChP (S : Nat → Prop) (w w' : World) : Prop where
  os : w'.os = w.os
  tape : w'.tape = w.tape
  output : w'.output = w.output
  size : w.heap.size ≤ w'.heap.size
  block : ∀ k, k < w.heap.size → ¬ S k → w'.heap[k]? = w.heap[k]?
theorem ChP.refl (S : Nat → Prop) (w : World) : ChP S w w := ⟨rfl, rfl, rfl, Nat.le_refl _, fun _ _ _ => rfl⟩
theorem ChP.trans {S : Nat → Prop} {a b c : World} (h : ChP S a b) (k : ChP S b c) : ChP S a c :=
  ⟨k.os.trans h.os, k.tape.trans h.tape, k.output.trans h.output, Nat.le_trans h.size k.size, fun i hi hn => (k.block i (Nat.lt_of_lt_of_le hi h.size) hn).trans (h.block i hi hn)⟩
theorem ChP.ofUp {S : Nat → Prop} {a b : World} (u : Up a b) : ChP S a b := ⟨u.os, u.tape, u.output, u.size, fun k hk _ => u.block k hk⟩
theorem ChP.set {S : Nat → Prop} (w : World) (p : Addr) (v : Value) (hs : S p.block) : ChP S w (w.setCell p v) :=
  ⟨rfl, rfl, rfl, by simp, fun i hi hn => Below.heap_setCell w p v i (fun e => hn (by rw [e]; exact hs))⟩
theorem ChP.cell {S : Nat → Prop} {w w' : World} (c : ChP S w w') {p : Addr} {v : Value} (h : w.cell? p = some v) (hn : ¬ S p.block) : w'.cell? p = some v := by
  rw [World.cell?_of_block (c.block p.block (World.block_lt_of_cell? w p h) hn)]; exact h
theorem ByRow.chp {S : Nat → Prop} {w w' : World} {v : Value} {n : Nat} {x : Nat → Nat} (h : ByRow w v n x) (c : ChP S w w') (hb : n = 0 ∨ ∀ b, v.ownBlock = some b → ¬ S b) : ByRow w' v n x := by
  rcases h with h | ⟨hn, hm, b, off, cap, hv, hc, hcp⟩
  · exact .inl h
  · refine .inr ⟨hn, hm, b, off, cap, hv, fun i hi => ⟨(hc i hi).1, c.cell (hc i hi).2 ?_⟩, hcp⟩
    rcases hb with hb | hb
    · omega
    · exact hb b (by rw [hv]; rfl)
/-- The bytes of a value are there, and may be written. -/
def There (w : World) (p : PV) : Prop := ∀ t, t < p.bn → ∀ b off cap, p.b = .slice (some ⟨b, off, none⟩) p.bn cap → (∃ z, w.cell? ⟨b, off + t, none⟩ = some z) ∧ w.frozen? ⟨b, off + t, none⟩ = false
theorem There.up {w w' : World} {p : PV} (h : There w p) (u : Up w w') : There w' p := fun t ht b off cap e => by
  obtain ⟨⟨z, h1⟩, h2⟩ := h t ht b off cap e
  refine ⟨⟨z, u.keep h1⟩, ?_⟩
  rw [World.frozen?_of_block (w := w) (u.block b (World.block_lt_of_cell? w _ h1))]; exact h2
theorem There.set {w : World} {p : PV} (h : There w p) (b' o' : Nat) (v : Value) : There (w.setCell ⟨b', o', none⟩ v) p := fun t ht b off cap e => by
  obtain ⟨⟨z, h1⟩, h2⟩ := h t ht b off cap e
  refine ⟨?_, ?_⟩
  · by_cases hb : b = b' ∧ off + t = o'
    · obtain ⟨rfl, rfl⟩ := hb
      have := World.cell?_setCells_in b [v] (off + t) w (fun j hj => by simp at hj; subst hj; simp [h1]) 0 (by simp)
      exact ⟨v, by simpa [World.setCells] using this⟩
    · refine ⟨z, ?_⟩
      have := World.cell?_setCells_out b' [v] o' w ⟨b, off + t, none⟩ (fun e => by simp at e ⊢; omega)
      simpa [World.setCells, h1] using this
  · simpa using h2
theorem PVF.there {w : World} {p : PV} (h : PVF w p) : There w p := fun t ht b off cap e => by
  obtain ⟨b', off', cap', e', hc, _⟩ := h.inn.row.cells (by omega)
  rw [e] at e'; cases e'
  refine ⟨⟨_, (hc t ht).2⟩, ?_⟩
  rcases h.fz with hz | hz
  · omega
  · exact hz b (by rw [e]; rfl) _
theorem canon_of (c : Nat) (hc : c < 18446744073709551616) (h : Fl.isCode c = true) : Fl.canon (Fl.of c) = Fl.of c := by
  have e := Fl.of_code (Fl.of c) (Fl.of_lt c hc)
  rw [Fl.code_of c hc h] at e
  exact e.symm
theorem IsV.form {q : Int} {x : Nat → Nat} {n : Nat} {p : PV} (hx : ∀ i, i < n → x i < 256) (hz : vK q x n ≠ 0) (h : IsV q x n p) : Fl.canon p.x = p.x := by
  rw [h.ex]
  by_cases hq : q = 2
  · rw [if_pos hq]
    subst hq
    have hc : 8 ≤ n ∧ Fl.isCode (lkC x 8) = true := by
      have hz2 : lkK x n ≠ 0 := hz
      unfold lkK at hz2
      by_cases hc : 8 ≤ n ∧ Fl.isCode (lkC x 8) = true
      · exact hc
      · rw [if_neg hc] at hz2; exact absurd rfl hz2
    unfold lkV
    rw [if_pos hc]
    exact canon_of _ (Nat.lt_of_lt_of_le (lkC_lt x n hx 8 hc.1) (by decide)) hc.2
  · rw [if_neg hq]; exact Fl.canon_zero 0 (.inl rfl)
set_option maxHeartbeats 1000000 in
/-- The calls of the law behind its loop, and ahead of it: of and Same. -/
theorem gets_bad (a : Option Addr) (n c m kc : Nat) (ka : Option Addr) (x : Nat → Nat) (ks : Nat → Int) (w : World) (w0 : ByRow w (.slice a n c) n x) (hka : KAt w ka m ks) (b1 : m ≤ 1048576) (E : Nat) (hE : E = 1 ∨ E = 30)
    (hG : ∀ (W w' : World) (e : Ending), GetOut W n m x ks e w' → e = .returned (.tuple #[.slice none 0 0, .int .i64 (E : Nat)])) (hR : ∀ (W w' : World) (e : Ending), GetOutR W n m x ks e w' → e = .returned (.tuple #[.slice none 0 0, .int .i64 (E : Nat)])) :
    Calls Try.prog 6 #[.slice a n c, .slice ka m kc] w fun e w' => e = .returned (.bool true) ∧ Up w w' := by
  have H1 := hid (fun (W : World) (hW : Up w W) => (get_any a n c m kc ka x ks W (w0.up hW) (hka.up hW) (by omega)).mono (fun e w' h => (⟨hG W w' e h.1, h.2⟩ : e = .returned (.tuple #[.slice none 0 0, .int .i64 (E : Nat)]) ∧ Up W w')))
  have H2 := hid (fun (W : World) (hW : Up w W) => (refGet_any a n c m kc ka x ks W (w0.up hW) (hka.up hW) b1).mono (fun e w' h => (⟨hR W w' e h.1, h.2⟩ : e = .returned (.tuple #[.slice none 0 0, .int .i64 (E : Nat)]) ∧ Up W w')))
  have H3 := hid (fun (W : World) => (of_any none 0 0 (fun _ => ⟨0, 0, 0, .slice none 0 0, 0, fun _ => 0, false⟩) (by omega) W (fun i hi => by omega)).mono (fun e w' h => show ∃ oa oc, e = .returned (.slice oa 0 oc) ∧ Up W w' by
    obtain ⟨v', h1, h2, h3⟩ := h
    obtain ⟨oa, oc, rfl, _⟩ := h2.shape
    exact ⟨oa, oc, h1, h3⟩))
  have H4 := hid (fun (W : World) (oa : Option Addr) (oc : Nat) => sameRows oa none 0 oc 0 (fun _ => ⟨0, 0, 0, .slice none 0 0, 0, fun _ => 0, false⟩) (fun _ => ⟨0, 0, 0, .slice none 0 0, 0, fun _ => 0, false⟩) (by omega) W (fun i hi => by omega) (fun i hi => by omega) (fun i hi => by omega))
  clear hG hR w0 hka
  have hEE : ((E : Int) != (E : Int)) = false := by simp
  clear hE
  go_enter Try.func6, Try.ntmps6
  go_upto_region 7 with (first | (go_at_call 8; refine (getting_any _).mono ?_; rintro e u1 ⟨rfl, h1⟩; have U1 := hid h1; clear h1) | (go_at_call 9; refine (H1.out _ U1.out).mono ?_; rintro e u2 ⟨rfl, h2⟩; have U2 := hid (Up.trans U1.out h2); clear h2) | (go_at_call 22; refine (H2.out _ U2.out).mono ?_; rintro e u3 ⟨rfl, h3⟩; have U3 := hid (Up.trans U2.out h3); clear h3) | (go_at_call 13; refine (H3.out _).mono ?_; rintro e u4 ⟨oa, oc, rfl, h4⟩; have U4 := hid (Up.trans U3.out h4); clear h4) | (go_at_call 12; refine (H4.out _ oa oc).mono ?_; rintro e u5 ⟨rfl, h5⟩; have U5 := hid (Up.trans U4.out h5); clear h5))
  clear U1 U2 U3 U4
  go_wp2
  refine wp_loop_rounds 1 ?_
  rw [rounds_succ]
  go_wp2_with (first | (go_at_call 9; refine (H1.out _ U5.out).mono ?_; rintro e u6 ⟨rfl, h6⟩; have U6 := hid (Up.trans U5.out h6); clear h6) | (go_at_call 13; refine (H3.out _).mono ?_; rintro e u7 ⟨oa2, oc2, rfl, h7⟩; have U7 := hid (Up.trans U6.out h7); clear h7) | (go_at_call 12; refine (H4.out _ oa2 oc2).mono ?_; rintro e u8 ⟨rfl, h8⟩; have U8 := hid (Up.trans U7.out h8); clear h8))
  go_ret
  exact ⟨rfl, U8.out⟩
set_option maxRecDepth 20000 in
set_option maxHeartbeats 2000000 in
theorem gets_good (a : Option Addr) (n c m kc : Nat) (ka : Option Addr) (x : Nat → Nat) (ks : Nat → Int) (w : World) (w0 : ByRow w (.slice a n c) n x) (hka : KAt w ka m ks) (b1 : m ≤ 1048576) (hun : ¬ unk ks m) (hall : ∀ i, i < m → vKat ks x n i ≠ 0) (hpos : pos ks x n m = n) :
    Calls Try.prog 6 #[.slice a n c, .slice ka m kc] w fun e w' => e = .returned (.bool true) ∧ Up w w' := by
  have hq : Hid (∀ i, i < m → 1 ≤ ks i ∧ ks i ≤ 4) := fun i hi => by
    by_cases h : ks i < 1 ∨ 4 < ks i
    · exact absurd ⟨i, hi, h⟩ hun
    · omega
  have H1 := hid (fun (W : World) (hb : ByRow W (.slice a n c) n x) (hk : KAt W ka m ks) => (get_any a n c m kc ka x ks W hb hk (by omega)).mono (fun e w' h => show ∃ va vc f, e = .returned (.tuple #[.slice va m vc, .int .i64 0]) ∧ OwnV W.heap.size w' (.slice va m vc) m f ∧ (∀ j, j < m → IsVat ks x n j (f j) ∧ PVF w' (f j) ∧ ((f j).bn = 0 ∨ ∃ g, (f j).b.ownBlock = some g ∧ W.heap.size ≤ g ∧ (Value.slice va m vc).ownBlock ≠ some g)) ∧ Up W w' by
    obtain ⟨h1 | ⟨_, _, _, v, f, e1, e2, e3⟩ | ⟨_, h1, _⟩, hu⟩ := h
    · exact absurd h1.1 hun
    · obtain ⟨va, vc, rfl, _⟩ := e2.shape
      exact ⟨va, vc, f, e1, e2, e3, hu⟩
    · rcases h1 with ⟨i, hi, h1⟩ | h1
      · exact absurd h1 (hall i hi)
      · omega))
  have H2 := hid (fun (W : World) (hW : Up w W) => (refGet_any a n c m kc ka x ks W (w0.up hW) (hka.up hW) b1).mono (fun e w' h => show ∃ va vc f, e = .returned (.tuple #[.slice va m vc, .int .i64 0]) ∧ OwnR W.heap.size w' (.slice va m vc) m f ∧ (∀ j, j < m → IsVat ks x n j (f j) ∧ PV.In w' (f j) ∧ ((f j).bn = 0 ∨ ∃ g, (f j).b.ownBlock = some g ∧ W.heap.size ≤ g)) ∧ Up W w' by
    obtain ⟨h1 | ⟨_, _, _, v, f, e1, e2, e3⟩ | ⟨_, h1, _⟩, hu⟩ := h
    · exact absurd h1.1 hun
    · obtain ⟨va, vc, rfl, _⟩ := e2.shape
      exact ⟨va, vc, f, e1, e2, e3, hu⟩
    · rcases h1 with ⟨i, hi, h1⟩ | h1
      · exact absurd h1 (hall i hi)
      · omega))
  have HW0 := hid w0
  have HKA := hid hka
  have HX : Hid (∀ j, ∀ i, i < n - pos ks x n j → sh (pos ks x n j) x i < 256) := fun j i hi => by show x (pos ks x n j + i) < 256; exact w0.lt _ (by omega)
  have HALL := hid hall
  clear w0 hka hun hall hpos
  go_enter Try.func6, Try.ntmps6
  go_upto_region 5 with (first | (go_at_call 8; refine (getting_any _).mono ?_; rintro e u1 ⟨rfl, h1⟩; have U1 := hid h1; clear h1) | (go_at_call 9; refine (H1.out _ (HW0.out.up U1.out) (HKA.out.up U1.out)).mono ?_; rintro e u2 ⟨va, vc, f, rfl, hov, hev, h2⟩; have HOV := hid hov; have HEV := hid hev; have U2 := hid h2; clear h2 hov hev) | (go_at_call 22; refine (H2.out _ (Up.trans U1.out U2.out)).mono ?_; rintro e u3 ⟨ra, rc, f', rfl, hor, her, h3⟩; have HOR := hid hor; have HER := hid her; have U3 := hid h3; clear h3 hor her))
  obtain ⟨va', vc', evv, hsv⟩ := HOV.out.shape
  cases evv
  obtain ⟨ra', rc', err, hsr⟩ := HOR.out.shape
  cases err
  have HSV := hid hsv
  have HSR := hid hsr
  have HQ : Hid (∀ i, i < m → SameP (f i) (f' i)) := fun i hi => IsV.same (hq.out i hi) (HEV.out i hi).1 (HER.out i hi).1
  have F1 := hid (of_any va m vc f b1 u3 (fun i hi => by obtain ⟨b, off, q1, q2⟩ := HSV.out i hi; exact ⟨b, off, q1, q2.up U3.out, (HEV.out i hi).2.1.inn.up U3.out⟩))
  have HSame := hid (fun (g : Nat → PV) (W : World) (a1 : Option Addr) (c1 : Nat) (h1 : SVs W a1 m g) (h2 : SVs W ra m f') (hh : ∀ i, i < m → SameP (g i) (f' i)) => sameRows a1 ra m c1 rc g f' b1 W h1 h2 hh)
  clear hsv hsr
  go_upto_region 7 with (first | (go_at_call 13; refine F1.out.mono ?_; rintro e u4 ⟨v4, rfl, o4, h4⟩; obtain ⟨a4, c4, rfl, s4⟩ := o4.shape; have U4 := hid h4; have HS4 := hid (HSame.out f u4 a4 c4 (fun i hi => by obtain ⟨b, off, q1, q2⟩ := s4 i hi; exact ⟨b, off, q1, q2, ((HEV.out i hi).2.1.inn.up U3.out).up h4⟩) (fun i hi => by obtain ⟨b, off, q1, q2⟩ := HSR.out i hi; exact ⟨b, off, q1, q2.up h4, (HER.out i hi).2.1.up h4⟩) HQ.out); clear h4 o4 s4) | (go_at_call 12; refine HS4.out.mono ?_; rintro e u5 ⟨rfl, h5⟩; have U5 := hid (Up.trans U4.out h5); clear h5))
  have U25 := hid (Up.trans U3.out U5.out)
  have UW5 := hid (Up.trans (Up.trans U1.out U2.out) U25.out)
  have sz1 : u1.heap.size ≤ u2.heap.size := U2.out.size
  have sz2 : u2.heap.size ≤ u5.heap.size := U25.out.size
  have sz0 : w.heap.size ≤ u1.heap.size := U1.out.size
  have T5 : Hid (∀ j, j < m → There u5 (f j)) := fun j hj => ((HEV.out j hj).2.1.there).up U25.out
  have HSB : Hid (∀ j, j < m → ∀ g, (f j).bn ≠ 0 → (f j).b.ownBlock = some g → (u1.heap.size ≤ g ∧ g < u2.heap.size ∧ (Value.slice va m vc).ownBlock ≠ some g)) := fun j hj g hn hg => by
    rcases (HEV.out j hj).2.2 with h | ⟨g', h1, h2, h3⟩
    · exact absurd h hn
    · rw [hg] at h1; cases h1
      exact ⟨h2, (HEV.out j hj).2.1.blk hn g hg, h3⟩
  clear HS4 F1 U4 HOV
  go_wp2
  go_loopw [40] (fun i wr => ∃ k : Nat, k ≤ m ∧ i = .int .i64 (k : Nat) ∧ ChP (fun g => u1.heap.size ≤ g ∧ g < u2.heap.size ∧ (Value.slice va m vc).ownBlock ≠ some g) u5 wr ∧ ∀ j, j < m → There wr (f j)) (fun i _ => m - (intOf i).toNat)
  case atStart => exact ⟨0, Nat.zero_le _, rfl, ChP.refl _ _, T5.out⟩
  case round =>
    obtain ⟨k, hk, rfl, hch, hth⟩ := hrel
    have HCH := hid hch
    have HTH := hid hth
    clear hch hth T5
    by_cases hlt : k < m
    · obtain ⟨vb, vo, hva, hat⟩ := HSV.out k hlt
      have szr := HCH.out.size
      have hnS : ¬ (u1.heap.size ≤ vb ∧ vb < u2.heap.size ∧ (Value.slice va m vc).ownBlock ≠ some vb) := fun h => h.2.2 (by rw [hva]; rfl)
      obtain ⟨y0, y1, y2, y3, y4⟩ := hat.up U25.out
      have x0 := HCH.out.cell y0 hnS
      have x1 := HCH.out.cell y1 hnS
      have x2 := HCH.out.cell y2 hnS
      have x3 := HCH.out.cell y3 hnS
      have x4 := HCH.out.cell y4 hnS
      obtain ⟨pa, pc, hpb⟩ := PV.slice (HEV.out k hlt).2.1.inn
      have hpx := (HEV.out k hlt).2.1.inn.xin
      have hisv := (HEV.out k hlt).1
      have hform := IsV.form (HX.out k) (HALL.out k hlt) hisv
      have HFm := hid (fun W => form_any (f k).x hpx W)
      rw [hform] at HFm
      rw [show (((f k).x : Int) == ((f k).x : Int)) = true by simp] at HFm
      rw [hpb] at x3
      have HPb := hid hpb
      have l1 : (0 : Int) ≤ (k : Int) := by omega
      have l2 : (k : Int) < (m : Int) := by omega
      obtain ⟨ek, en, ex, ebn, _, eon, _⟩ := hisv
      rw [ek] at x0
      rw [en] at x1
      rw [ex] at x2 HFm
      rw [eon] at x4
      have HBn := hid ebn
      have HStep := hid (fun (o : Obj) => (⟨HCH.out.trans (ChP.ofUp ((Up.refl wr).alloc o)), fun j hj => (HTH.out j hj).up ((Up.refl wr).alloc o)⟩ : ChP _ u5 (wr.alloc o) ∧ ∀ j, j < m → There (wr.alloc o) (f j)))
      clear y0 y1 y2 y3 y4 hat hpb hform hpx ek en ex eon HSV HSR HER HQ HX HALL H1 H2 HW0 HKA U1 U2 U3 U25 UW5 U5
      have hq4 := hq.out k hlt
      have hpn : Hid (∀ (P : Nat), (f k).bn = P → (f k).b = .slice pa P pc) := fun P h => by rw [← h]; exact HPb.out
      subst hva
      clear HPb
      obtain hqk | hqk | hqk | hqk : ks k = 1 ∨ ks k = 2 ∨ ks k = 3 ∨ ks k = 4 := by omega
      · rw [hqk] at x0 x1 x2 x4 HFm
        have hbq := ebn
        rw [hqk] at hbq
        simp only [reduceIte, Int.reduceEq] at x1 x2 x4 HFm hbq
        generalize lnV (sh (pos ks x n k) x) (n - pos ks x n k) = V at x1
        rw [hbq] at x3
        clear hbq HBn ebn HSB HEV hpn
        go_wp2_with (go_at_call 24; refine (HFm.out _).mono ?_; rintro e w6 ⟨rfl, hw⟩; have hw2 := hw.symm; subst hw2)
        refine wp_loop_rounds 1 ?_
        rw [rounds_succ]
        go_wp2
        go_roundw
        case rel => exact ⟨k + 1, hlt, by go_num, (HStep.out _).1, (HStep.out _).2⟩
        case measure => simp [intOf]; omega
      · rw [hqk] at x0 x1 x2 x4 HFm
        have hbq := ebn
        rw [hqk] at hbq
        simp only [reduceIte, Int.reduceEq] at x1 x2 x4 HFm hbq
        generalize lkV (sh (pos ks x n k) x) (n - pos ks x n k) = V at x2 HFm
        rw [hbq] at x3
        clear hbq HBn ebn HSB HEV hpn
        go_wp2_with (go_at_call 24; refine (HFm.out _).mono ?_; rintro e w6 ⟨rfl, hw⟩; have hw2 := hw.symm; subst hw2)
        refine wp_loop_rounds 1 ?_
        rw [rounds_succ]
        go_wp2
        go_roundw
        case rel => exact ⟨k + 1, hlt, by go_num, (HStep.out _).1, (HStep.out _).2⟩
        case measure => simp [intOf]; omega
      · rw [hqk] at x0 x1 x2 x4 HFm
        have hbq := ebn
        rw [hqk] at hbq
        simp only [reduceIte, Int.reduceEq] at x1 x2 x4 HFm hbq
        clear hbq ebn HBn
        have HSk := hid (HSB.out k hlt)
        have hrow := (HEV.out k hlt).2.1.inn.row
        have hmx := hrow.max
        have HRow : Hid ((f k).bn ≠ 0 → ∃ b off, pa = some ⟨b, off, none⟩ ∧ (f k).bn ≤ pc ∧ pc ≤ maxLen) := fun hne => by
          obtain ⟨b, off, cap, e, _, h1, h2⟩ := hrow.cells (by omega)
          rw [hpn.out _ rfl] at e
          cases e
          exact ⟨b, off, rfl, h1, h2⟩
        have HPb := hid (hpn.out _ rfl)
        have HThK := hid (fun (W : World) (h : ∀ j, j < m → There W (f j)) => h k hlt)
        clear hrow HSB HEV hpn
        unfold maxLen at hmx
        have hs0 : u5.heap.size ≤ wr.heap.size := szr
        have HSt := hid (HStep.out (.cells #[.int .i64 3, .int .i64 0, .float .f64 0, .slice pa (f k).bn pc, .bool false] 35))
        have hbx : Hid ((wr.alloc (.cells #[.int .i64 3, .int .i64 0, .float .f64 0, .slice pa (f k).bn pc, .bool false] 35)).cell? ⟨wr.heap.size, 3, none⟩ = some (.slice pa (f k).bn pc)) := cell_new wr _ _ _ 3 _ rfl
        have hgen : Hid ((f k).bn = (f k).bn) := rfl
        generalize hBN : (f k).bn = BN at x3 HRow HSt hbx HSk hmx HPb
        have HBN := hid hBN
        clear hBN hgen HStep
        go_wp2_with (go_at_call 24; refine (HFm.out _).mono ?_; rintro e w6 ⟨rfl, hw⟩; have hw2 := hw.symm; subst hw2)
        generalize (wr.alloc (.cells #[.int .i64 3, .int .i64 0, .float .f64 0, .slice pa BN pc, .bool false] 35)) = wb at *
        go_loopw [95] (fun i wz => ∃ s : Nat, s ≤ BN ∧ i = .int .i64 (s : Nat) ∧ ChP (fun g => u1.heap.size ≤ g ∧ g < u2.heap.size ∧ (Value.slice (some ⟨vb, vo, none⟩) m vc).ownBlock ≠ some g) wb wz ∧ ∀ j, j < m → There wz (f j)) (fun i _ => BN - (intOf i).toNat)
        case atStart => exact ⟨0, Nat.zero_le _, rfl, ChP.refl _ _, HSt.out.2⟩
        case round =>
          obtain ⟨s, hs, rfl, hc2, ht2⟩ := hrel
          have HC2 := hid hc2
          have HT2 := hid ht2
          clear hc2 ht2
          by_cases hsl : s < BN
          · obtain ⟨b, off, rfl, hle1, hle2⟩ := HRow.out (by omega)
            have hcx := HC2.out.cell hbx.out (fun h => by simp at h; omega)
            obtain ⟨⟨z, hzc⟩, hzf⟩ := HThK.out _ HT2.out s (by rw [HBN.out]; exact hsl) b off pc (by rw [HPb.out, HBN.out])
            have hSb := HSk.out b (by omega) (by rw [HPb.out]; rfl)
            have HNext : Hid (ChP (fun g => u1.heap.size ≤ g ∧ g < u2.heap.size ∧ (Value.slice (some ⟨vb, vo, none⟩) m vc).ownBlock ≠ some g) wb (wr.setCell ⟨b, off + s, none⟩ (.int .u8 7)) ∧ ∀ j, j < m → There (wr.setCell ⟨b, off + s, none⟩ (.int .u8 7)) (f j)) := ⟨HC2.out.trans (ChP.set _ _ _ hSb), fun j hj => (HT2.out j hj).set _ _ _⟩
            have m1 : (0 : Int) ≤ (s : Int) := by omega
            have m2 : (s : Int) < (BN : Int) := by omega
            go_wp2
            go_roundw
            case rel => exact ⟨s + 1, hsl, by go_num, HNext.out.1, HNext.out.2⟩
            case measure => simp [intOf]; omega
          · go_wp2
            go_roundw
            case rel => exact ⟨k + 1, hlt, by go_num, HSt.out.1.trans HC2.out, HT2.out⟩
            case measure => simp [intOf]; omega
      · rw [hqk] at x0 x1 x2 x4 HFm
        have hbq := ebn
        rw [hqk] at hbq
        simp only [reduceIte, Int.reduceEq] at x1 x2 x4 HFm hbq
        generalize lfV (sh (pos ks x n k) x) (n - pos ks x n k) = V at x4
        rw [hbq] at x3
        clear hbq HBn ebn HSB HEV hpn
        go_wp2_with (go_at_call 24; refine (HFm.out _).mono ?_; rintro e w6 ⟨rfl, hw⟩; have hw2 := hw.symm; subst hw2)
        refine wp_loop_rounds 1 ?_
        rw [rounds_succ]
        go_wp2
        go_roundw
        case rel => exact ⟨k + 1, hlt, by go_num, (HStep.out _).1, (HStep.out _).2⟩
        case measure => simp [intOf]; omega
    · obtain rfl : m = k := by omega
      have hSw : ∀ i, i < w.heap.size → ¬ (u1.heap.size ≤ i ∧ i < u2.heap.size ∧ (Value.slice va m vc).ownBlock ≠ some i) := fun i hi h => by omega
      have hSn : ∀ i, u2.heap.size ≤ i → ¬ (u1.heap.size ≤ i ∧ i < u2.heap.size ∧ (Value.slice va m vc).ownBlock ≠ some i) := fun i hi h => by omega
      have UWr : Hid (Up w wr) := ⟨HCH.out.os.trans UW5.out.os, HCH.out.tape.trans UW5.out.tape, HCH.out.output.trans UW5.out.output, Nat.le_trans UW5.out.size HCH.out.size, fun i hi => (HCH.out.block i (Nat.lt_of_lt_of_le hi UW5.out.size) (hSw i hi)).trans (UW5.out.block i hi)⟩
      have hwant : Hid (SVs wr ra m f') := fun i hi => by
        obtain ⟨b, off, rfl, q2⟩ := HSR.out i hi
        have hb2 : u2.heap.size ≤ b := (World.ownsRow.lt HOR.out b rfl).1
        have q3 := q2.up U5.out
        refine ⟨b, off, rfl, ⟨HCH.out.cell q3.c0 (hSn b hb2), HCH.out.cell q3.c1 (hSn b hb2), HCH.out.cell q3.c2 (hSn b hb2), HCH.out.cell q3.c3 (hSn b hb2), HCH.out.cell q3.c4 (hSn b hb2)⟩, ?_⟩
        obtain ⟨_, r1, r2⟩ := HER.out i hi
        have r3 := r1.up U5.out
        refine ⟨r3.kin, r3.nin, r3.xin, r3.row.chp HCH.out ?_⟩
        rcases r2 with h | ⟨g, h1, h2⟩
        · exact .inl h
        · right; intro b' hb'; rw [h1] at hb'; cases hb'; exact hSn g h2
      have HQ2 : Hid (∀ (g : Nat → PV), (∀ j, j < m → IsVat ks x n j (g j)) → ∀ i, i < m → SameP (g i) (f' i)) := fun g h i hi => IsV.same (hq.out i hi) (h i hi) (HER.out i hi).1
      have G6 := hid (H1.out wr (HW0.out.up UWr.out) (HKA.out.up UWr.out))
      clear HSV HSR HER HQ HX HALL H1 H2 HW0 HKA HSB HEV HOR hSw hSn
      go_wp2_with (first | (go_at_call 9; refine G6.out.mono ?_; rintro e u6 ⟨va6, vc6, f6, rfl, hov6, hev6, h6⟩; obtain ⟨aa6, cc6, evv6, s6⟩ := hov6.shape; cases evv6; have U6 := hid h6; have F6 := hid (of_any va6 m vc6 f6 b1 u6 (fun i hi => by obtain ⟨b, off, q1, q2⟩ := s6 i hi; exact ⟨b, off, q1, q2, (hev6 i hi).2.1.inn⟩)); have HEV6 := hid hev6; clear hov6 hev6 h6 s6) | (go_at_call 13; refine F6.out.mono ?_; rintro e u7 ⟨v7, rfl, o7, h7⟩; obtain ⟨a7, c7, rfl, s7⟩ := o7.shape; have HS7 := hid (HSame.out f6 u7 a7 c7 (fun i hi => by obtain ⟨b, off, q1, q2⟩ := s7 i hi; exact ⟨b, off, q1, q2, (HEV6.out i hi).2.1.inn.up h7⟩) (fun i hi => by obtain ⟨b, off, q1, q2, q3⟩ := hwant.out i hi; exact ⟨b, off, q1, (q2.up U6.out).up h7, (q3.up U6.out).up h7⟩) (HQ2.out f6 (fun j hj => (HEV6.out j hj).1))); have U7 := hid (Up.trans U6.out h7); clear h7 o7 s7) | (go_at_call 12; refine HS7.out.mono ?_; rintro e u8 ⟨rfl, h8⟩; have U8 := hid (Up.trans U7.out h8); clear h8))
      go_ret
      exact ⟨rfl, Up.trans UWr.out U8.out⟩
theorem gets_walk (v0 : Value) (n : Nat) (x : Nat → Nat) (v1 : Value) (m : Nat) (ks : Nat → Int) (w : World) (w0 : ByRow w v0 n x) (w1 : KRow w v1 m ks) (b1 : m ≤ 1048576) :
    Calls Try.prog 6 #[v0, v1] w fun e w' => e = .returned (.bool true) ∧ Up w w' := by
  obtain ⟨a, c, rfl⟩ := w0.slice
  obtain ⟨ka, kc, rfl, hka⟩ := w1
  by_cases hun : unk ks m
  · refine gets_bad a n c m kc ka x ks w w0 hka b1 1 (.inl rfl) ?_ ?_
    · rintro W w' e (⟨_, h⟩ | ⟨h, _⟩ | ⟨h, _⟩)
      · exact h
      · exact absurd hun h
      · exact absurd hun h
    · rintro W w' e (⟨_, h⟩ | ⟨h, _⟩ | ⟨h, _⟩)
      · exact h
      · exact absurd hun h
      · exact absurd hun h
  · have hple := pos_le ks x n m
    by_cases hg : (∀ i, i < m → vKat ks x n i ≠ 0) ∧ pos ks x n m = n
    · exact gets_good a n c m kc ka x ks w w0 hka b1 hun hg.1 hg.2
    · refine gets_bad a n c m kc ka x ks w w0 hka b1 30 (.inr rfl) ?_ ?_
      · rintro W w' e (⟨h, _⟩ | ⟨_, h1, h2, _⟩ | ⟨_, _, h⟩)
        · exact absurd h hun
        · exact absurd ⟨h1, h2⟩ hg
        · exact h
      · rintro W w' e (⟨h, _⟩ | ⟨_, h1, h2, _⟩ | ⟨_, _, h⟩)
        · exact absurd h hun
        · exact absurd ⟨h1, h2⟩ hg
        · exact h
end Go.Proofs.Ytpofccnifecpfaa
