/- The document's Bytes and Others, of layer 15; conditions: the rows lie in memory, and are short. -/
import Derived.Test.YtcicefpcledmgaaPkF
import Derived.Test.YtcicefpcledmgaaV11
import Derived.Test.YtcicefpcledmgaaV16
import Derived.Test.YtcicefpcledmgaaV27
import Derived.Test.YtcicefpcledmgaaV28
namespace Go.Proofs.Ytcicefpcledmgaa
open Go.RowKit Go.Lib
set_option linter.unusedVariables false
set_option linter.unusedSimpArgs false
set_option maxRecDepth 20000
theorem OwnL.old' {base : Nat} {w w' : World} {v : Value} {L : List Nat} (h : Pk.OwnL base w v L) (u : Old w w') : Pk.OwnL base w' v L := by
  refine ⟨⟨h.own.1, ?_⟩, h.lt⟩
  rcases h.own.2 with e | ⟨g, cap, cur, e, hb', hg, r⟩
  · exact .inl e
  · exact .inr ⟨g, cap, cur, e, hb', u.block hg, r⟩
theorem OwnL.lt' {base : Nat} {w : World} {v : Value} {L : List Nat} (h : Pk.OwnL base w v L) (k : Nat) (e : v.ownBlock = some k) : base ≤ k ∧ k < w.heap.size := World.ownsRow.lt h.own k e
theorem OwnL.slice' {base : Nat} {w : World} {v : Value} {L : List Nat} (h : Pk.OwnL base w v L) : ∃ a c, v = .slice a L.length c := by
  rcases h.own.2 with ⟨e, hn⟩ | ⟨g, cap, cur, e, _⟩
  · exact ⟨none, 0, by rw [e, hn]⟩
  · exact ⟨_, _, e⟩
/-- The document's Join of bytes of the call's own and of newer ones. -/
theorem joinL {base b2 : Nat} {w : World} {v u : Value} {A B : List Nat} (ho : Pk.OwnL base w v A) (hn : Pk.OwnL b2 w u B) (hb : base ≤ w.heap.size) (hv : ∀ k, v.ownBlock = some k → k < b2) (hl : A.length + B.length ≤ 1000000) :
    Calls Try.prog 70 #[v, u] w fun e w' => ∃ v', e = .returned v' ∧ Pk.OwnL base w' v' (A ++ B) ∧ w.grownBy w' v.ownBlock := by
  refine (Pk.join_any base v u A.length B.length (Pk.gd A) (Pk.gd B) (by omega) w ho hb hn.row ?_).mono ?_
  · by_cases h0 : B.length = 0
    · exact .inl h0
    · right
      intro e
      cases hk : u.ownBlock with
      | none =>
        rcases hn.own.2 with ⟨_, q⟩ | ⟨g, cap, cur, q, _⟩
        · exact h0 q
        · rw [q] at hk; simp [Value.ownBlock] at hk
      | some k =>
        rw [hk] at e
        have h1 := hv k e.symm
        have h2 := (OwnL.lt' hn k hk).1
        omega
  · rintro e w' ⟨v', rfl, o, g⟩
    exact ⟨v', rfl, Pk.OwnL.app o, g.by_⟩
theorem refNum_old (z : Int) (h1 : -9223372036854775808 ≤ z) (h2 : z ≤ 9223372036854775807) (w : World) : Calls Try.prog 71 #[.int .i64 z] w fun e w' => ∃ v', e = .returned v' ∧ Pk.OwnL w.heap.size w' v' (Pk.numL z) ∧ Old w w' := Pk.refNum_any z h1 h2 w
/-- How many, and the first k of them. -/
def inB (f : Nat → Int) (n k : Nat) : List Nat := Pk.numL (n : Int) ++ (lsI f k).flatMap Pk.numL
theorem inB_step (f : Nat → Int) (n k : Nat) : inB f n (k + 1) = inB f n k ++ Pk.numL (f k) := by simp [inB, lsI]
theorem inB_len (f : Nat → Int) (n k : Nat) (hn : n ≤ 1000) (hf : ∀ i, i < n → -1000 ≤ f i ∧ f i ≤ 1000) (hk : k ≤ n) : (inB f n k).length ≤ 10 * k + 10 := by
  induction k with
  | zero =>
    unfold inB
    simp [lsI]
    exact (Pk.num_len (n : Int) (by omega) (by omega)).2
  | succ k ih =>
    rw [inB_step, List.length_append]
    have := ih (by omega)
    have hh := hf k (by omega)
    have := (Pk.num_len (f k) (by omega) (by omega)).2
    omega
theorem bytesC_in (f g : Nat → Int) (n m : Nat) : bytesC (lsI f n) (lsI g m) = inB f n n ++ inB g m m := by
  have h : ∀ L : List Int, (mkP L).flatMap Pk.encV = Pk.numL (L.length : Nat) ++ L.flatMap Pk.numL := fun L => by
    unfold mkP
    rw [List.flatMap_cons, encV_pN, List.flatMap_map]
    congr 2
  unfold bytesC encC
  rw [List.flatMap_append, h, h, lsI_len, lsI_len]
  rfl
set_option maxHeartbeats 2000000 in
set_option maxRecDepth 20000 in
theorem rInts_any (v1 v : Value) (A : List Nat) (n : Nat) (f : Nat → Int) (w0 w : World) (hn : n ≤ 1000) (hf : ∀ i, i < n → -1000 ≤ f i ∧ f i ≤ 1000) (hA : A.length ≤ 100000) (hu : Old w0 w) (ho : Pk.OwnL w0.heap.size w v1 A) (hv : NRowL w0 v n f) :
    Calls Try.prog 48 #[v1, v] w fun e w' => ∃ v', e = .returned v' ∧ Pk.OwnL w0.heap.size w' v' (A ++ inB f n n) ∧ Old w0 w' := by
  obtain ⟨_, p, c, rfl, _, _, hc⟩ := hv
  have HC := hid hc
  have HF := hid hf
  have HU0 := hid hu
  have HO0 := hid ho
  obtain ⟨pa, ca, rfl⟩ := OwnL.slice' ho
  clear hc hf hu ho
  have HN := hid (fun W => refNum_old (n : Int) (by omega) (by omega) W)
  have HNl := hid (Pk.num_len (n : Int) (by omega) (by omega)).2
  have hmm : (n : Int) ≤ 1000 := by omega
  go_enter Try.func48, Try.ntmps48
  go_upto_region 2 with (first | (go_at_call 71; refine (HN.out _).mono ?_; rintro e w1 ⟨v1, rfl, o1, u1⟩; have U1 := hid u1; have O1 := hid o1; clear u1 o1) | (go_at_call 70; refine (joinL (OwnL.old' HO0.out U1.out) O1.out (by have := HU0.out.size; have := U1.out.size; omega) (fun j e => (OwnL.lt' HO0.out j e).2) (by have := HNl.out; omega)).mono ?_; rintro e w2 ⟨v2, rfl, o2, g2⟩; have O2 := hid (show Pk.OwnL w0.heap.size w2 v2 (A ++ inB f n 0) from by simpa [inB, lsI] using o2); have U2 := hid (show Old w0 w2 from Below.grown (HU0.out.trans U1.out) g2 (HU0.out.trans U1.out).size (fun k e => (OwnL.lt' HO0.out k e).1)); clear o2 g2))
  clear HN HO0 HU0 O1 U1
  go_upto_region 3 with (fail)
  go_loopw [0, 5] (fun o i wr => ∃ k : Nat, k ≤ n ∧ i = .int .i64 (k : Nat) ∧ Pk.OwnL w0.heap.size wr o (A ++ inB f n k) ∧ Old w0 wr) (fun _ i _ => n - (intOf i).toNat)
  case atStart => exact ⟨0, Nat.zero_le _, rfl, O2.out, U2.out⟩
  case round =>
    obtain ⟨k, hk, rfl, ho, hu⟩ := hrel
    obtain ⟨pb, cb, e⟩ := OwnL.slice' ho
    obtain ⟨ln, hln⟩ : ∃ ln, (A ++ inB f n k).length = ln := ⟨_, rfl⟩
    rw [hln] at e
    subst e
    have HU := hid hu
    have HO := hid ho
    clear hu ho O2 U2 hln
    by_cases hlt : k < n
    · obtain ⟨b, off, ha, c0⟩ := HC.out k hlt
      subst ha
      have x0 := HU.out.keep c0
      have l1 : (0 : Int) ≤ (k : Int) := by omega
      have l2 : (k : Int) < (n : Int) := by omega
      clear c0
      have hfk := HF.out k hlt
      have HK := hid (fun W => refNum_old (f k) (by omega) (by omega) W)
      have HS := hid (inB_step f n k)
      have HL := hid (inB_len f n k hn HF.out hk)
      have HL2 := hid (Pk.num_len (f k) (by omega) (by omega)).2
      generalize f k = xk at *
      generalize hKl : inB f n k = KL at *
      clear hKl
      go_wp2_with (first | (go_at_call 71; refine (HK.out _).mono ?_; rintro e w3 ⟨v3, rfl, o3, u3⟩; have O3 := hid o3; have U3 := hid u3; clear o3 u3) | (go_at_call 70; refine (joinL (OwnL.old' HO.out U3.out) O3.out (by have := HU.out.size; have := U3.out.size; omega) (fun j e => (OwnL.lt' HO.out j e).2) (by have := HL.out; have := HL2.out; rw [List.length_append]; omega)).mono ?_; rintro e w4 ⟨v4, rfl, o4, g4⟩; have O4 := hid o4; have U4 := hid (show Old w0 w4 from Below.grown (HU.out.trans U3.out) g4 (HU.out.trans U3.out).size (fun k e => (OwnL.lt' HO.out k e).1)); clear o4 g4))
      go_roundw
      case rel => exact ⟨k + 1, hlt, by go_num, by rw [HS.out, ← List.append_assoc]; exact O4.out, U4.out⟩
      case measure => simp [intOf]; omega
    · obtain rfl : k = n := by omega
      go_wp2
      go_ret
      exact ⟨_, rfl, HO.out, HU.out⟩
end Go.Proofs.Ytcicefpcledmgaa
