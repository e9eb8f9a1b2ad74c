/- SameBytes at any two rows; what a net has was sent, or is a beginning of it; plain, and a row of letters beside a net. -/
import Derived.Test.YtejeihbcakojeaaNg
namespace Go.Proofs.Ytejeihbcakojeaa
open Go.RowKit Go.Lib
set_option linter.unusedVariables false
set_option linter.unusedSimpArgs false
set_option maxRecDepth 20000
theorem byRow_slice {w : World} {v : Value} {n : Nat} {x : Nat → Nat} (h : Pk.ByRow w v n x) : ∃ a c, v = .slice a n c := by
  rcases h with ⟨h0, a, c, e, _⟩ | ⟨_, _, b, off, cap, e, _⟩
  · exact ⟨a, c, by rw [e, h0]⟩
  · exact ⟨_, _, e⟩
theorem Rw.take {w : World} {p : Option Addr} {n c : Nat} {L : List Nat} (h : Rw w (.slice p n c) L) (m : Nat) (hm : m ≤ L.length) : Rw w (.slice p m c) (L.take m) := by
  unfold Rw at *
  have e : (L.take m).length = m := by simp; omega
  rw [e]
  rcases h with ⟨h0, a, c', hv, hz⟩ | ⟨h0, hmx, b, off, cap, hv, hc, hcp⟩
  · cases hv
    obtain rfl : m = 0 := by omega
    exact .inl ⟨rfl, _, _, rfl, hz⟩
  · cases hv
    by_cases m0 : m = 0
    · subst m0
      exact .inl ⟨rfl, _, _, rfl, fun e => by cases e⟩
    · refine .inr ⟨by omega, by omega, b, off, _, rfl, fun i hi => ?_, by omega, hcp.2⟩
      have q : gd (L.take m) i = gd L i := by simp [gd, List.getElem?_take, hi]
      rw [q]
      exact hc i (by omega)
set_option maxHeartbeats 400000 in
set_option maxRecDepth 20000 in
theorem sameBytes_len (a b : Option Addr) (n m c d : Nat) (h : n ≠ m) (w : World) : Calls Try.prog 10 #[.slice a n c, .slice b m d] w fun e w' => e = .returned (.bool false) ∧ w' = w := by
  have t : ((n : Int) != (m : Int)) = true := by rw [bne_iff_ne]; omega
  clear h
  go_enter Try.func10, Try.ntmps10
  go_wp2
  go_ret
  exact ⟨rfl, rfl⟩
set_option maxHeartbeats 400000 in
set_option maxRecDepth 20000 in
theorem sameBytes_dif (b1 o1 c1 b2 o2 c2 n : Nat) (x y : Nat → Nat) (hm : n ≤ maxLen) (w : World) (hx : ∀ i, i < n → w.cell? ⟨b1, o1 + i, none⟩ = some (.int .u8 (x i : Int))) (hy : ∀ i, i < n → w.cell? ⟨b2, o2 + i, none⟩ = some (.int .u8 (y i : Int))) (j : Nat) (hj : j < n) (he : ∀ i, i < j → y i = x i) (hd : x j ≠ y j) :
    Calls Try.prog 10 #[.slice (some ⟨b1, o1, none⟩) n c1, .slice (some ⟨b2, o2, none⟩) n c2] w fun e w' => e = .returned (.bool false) ∧ Old w w' := by
  unfold maxLen at hm
  have HX := hid hx
  have HY := hid hy
  have HE := hid he
  have hd2 : ((x j : Int) != (y j : Int)) = true := by rw [bne_iff_ne]; omega
  have hd3 : ((x j : Int) == (y j : Int)) = false := by rw [beq_eq_false_iff_ne]; omega
  clear hx hy he
  go_enter Try.func10, Try.ntmps10
  go_wp2
  go_loopw [5] (fun i wx => ∃ k m : Nat, k ≤ j ∧ i = .int .i64 k ∧ wx = w.drewN m) (fun i _ => n - (intOf i).toNat)
  case atStart => exact ⟨0, 0, Nat.zero_le _, rfl, rfl⟩
  case round =>
    obtain ⟨k, m, hk, rfl, rfl⟩ := hrel
    have l1 : (0 : Int) ≤ (k : Int) := by omega
    have l2 : (k : Int) < (n : Int) := by omega
    have hlt0 : k < n := by omega
    by_cases hlt : k < j
    · have cx := HX.out k hlt0
      have cy := HY.out k hlt0
      rw [HE.out k hlt] at cy
      have t : ((x k : Int) != (x k : Int)) = false := by simp
      clear hd2 hd3 hd
      go_wp2
      go_quiet (fail)
      go_wp2
      exact ⟨⟨k + 1, _, hlt, by go_num, rfl⟩, by simp [intOf]; omega⟩
    · obtain rfl : j = k := by omega
      have cx := HX.out j hlt0
      have cy := HY.out j hlt0
      go_wp2
      go_quiet (fail)
      go_wp2
      go_ret
      exact ⟨rfl, ((Old.refl w).drewN _).drewN _⟩
theorem first_dif : ∀ (A B : List Nat), A.length = B.length → A ≠ B → ∃ j, j < A.length ∧ (∀ i, i < j → gd B i = gd A i) ∧ gd A j ≠ gd B j
  | [], [], _, h => (h rfl).elim
  | [], b :: B, h, _ => by simp at h
  | a :: A, [], h, _ => by simp at h
  | a :: A, b :: B, hl, h => by
    by_cases e : a = b
    · subst e
      obtain ⟨j, h1, h2, h3⟩ := first_dif A B (by simpa using hl) (fun q => h (by rw [q]))
      refine ⟨j + 1, by simp; omega, fun i hi => ?_, by simpa [gd] using h3⟩
      cases i with
      | zero => simp [gd]
      | succ i => have := h2 i (by omega); simpa [gd] using this
    · exact ⟨0, by simp, fun i hi => by omega, by simpa [gd] using e⟩
theorem sameBytesG (v u : Value) (A B : List Nat) (w : World) (h1 : Pk.ByRow w v A.length (gd A)) (h2 : Pk.ByRow w u B.length (gd B)) : Calls Try.prog 10 #[v, u] w fun e w' => e = .returned (.bool (decide (A = B))) ∧ Old w w' := by
  by_cases e : A = B
  · subst e
    rw [decide_eq_true rfl]
    exact sameL v u A w h1 h2
  · rw [decide_eq_false e]
    by_cases hl : A.length = B.length
    · obtain ⟨j, j1, j2, j3⟩ := first_dif A B hl e
      rw [← hl] at h2
      rcases h1 with ⟨z, _⟩ | ⟨hn, hm, b, off, cap, rfl, hc, _⟩
      · omega
      · rcases h2 with ⟨z, _⟩ | ⟨_, _, b2, off2, cap2, rfl, hc2, _⟩
        · omega
        · exact (sameBytes_dif _ _ _ _ _ _ _ _ _ hm w (fun i hi => (hc i hi).2) (fun i hi => (hc2 i hi).2) j j1 j2 j3)
    · obtain ⟨a, c, rfl⟩ := byRow_slice h1
      obtain ⟨a', c', rfl⟩ := byRow_slice h2
      exact (sameBytes_len a a' _ _ c c' hl w).mono fun e w' h => ⟨h.1, by rw [h.2]; exact Old.refl _⟩
theorem sameG (v u : Value) (A B : List Nat) (w : World) (h1 : Rw w v A) (h2 : Rw w u B) : Calls Try.prog 10 #[v, u] w fun e w' => e = .returned (.bool (decide (A = B))) ∧ Old w w' := sameBytesG v u A B w h1 h2
/-- All of P was sent, or is a beginning of what was. -/
def Made (S P : List PL) : Prop := ∀ x ∈ P, ∃ s ∈ S, s.1 = x.1 ∧ s.2.1 = x.2.1 ∧ x.2.2.length ≤ s.2.2.length ∧ x.2.2 = s.2.2.take x.2.2.length
theorem Made.more {S P : List PL} (h : Made S P) (T : List PL) : Made (S ++ T) P := fun x hx => by
  obtain ⟨s, hs, e⟩ := h x hx
  exact ⟨s, List.mem_append_left _ hs, e⟩
theorem Made.sub {S P Q : List PL} (h : Made S P) (hq : ∀ x ∈ Q, x ∈ P) : Made S Q := fun x hx => h x (hq x hx)
theorem getD_mem {P : List PL} {i : Nat} (h : i < P.length) : P.getD i (0, 0, []) ∈ P := by
  rw [List.getD_eq_getElem?_getD, List.getElem?_eq_getElem h]
  exact List.getElem_mem h
theorem hasP_lt {P : List PL} {i : Int} (h : hasP P i = true) : i.toNat < P.length := by unfold hasP at h; simp at h; omega
theorem Made.does {S P : List PL} {most : Nat} (h : Made S P) (o : Opn) : Made (S ++ (if o.k = 1 then [(o.f, o.t, o.L)] else [])) (doP most P o) := by
  unfold doP
  split
  · unfold sendP
    split
    · intro x hx
      rcases List.mem_append.1 hx with q | q
      · exact h.more _ x q
      · rw [List.mem_singleton.1 q]
        exact ⟨_, List.mem_append_right _ (by simp), rfl, rfl, Nat.le_refl _, by simp⟩
    · exact h.more _
  · rw [List.append_nil]
    have hd : ∀ i, Made S (dropP P i) := fun i => by
      unfold dropP
      split
      · exact h.sub (fun x hx => List.mem_of_mem_eraseIdx hx)
      · exact h
    split
    · exact hd _
    · split
      · exact hd _
      · split
        · unfold dblP
          split
          · rename_i c
            have hh : hasP P o.i = true := by unfold dblB at c; simp at c; exact c.1
            exact h.sub (fun x hx => by
              rcases List.mem_append.1 hx with q | q
              · exact q
              · rw [List.mem_singleton.1 q]; exact getD_mem (hasP_lt hh))
          · exact h
        · split
          · unfold swpP
            split
            · rename_i c
              have hh : hasP P o.i = true ∧ hasP P o.m = true := by unfold swpB at c; simp at c; exact c
              exact h.sub (fun x hx => by
                rcases List.mem_or_eq_of_mem_set hx with z | z
                · rcases List.mem_or_eq_of_mem_set z with y | y
                  · exact y
                  · rw [y]; exact getD_mem (hasP_lt hh.2)
                · rw [z]; exact getD_mem (hasP_lt hh.1))
            · exact h
          · unfold shtP
            split
            · rename_i c
              have hh : hasP P o.i = true := by unfold shtB at c; simp at c; exact c.1
              intro x hx
              rcases List.mem_or_eq_of_mem_set hx with z | z
              · exact h x z
              · obtain ⟨s, hs, e1, e2, e3, e4⟩ := h _ (getD_mem (hasP_lt hh))
                subst z
                refine ⟨s, hs, e1, e2, ?_, ?_⟩
                · show (List.dropLast _).length ≤ _
                  rw [List.length_dropLast]; omega
                · show List.dropLast _ = s.2.2.take (List.dropLast _).length
                  rw [List.length_dropLast]
                  conv => lhs; rw [e4]
                  rw [List.dropLast_eq_take, List.take_take, List.length_take]
                  congr 1
                  omega
            · exact h
def matB (s x : PL) : Bool := decide (s.1 = x.1) && decide (s.2.1 = x.2.1) && decide (x.2.2.length ≤ s.2.2.length) && decide (x.2.2 = s.2.2.take x.2.2.length)
def fndB (S : List PL) (x : PL) (j : Nat) : Bool := (S.take j).any fun s => matB s x
theorem fnd_succ (S : List PL) (x : PL) (j : Nat) (hj : j < S.length) : fndB S x (j + 1) = (fndB S x j || matB S[j] x) := by
  unfold fndB
  rw [(List.take_append_getElem hj).symm, List.any_append]
  simp
theorem fnd_made {S P : List PL} (h : Made S P) {x : PL} (hx : x ∈ P) : fndB S x S.length = true := by
  unfold fndB
  rw [List.take_length, List.any_eq_true]
  obtain ⟨s, hs, e1, e2, e3, e4⟩ := h x hx
  exact ⟨s, hs, by unfold matB; simp [e1, e2, e3]; exact e4⟩
theorem OwnT.empty (w : World) (g : Nat) (hg : w.heap.size = g) : OwnT w.heap.size (w.alloc (.cells #[] 30)) (.slice (some ⟨g, 0, none⟩) 0 0) [] := by
  subst hg
  exact ownT_of (X := []) (cap := 0) (Nat.le_refl _) (alloc_at w (.cells #[] 30)) (by simp) (by unfold maxLen; omega) rfl rfl
theorem OwnT.kt {base : Nat} {A : List Nat} {W W' : World} {v : Value} {X : List Lt} (h : OwnT base W v X) (k : Kt A W W') (hA : ∀ g, v.ownBlock = some g → g ∈ A) : OwnT base W' v X := by
  refine ⟨h.1, ?_⟩
  rcases h.2 with e | ⟨g, cap, cur, rfl, hb', hg, r⟩
  · exact .inl e
  · exact .inr ⟨g, cap, cur, rfl, hb', (k.is g (hA g rfl) (heap_lt hg)).trans hg, r⟩
/-- A row of letters of the law's own grows beside a net. -/
theorem Net.grow {w0 W W' : World} {nb most : Nat} {P : List PL} {v v' : Value} {X : List Lt} (h : Net w0 W nb most P v.ownBlock.toList) (o : OwnT w0.heap.size W v X) (ch : Chg v.ownBlock.toList W W') (e : v'.ownBlock = v.ownBlock ∨ v'.ownBlock = some W.heap.size) (hl : ∀ g, v'.ownBlock = some g → g < W'.heap.size) : Net w0 W' nb most P v'.ownBlock.toList := by
  obtain ⟨d, e1, e2, e3, h4, h5, h6, h7⟩ := h
  have hlt := h4.lt
  refine ⟨d, e1, e2, e3, h4.chg ch (fun k => (h7 _ k).1 (Nt.mem.2 (.inl rfl))) (fun g eg k => (h7 _ k).1 (Nt.mem.2 (.inr eg))) (fun y hy g eg k => ?_), h5, ch.oldOf h6 (fun k hk => (o.lt k (Option.mem_toList.1 hk)).1), fun g hg => ?_⟩
  · rcases o.cases with ⟨q, _⟩ | ⟨g', cap, cur, q, _, hg, _⟩
    · rw [q] at k; simp [Value.ownBlock] at k
    · rw [q] at k
      simp [Value.ownBlock] at k
      subst k
      exact (h4.byt y hy).1.offT hg (by decide) g eg (by simp)
  · have hg' := Option.mem_toList.1 hg
    refine ⟨fun z => ?_, hl g hg'⟩
    rcases e with q | q
    · exact (h7 g (by rw [← q]; exact hg)).1 z
    · rw [q] at hg'; cases hg'; have := hlt _ z; omega
end Go.Proofs.Ytejeihbcakojeaa
