/- The document's SameBytes at any two rows of bytes; a longer row of int64 appended to. -/
import Derived.Test.YtefffjlcfghniaaS21
import Derived.Test.YtefffjlcfghniaaS15a
namespace Go.Proofs.Ytefffjlcfghniaa
open Go.ChangeShapes Go.WideShapes Go.ChangeAt Go.RowKit Go.Joins Go.Lib
set_option linter.unusedVariables false
set_option linter.unusedSimpArgs false
set_option maxRecDepth 20000
set_option maxHeartbeats 400000 in
set_option maxRecDepth 20000 in
theorem sameBytes_len (a b : Option Addr) (n m c d : Nat) (h : n ≠ m) (w : World) : Calls Try.prog 12 #[.slice a n c, .slice b m d] w fun e w' => e = .returned (.bool false) ∧ w' = w := by
  have t : ((n : Int) != (m : Int)) = true := by rw [bne_iff_ne]; omega
  clear h
  go_enter Try.func12, Try.ntmps12
  go_wp2
  go_ret
  exact ⟨rfl, rfl⟩
set_option maxHeartbeats 400000 in
set_option maxRecDepth 20000 in
theorem sameBytes_dif (b1 o1 c1 b2 o2 c2 n : Nat) (x y : Nat → Nat) (hm : n ≤ maxLen) (w : World) (hx : ∀ i, i < n → w.cell? ⟨b1, o1 + i, none⟩ = some (.int .u8 (x i : Int))) (hy : ∀ i, i < n → w.cell? ⟨b2, o2 + i, none⟩ = some (.int .u8 (y i : Int))) (j : Nat) (hj : j < n) (he : ∀ i, i < j → y i = x i) (hd : x j ≠ y j) :
    Calls Try.prog 12 #[.slice (some ⟨b1, o1, none⟩) n c1, .slice (some ⟨b2, o2, none⟩) n c2] w fun e w' => e = .returned (.bool false) ∧ Old w w' := by
  unfold maxLen at hm
  have HX := hid hx
  have HY := hid hy
  have HE := hid he
  have hd2 : ((x j : Int) != (y j : Int)) = true := by rw [bne_iff_ne]; omega
  have hd3 : ((x j : Int) == (y j : Int)) = false := by rw [beq_eq_false_iff_ne]; omega
  clear hx hy he
  go_enter Try.func12, Try.ntmps12
  go_wp2
  go_loopw [5] (fun i wx => ∃ k m : Nat, k ≤ j ∧ i = .int .i64 k ∧ wx = w.drewN m) (fun i _ => n - (intOf i).toNat)
  case atStart => exact ⟨0, 0, Nat.zero_le _, rfl, rfl⟩
  case round =>
    obtain ⟨k, m, hk, rfl, rfl⟩ := hrel
    have l1 : (0 : Int) ≤ (k : Int) := by omega
    have l2 : (k : Int) < (n : Int) := by omega
    have hlt0 : k < n := by omega
    by_cases hlt : k < j
    · have cx := HX.out k hlt0
      have cy := HY.out k hlt0
      rw [HE.out k hlt] at cy
      have t : ((x k : Int) != (x k : Int)) = false := by simp
      clear hd2 hd3 hd
      go_wp2
      go_quiet (fail)
      go_wp2
      exact ⟨⟨k + 1, _, hlt, by go_num, rfl⟩, by simp [intOf]; omega⟩
    · obtain rfl : j = k := by omega
      have cx := HX.out j hlt0
      have cy := HY.out j hlt0
      go_wp2
      go_quiet (fail)
      go_wp2
      go_ret
      exact ⟨rfl, ((Old.refl w).drewN _).drewN _⟩
theorem first_dif : ∀ (A B : List Nat), A.length = B.length → A ≠ B → ∃ j, j < A.length ∧ (∀ i, i < j → Pk.gd B i = Pk.gd A i) ∧ Pk.gd A j ≠ Pk.gd B j
  | [], [], _, h => (h rfl).elim
  | [], b :: B, h, _ => by simp at h
  | a :: A, [], h, _ => by simp at h
  | a :: A, b :: B, hl, h => by
    by_cases e : a = b
    · subst e
      obtain ⟨j, h1, h2, h3⟩ := first_dif A B (by simpa using hl) (fun q => h (by rw [q]))
      refine ⟨j + 1, by simp; omega, fun i hi => ?_, by simpa [Pk.gd] using h3⟩
      cases i with
      | zero => simp [Pk.gd]
      | succ i => have := h2 i (by omega); simpa [Pk.gd] using this
    · exact ⟨0, by simp, fun i hi => by omega, by simpa [Pk.gd] using e⟩
theorem sameBytesG (v u : Value) (A B : List Nat) (w : World) (h1 : Pk.ByRow w v A.length (Pk.gd A)) (h2 : Pk.ByRow w u B.length (Pk.gd B)) : Calls Try.prog 12 #[v, u] w fun e w' => e = .returned (.bool (decide (A = B))) ∧ Old w w' := by
  by_cases e : A = B
  · subst e
    rw [decide_eq_true rfl]
    exact sameBytesL v u A w h1 h2
  · rw [decide_eq_false e]
    by_cases hl : A.length = B.length
    · obtain ⟨j, j1, j2, j3⟩ := first_dif A B hl e
      rw [← hl] at h2
      rcases h1 with ⟨z, _⟩ | ⟨hn, hm, b, off, cap, rfl, hc, _⟩
      · omega
      · rcases h2 with ⟨z, _⟩ | ⟨_, _, b2, off2, cap2, rfl, hc2, _⟩
        · omega
        · exact (sameBytes_dif _ _ _ _ _ _ _ _ _ hm w (fun i hi => (hc i hi).2) (fun i hi => (hc2 i hi).2) j j1 j2 j3)
    · obtain ⟨a, c, rfl⟩ := byRow_slice h1
      obtain ⟨a', c', rfl⟩ := byRow_slice h2
      exact (sameBytes_len a a' _ _ c c' hl w).mono fun e w' h => ⟨h.1, by rw [h.2]; exact Old.refl _⟩
theorem wp_appNb {ops : Array Oper} {rest : List Oper} {o : Oper} {a : Act} {Q : Exit → Act → World → Prop} {w : World} (hgd : o.guard = none) (s x : Operand)
    (ho : o.op = .call { callee := .builtin .append, args := #[s, x], argTypes := #[64, 64] }) (base : Nat) (v : Value) (L : List Int) (g c1 : Nat) (y : Int)
    (hs : a.eval s = v) (hx : a.eval x = .slice (some ⟨g, 0, none⟩) 1 c1) (hown : OwnN base w v L) (hc : w.cell? ⟨g, 0, none⟩ = some (.int .i64 y)) (hb : L.length + 1 ≤ 2000000) (hbase : base ≤ w.heap.size)
    (h : ∀ v' w', OwnN base w' v' (L ++ [y]) → w.grownBy w' v.ownBlock → wpList Try.prog ops Q rest (a.put o.dst v') w') : wpList Try.prog ops Q (o :: rest) a w := by
  obtain ⟨i0, hi, hz0, hz1, hz2⟩ := info_parts infoI64
  refine wpList_append_own_at w hgd s x 64 ho base 2 i0 _ 1 8 Try.underlying64 hi hz0 hz1 hz2 rfl (by decide) v L.length (ils L) hs hown ⟨g, 0, none⟩ 1 c1 (ils [y]) hx rfl ?_ ?_ (by unfold maxLen; omega) (by omega) hbase ?_
  · intro j u hj
    match j with
    | 0 => simp [ils] at hj; subst hj; rw [Go.WideShapes.add_plain]; exact hc
    | j + 1 => simp [ils] at hj
  · intro u hu; simp [ils] at hu; subst hu; rfl
  · intro v' w' h1 h2 h3 h4
    exact h v' w' (by unfold OwnN; rw [ils_app] at h1; simpa using h1) h2
theorem OwnN.empty {w : World} : OwnN w.heap.size (w.alloc (.cells #[] 2)) (.slice (some ⟨w.heap.size, 0, none⟩) 0 0) [] := by
  refine ⟨rfl, .inr ⟨w.heap.size, 0, #[], rfl, Nat.le_refl _, alloc_heap w _ _ rfl, Nat.le_refl _, by unfold maxLen; omega, rfl, rfl⟩⟩
/-- Where a row of int64 of the call's own lies. -/
theorem OwnN.at {base : Nat} {w : World} {a : Option Addr} {n c : Nat} {L : List Int} (h : OwnN base w (.slice a n c) L) (hn : L.length = n) (h0 : 0 < n) : ∃ g, a = some ⟨g, 0, none⟩ ∧ base ≤ g ∧ n ≤ c ∧ c ≤ 9223372036854775807 ∧ ∀ i, i < n → w.cell? ⟨g, i, none⟩ = some (.int .i64 (L.getD i 0)) := by
  have h2 := h
  unfold OwnN at h2
  rcases h2.2 with ⟨_, e⟩ | ⟨g, cap, cur, e, hb, hg, hnc, hcm, hcs, htk⟩
  · omega
  · injection e with e1 e2 e3
    subst e1 e2 e3
    unfold maxLen at hcm
    refine ⟨g, rfl, hb, by omega, by omega, fun i hi => ?_⟩
    have q := h2.cellAt i (by omega)
    rw [q]
    simp [ils, List.getD_eq_getElem?_getD, hi]
end Go.Proofs.Ytefffjlcfghniaa
