/- Rows of rows of bytes: one that came in, and one that the call itself makes; frames one behind the other; conditions: the lengths fit. -/
import Derived.Test.YtobdgdcccogghabDoorTu
import Derived.Test.YtobdgdcccogghabDoorEn
namespace Go.Proofs.YtobdgdcccogghabDoor
open Go.ChangeShapes Go.WideShapes Go.RowKit
set_option linter.unusedVariables false
/-- A payload as it lies in memory. -/
structure Pay where
  v : Value
  n : Nat
  x : Nat → Nat
def PRow (w : World) (v : Value) (m : Nat) (P : Nat → Pay) : Prop :=
  (m = 0 ∧ ∃ a c, v = .slice a 0 c) ∨ (0 < m ∧ ∃ b off cap, v = .slice (some ⟨b, off, none⟩) m cap ∧ m ≤ maxLen ∧ ∀ i, i < m → w.cell? ⟨b, off + i, none⟩ = some (P i).v ∧ ByRow w (P i).v (P i).n (P i).x)
theorem trod_bytes {H : Type} {enc : TypeId × Value → H} {w : World} {fuel : Nat} {v : Value} {y : DataW H × List MemPlace} (h : DataW.trod enc Tryd.prog w 0 (fun _ => true) true fuel 22 [v] = some y) : ∃ n x, ByRow w v n x := by
  rcases DataW.trod_slice Tryd.underlying22 h with ⟨hcs, _⟩ | ⟨a, len, cap, elems, rest, m, _, hcs, _, hb, hl, hm, hlen, hel, _, _⟩
  · simp at hcs; subst hcs
    exact ⟨0, fun _ => 0, .inl ⟨rfl, none, 0, rfl, fun _ => rfl⟩⟩
  · simp at hcs; subst hcs
    by_cases hz : len = 0
    · subst hz; exact ⟨0, fun _ => 0, .inl ⟨rfl, _, _, rfl, fun h => by cases h⟩⟩
    · have each : ∀ i, i < len → ∃ n : Int, w.cell? (a.add i) = some (.int .u8 n) ∧ 0 ≤ n ∧ n < 256 := by
        intro i hi
        have h1 := hel i hi
        have h2 : elems[i]? = some (elems[i]'(by omega)) := List.getElem?_eq_getElem (by omega)
        rw [h2, cellsByte, Nat.mul_one, Option.bind_eq_some_iff] at h1
        obtain ⟨cs', hcs, hy'⟩ := h1
        obtain ⟨n, rfl, _, hw⟩ := DataW.trod_int Tryd.underlying5 hy'
        exact ⟨n, cell_of_cells?_one hcs, by simp [Lit.wf, IntKind.min, IntKind.max, IntKind.bits, IntKind.signed] at hw; omega⟩
      obtain ⟨b, off, spot⟩ := a
      obtain ⟨n0, h0, _⟩ := each 0 (by omega)
      have hspot : spot = none := by simpa [Addr.add] using World.cell?_spot h0
      subst hspot
      refine ⟨len, fun i => match w.cell? ⟨b, off + i, none⟩ with | some (.int _ n) => n.toNat | _ => 0, .inr ⟨by omega, by omega, b, off, cap, rfl, fun i hi => ?_, hl, hm⟩⟩
      obtain ⟨n, hn, hw⟩ := each i hi
      rw [Go.WideShapes.add_plain] at hn
      simp only [hn]
      exact ⟨by omega, by rw [Int.toNat_of_nonneg hw.1]⟩
theorem cellsRow : Tryd.prog.cellsOf 22 = 1 := by kernel_rfl
theorem open_rows {H : Type} {enc : TypeId × Value → H} {w : World} {base : Nat} {v : Value} {d : DataW H} {ps : List MemPlace} (hv : Value.okWide Tryd.prog w .any base 37 v) (h : DataW.Trod enc Tryd.prog w 0 (fun _ => true) true 37 v d ps) :
    ∃ (m : Nat) (P : Nat → Pay), PRow w v m P ∧ ((d = .nil ∧ m = 0) ∨ ∃ elems spare, d = .slice elems spare ∧ elems.length = m) := by
  obtain ⟨a0, len0, cap0, rfl⟩ := okWide_slice Tryd.underlying37 hv
  obtain ⟨fuel, hf⟩ := h
  rcases DataW.trod_slice Tryd.underlying37 hf with ⟨hcs, hd⟩ | ⟨a, len, cap, elems, rest, m, _, hcs, hd, hb, hl, hm, hlen, hel, _, _⟩
  · simp [Value.cells] at hcs
    obtain ⟨rfl, rfl, rfl⟩ := hcs
    simp at hd
    exact ⟨0, fun _ => ⟨.nilIface, 0, fun _ => 0⟩, .inl ⟨rfl, none, 0, rfl⟩, .inl ⟨hd.1, rfl⟩⟩
  · simp [Value.cells] at hcs
    obtain ⟨ha, hln, hcp⟩ := hcs
    rw [ha, hln, hcp]
    clear ha hln hcp hf hv a0 len0 cap0
    simp only [Prod.mk.injEq] at hd
    have hdd : d = .slice (elems.map (·.1)) (rest.map (·.1)) := hd.1
    by_cases hz : len = 0
    · subst hz; exact ⟨0, fun _ => ⟨.nilIface, 0, fun _ => 0⟩, .inl ⟨rfl, _, _, rfl⟩, .inr ⟨_, _, hdd, by simpa using hlen⟩⟩
    · have each : ∀ i, i < len → ∃ p : Pay, w.cell? (a.add i) = some p.v ∧ ByRow w p.v p.n p.x := by
        intro i hi
        have h1 := hel i hi
        have h2 : elems[i]? = some (elems[i]'(by omega)) := List.getElem?_eq_getElem (by omega)
        rw [h2, cellsRow, Nat.mul_one, Option.bind_eq_some_iff] at h1
        obtain ⟨cs', hcs, hy'⟩ := h1
        obtain ⟨u, rfl⟩ : ∃ u, cs' = [u] := by
          rcases DataW.trod_slice Tryd.underlying22 hy' with ⟨e, _⟩ | ⟨_, _, _, _, _, _, _, e, _⟩
          · exact ⟨_, e⟩
          · exact ⟨_, e⟩
        obtain ⟨n, x, hr⟩ := trod_bytes hy'
        exact ⟨⟨u, n, x⟩, cell_of_cells?_one hcs, hr⟩
      obtain ⟨b, off, spot⟩ := a
      obtain ⟨p0, h0, _⟩ := each 0 (by omega)
      have hspot : spot = none := by simpa [Addr.add] using World.cell?_spot h0
      subst hspot
      have each2 : ∀ i, ∃ p : Pay, i < len → w.cell? ⟨b, off + i, none⟩ = some p.v ∧ ByRow w p.v p.n p.x := by
        intro i
        by_cases hi : i < len
        · obtain ⟨p, q1, q2⟩ := each i hi
          rw [Go.WideShapes.add_plain] at q1
          exact ⟨p, fun _ => ⟨q1, q2⟩⟩
        · exact ⟨p0, fun h => absurd h hi⟩
      exact ⟨len, fun i => Classical.choose (each2 i), .inr ⟨by omega, b, off, cap, rfl, by omega, fun i hi => Classical.choose_spec (each2 i) hi⟩, .inr ⟨_, _, hdd, by simpa using hlen⟩⟩
/-- Those of the first i that are short enough. -/
def kp (P : Nat → Pay) : Nat → List Pay | 0 => [] | i + 1 => if (P i).n ≤ 4096 then kp P i ++ [P i] else kp P i
def fr (p : Pay) : List Nat := (List.range (8 + p.n)).map (frm p.n (Crc.sum p.x p.n) p.x)
def cc : List Pay → List Nat | [] => [] | p :: L => fr p ++ cc L
theorem cc_app (L : List Pay) (p : Pay) : cc (L ++ [p]) = cc L ++ fr p := by
  induction L with
  | nil => simp [cc]
  | cons q L ih => simp [cc, ih]
theorem fr_len (p : Pay) : (fr p).length = 8 + p.n := by simp [fr]
theorem fr_get (p : Pay) (i : Nat) (h : i < 8 + p.n) : gd (fr p) i = frm p.n (Crc.sum p.x p.n) p.x i := by simp [fr, gd, List.getD, h]
theorem kp_small (P : Nat → Pay) : ∀ i, ∀ p ∈ kp P i, p.n ≤ 4096
  | 0, p, h => by simp [kp] at h
  | i + 1, p, h => by
    unfold kp at h; split at h
    · simp at h; rcases h with h | h
      · exact kp_small P i p h
      · subst h; assumption
    · exact kp_small P i p h
theorem kp_len (P : Nat → Pay) : ∀ i, (kp P i).length ≤ i
  | 0 => by simp [kp]
  | i + 1 => by unfold kp; have := kp_len P i; split <;> simp <;> omega
theorem cc_len (P : Nat → Pay) : ∀ i, (cc (kp P i)).length ≤ i * 4104
  | 0 => by simp [kp, cc]
  | i + 1 => by
    have := cc_len P i
    rw [show kp P (i + 1) = if (P i).n ≤ 4096 then kp P i ++ [P i] else kp P i from rfl]
    generalize kp P i = K at *
    split
    · next h => rw [cc_app, List.length_append, fr_len, Nat.add_mul]; omega
    · rw [Nat.add_mul]; exact Nat.le_trans this (Nat.le_add_right _ _)
/-- The slice value v owns a row of these payloads' values. -/
def OwnS (base : Nat) (w : World) (v : Value) (L : List Pay) : Prop := w.ownsRow base 22 1 v L.length (L.map Pay.v)
theorem own_apart {base : Nat} {w : World} {va vk : Value} {n : Nat} {x : Nat → Nat} {L : List Pay} (h : OwnB base w va n x) (k : OwnS base w vk L) : (va.ownBlock = none ∨ va.ownBlock ≠ vk.ownBlock) ∧ (vk.ownBlock = none ∨ vk.ownBlock ≠ va.ownBlock) := by
  rcases h.own.2 with ⟨rfl, _⟩ | ⟨g, cap, cur, rfl, _, hg, _⟩
  · rcases k.2 with ⟨rfl, _⟩ | ⟨g2, cap2, cur2, rfl, _, hg2, _⟩
    · exact ⟨.inl rfl, .inl rfl⟩
    · exact ⟨.inl rfl, .inr (by simp [Value.ownBlock])⟩
  · rcases k.2 with ⟨rfl, _⟩ | ⟨g2, cap2, cur2, rfl, _, hg2, _⟩
    · exact ⟨.inr (by simp [Value.ownBlock]), .inl rfl⟩
    · have hne : g ≠ g2 := by intro e; subst e; rw [hg] at hg2; simp at hg2
      exact ⟨.inr (by simp [Value.ownBlock]; exact hne), .inr (by simp [Value.ownBlock]; exact fun e => hne e.symm)⟩
theorem OwnS.up {base : Nat} {w w' : World} {v : Value} {L : List Pay} (h : OwnS base w v L) (u : Up w w') : OwnS base w' v L := by
  refine ⟨h.1, ?_⟩
  rcases h.2 with e | ⟨g, cap, cur, e, hb', hg, r⟩
  · exact .inl e
  · exact .inr ⟨g, cap, cur, e, hb', by rw [u.block g (lt_of_block hg)]; exact hg, r⟩
theorem infoRow : (Tryd.prog.info? 22).map (fun i => (i.zero, i.size, i.bytes)) = some (some (.slice none 0 0), 1, 24) := by kernel_rfl
theorem ByRow.one {w : World} {v : Value} {n : Nat} {x : Nat → Nat} (h : ByRow w v n x) : v.oneCell' = true := by
  rcases h with ⟨_, a, c, rfl, _⟩ | ⟨_, _, b, off, cap, rfl, _⟩ <;> rfl
/-- 'append(s, p)' of one row of bytes, s the call's own. -/
theorem wp_keep {ops : Array Oper} {rest : List Oper} {o : Oper} {a : Act} {Q : Exit → Act → World → Prop} {w : World} (hgd : o.guard = none) (s x : Operand)
    (ho : o.op = .call { callee := .builtin .append, args := #[s, x], argTypes := #[37, 37] }) (base : Nat) (v : Value) (L : List Pay) (p : Pay) (g c : Nat)
    (hs : a.eval s = v) (hx : a.eval x = .slice (some ⟨g, 0, none⟩) 1 c) (hown : OwnS base w v L) (hc : w.cell? ⟨g, 0, none⟩ = some p.v) (h1 : p.v.oneCell' = true) (hb : L.length ≤ 2000000) (hbase : base ≤ w.heap.size)
    (h : ∀ v' w', OwnS base w' v' (L ++ [p]) → w.grownBy w' v.ownBlock → Below base w w' → wpList Tryd.prog ops Q rest (a.put o.dst v') w') : wpList Tryd.prog ops Q (o :: rest) a w := by
  obtain ⟨i0, hi, hz0, hz1, hz2⟩ := info_parts infoRow
  refine wpList_append_own w hgd s x 37 ho base 22 i0 (.slice none 0 0) 1 24 Tryd.underlying37 hi hz0 hz1 hz2 rfl (by decide) v L.length (L.map Pay.v) hs hown ⟨g, 0, none⟩ 1 c [p.v] hx rfl ?_ (by simpa using h1) (by unfold maxLen; omega) (by omega) hbase ?_
  · intro j u hj
    match j, hj with
    | 0, hj => simp at hj; subst hj; rw [Go.WideShapes.add_plain]; exact hc
  · intro v' w' q1 q2 _
    refine h v' w' (by unfold OwnS; simpa using q1) q2 (Below.grown (Below.refl _ _) q2 hbase (fun k hk => (hown.lt k hk).1))
theorem unf_cut (n S k : Nat) (x : Nat → Nat) (h : n ≤ 4096) (hk : k < 8 + n) : unfE k (frm n S x) = 31 := by
  unfold unfE
  by_cases h8 : k < 8
  · rw [if_pos h8]
  · rw [if_neg h8, frm_len n S x (by omega), if_neg (by omega), if_pos hk]
theorem unf_head (p : Pay) (y : Nat → Nat) (m : Nat) (h : p.n ≤ 4096) (hm : 8 + p.n ≤ m) (hy : ∀ i, i < 8 + p.n → y i = frm p.n (Crc.sum p.x p.n) p.x i) : unfE m y = 0 ∧ w32 y = p.n ∧ ∀ i, i < p.n → sh 8 y i = p.x i := by
  have e1 : w32 y = p.n := (w32_congr (fun i hi => hy i (by omega))).trans (frm_len _ _ _ (by omega))
  have e2 : w32 (sh 4 y) = Crc.sum p.x p.n := (w32_congr (fun i hi => hy (4 + i) (by omega))).trans (frm_sum _ _ _ (sum_lt _ _))
  have e3 : ∀ i, i < p.n → sh 8 y i = p.x i := fun i hi => (hy (8 + i) (by omega)).trans (congrFun (frm_pay p.n (Crc.sum p.x p.n) p.x) i)
  refine ⟨?_, e1, e3⟩
  unfold unfE
  rw [e1, if_neg (by omega), if_neg (by omega), if_neg (by omega), if_pos]
  rw [e2]; exact sum_congr e3
end Go.Proofs.YtobdgdcccogghabDoor
