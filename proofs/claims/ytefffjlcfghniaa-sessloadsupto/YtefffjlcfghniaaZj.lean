/- The document's Kept of layer 13: a session's items, rising; conditions: the row lies in memory, no number is below 1. -/
import Derived.Test.YtefffjlcfghniaaZi
namespace Go.Proofs.Ytefffjlcfghniaa
open Go.RowKit Go.Lib
set_option linter.unusedVariables false
set_option linter.unusedSimpArgs false
set_option maxRecDepth 20000
def oc (o : Opv) : List Value := [.int .i64 o.s, .int .i64 o.x.n, .int .i64 o.x.c, .int .i64 o.x.m]
def ocs : List Opv → List Value | [] => [] | o :: t => oc o ++ ocs t
theorem ocs_len : ∀ L, (ocs L).length = L.length * 4
  | [] => rfl
  | o :: t => by show (oc o ++ ocs t).length = _; rw [List.length_append, ocs_len t]; simp [oc]; omega
theorem ocs_app : ∀ L M, ocs L ++ ocs M = ocs (L ++ M)
  | [], M => rfl
  | o :: t, M => by show (oc o ++ ocs t) ++ ocs M = oc o ++ ocs (t ++ M); rw [List.append_assoc, ocs_app t M]
theorem ocs_one : ∀ (L : List Opv), ∀ u ∈ ocs L, u.oneCell' = true
  | [], u, h => by cases h
  | o :: t, u, h => by
    rcases List.mem_append.1 (show u ∈ oc o ++ ocs t from h) with q | q
    · simp [oc] at q; rcases q with rfl | rfl | rfl | rfl <;> rfl
    · exact ocs_one t u q
theorem ocs_at : ∀ (L : List Opv) (i : Nat), i < L.length → (ocs L)[i * 4]? = some (.int .i64 (opA L i).s) ∧ (ocs L)[i * 4 + 1]? = some (.int .i64 (opA L i).x.n) ∧ (ocs L)[i * 4 + 2]? = some (.int .i64 (opA L i).x.c) ∧ (ocs L)[i * 4 + 3]? = some (.int .i64 (opA L i).x.m)
  | [], i, hi => by simp at hi
  | o :: t, 0, hi => ⟨rfl, rfl, rfl, rfl⟩
  | o :: t, i + 1, hi => by
    have q := ocs_at t i (by simpa using hi)
    have e1 : ocs (o :: t) = .int .i64 o.s :: .int .i64 o.x.n :: .int .i64 o.x.c :: .int .i64 o.x.m :: ocs t := rfl
    have e2 : opA (o :: t) (i + 1) = opA t i := by simp [opA]
    rw [e1, e2, show (i + 1) * 4 = i * 4 + 1 + 1 + 1 + 1 by omega]
    simpa using q
theorem infoOpR : (Try.prog.info? 44).map (fun i => (i.zero, i.size, i.bytes)) = some (some (.agg #[.int .i64 0, .int .i64 0, .int .i64 0, .int .i64 0]), 4, 32) := by kernel_rfl
/-- The document's items, a row of the call's own. -/
def OwnO (base : Nat) (w : World) (v : Value) (L : List Opv) : Prop := w.ownsRow base 44 4 v L.length (ocs L)
theorem OwnO.up {base : Nat} {w w' : World} {v : Value} {L : List Opv} (h : OwnO base w v L) (u : Old w w') : OwnO base w' v L := by
  refine ⟨h.1, ?_⟩
  rcases h.2 with e | ⟨g, cap, cur, e, hb', hg, r⟩
  · exact .inl e
  · exact .inr ⟨g, cap, cur, e, hb', u.block hg, r⟩
theorem OwnO.mono {base b' : Nat} {w : World} {v : Value} {L : List Opv} (h : OwnO base w v L) (hb : b' ≤ base) : OwnO b' w v L := by
  refine ⟨h.1, ?_⟩
  rcases h.2 with e | ⟨g, cap, cur, e, hb', r⟩
  · exact .inl e
  · exact .inr ⟨g, cap, cur, e, by omega, r⟩
theorem OwnO.len {base : Nat} {w : World} {v : Value} {L : List Opv} (h : OwnO base w v L) : ∃ a c, v = .slice a L.length c := by
  rcases h.2 with ⟨rfl, e⟩ | ⟨g, cap, cur, rfl, _⟩
  · exact ⟨none, 0, by rw [e]⟩
  · exact ⟨_, _, rfl⟩
theorem OwnO.made (w : World) : OwnO w.heap.size (w.alloc (.cells #[] 44)) (.slice (some ⟨w.heap.size, 0, none⟩) 0 0) [] := World.ownsRow_made w #[] 0 (Nat.le_refl _) (by unfold maxLen; omega) rfl
theorem OwnO.rrow {base : Nat} {w : World} {v : Value} {L : List Opv} (h : OwnO base w v L) (hl : L.length ≤ 1000) : RRow w v L := by
  have h2 := h
  unfold OwnO at h2
  rcases h2.2 with ⟨e1, e⟩ | ⟨g, cap, cur, rfl, hb, hg, hnc, hcm, hcs, htk⟩
  · exact ⟨by omega, none, 0, by rw [e1, e], fun i hi => by omega⟩
  · refine ⟨by omega, _, cap, rfl, fun i hi => ⟨g, rfl, ?_⟩⟩
    obtain ⟨a, b, c, d⟩ := ocs_at L i hi
    have q := h2.cells (g := g) rfl
    have q0 := q _ _ a
    have q1 := q _ _ b
    have q2 := q _ _ c
    have q3 := q _ _ d
    rw [Go.WideShapes.add_plain, Nat.zero_add] at q0 q1 q2 q3
    exact ⟨q0, q1, q2, q3⟩
theorem wp_appO {ops : Array Oper} {rest : List Oper} {o : Oper} {a : Act} {Q : Exit → Act → World → Prop} {w : World} (hgd : o.guard = none) (s x : Operand)
    (ho : o.op = .call { callee := .builtin .append, args := #[s, x], argTypes := #[40, 40] }) (base : Nat) (v : Value) (L : List Opv) (y : Opv) (g c1 : Nat)
    (hs : a.eval s = v) (hx : a.eval x = .slice (some ⟨g, 0, none⟩) 1 c1) (hown : OwnO base w v L) (hc : OpIn w g 0 y) (hb : L.length + 1 ≤ 1000000) (hbase : base ≤ w.heap.size)
    (h : ∀ v' w', OwnO base w' v' (L ++ [y]) → w.grownBy w' v.ownBlock → (v'.ownBlock = v.ownBlock ∨ v'.ownBlock = some w.heap.size) → wpList Try.prog ops Q rest (a.put o.dst v') w') : wpList Try.prog ops Q (o :: rest) a w := by
  obtain ⟨i0, hi, hz0, hz1, hz2⟩ := info_parts infoOpR
  refine wpList_append_own_at w hgd s x 40 ho base 44 i0 _ 4 32 Try.underlying40 hi hz0 hz1 hz2 rfl (by decide) v L.length (ocs L) hs hown ⟨g, 0, none⟩ 1 c1 (ocs [y]) hx rfl ?_ (ocs_one _) (by unfold maxLen; omega) (by omega) hbase ?_
  · intro j u hj
    rw [Go.WideShapes.add_plain]
    obtain ⟨x0, x1, x2, x3⟩ := hc
    match j with
    | 0 => simp [ocs, oc] at hj; subst hj; exact x0
    | 1 => simp [ocs, oc] at hj; subst hj; exact x1
    | 2 => simp [ocs, oc] at hj; subst hj; exact x2
    | 3 => simp [ocs, oc] at hj; subst hj; exact x3
    | j + 4 => simp [ocs, oc] at hj
  · intro v' w' h1 h2 h3 h4
    exact h v' w' (by unfold OwnO; rw [ocs_app] at h1; simpa using h1) h2 h4
theorem cell_oneO (w : World) (y : Opv) (g : Nat) (hg : w.heap.size = g) : OpIn (w.alloc (.cells #[.int .i64 y.s, .int .i64 y.x.n, .int .i64 y.x.c, .int .i64 y.x.m] 44)) g 0 y := by subst hg; exact ⟨by simp, by simp, by simp, by simp⟩
theorem opA_app (L : List Opv) (y : Opv) : opA (L ++ [y]) L.length = y := by simp [opA]
/-- The last one's number, 0 of none. -/
def loK (O : List Opv) : Int := if O.length = 0 then 0 else (opA O (O.length - 1)).x.n
theorem loK_app (O : List Opv) (y : Opv) : loK (O ++ [y]) = y.x.n := by unfold loK; rw [if_neg (by simp), List.length_append, show O.length + [y].length - 1 = O.length from by simp, opA_app]
/-- Where the least number above lo of a session is, in the first k items; -1 of none. -/
def atK (id lo : Int) (T : List Opv) : Nat → Int
  | 0 => -1
  | k + 1 => if (opA T k).s = id ∧ lo < (opA T k).x.n ∧ (atK id lo T k < 0 ∨ (opA T k).x.n < (opA T (atK id lo T k).toNat).x.n) then (k : Int) else atK id lo T k
theorem atK_spec (id lo : Int) (T : List Opv) : ∀ k, (atK id lo T k = -1 ∧ ∀ i, i < k → (opA T i).s = id → (opA T i).x.n ≤ lo) ∨ (∃ a : Nat, a < k ∧ atK id lo T k = (a : Int) ∧ (opA T a).s = id ∧ lo < (opA T a).x.n ∧ ∀ i, i < k → (opA T i).s = id → lo < (opA T i).x.n → (opA T a).x.n ≤ (opA T i).x.n)
  | 0 => Or.inl ⟨rfl, fun i hi => by omega⟩
  | k + 1 => by
    have e : atK id lo T (k + 1) = if (opA T k).s = id ∧ lo < (opA T k).x.n ∧ (atK id lo T k < 0 ∨ (opA T k).x.n < (opA T (atK id lo T k).toNat).x.n) then (k : Int) else atK id lo T k := rfl
    rcases atK_spec id lo T k with ⟨a, b⟩ | ⟨a, a1, a2, a3, a4, a5⟩
    · by_cases q : (opA T k).s = id ∧ lo < (opA T k).x.n
      · rw [if_pos ⟨q.1, q.2, Or.inl (by omega)⟩] at e
        exact Or.inr ⟨k, by omega, e, q.1, q.2, fun i hi hs hl => by
          by_cases z : i = k
          · rw [z]; exact Int.le_refl _
          · have := b i (by omega) hs; omega⟩
      · rw [if_neg (fun z => q ⟨z.1, z.2.1⟩)] at e
        exact Or.inl ⟨by rw [e]; exact a, fun i hi hs => by
          by_cases z : i = k
          · rw [z] at hs ⊢; exact Int.not_lt.1 (fun y => q ⟨hs, y⟩)
          · exact b i (by omega) hs⟩
    · rw [a2, Int.toNat_natCast] at e
      by_cases q : (opA T k).s = id ∧ lo < (opA T k).x.n ∧ (opA T k).x.n < (opA T a).x.n
      · rw [if_pos ⟨q.1, q.2.1, Or.inr q.2.2⟩] at e
        exact Or.inr ⟨k, by omega, e, q.1, q.2.1, fun i hi hs hl => by
          by_cases z : i = k
          · rw [z]; exact Int.le_refl _
          · have := a5 i (by omega) hs hl; omega⟩
      · rw [if_neg (fun z => q ⟨z.1, z.2.1, z.2.2.resolve_left (by omega)⟩)] at e
        exact Or.inr ⟨a, by omega, e, a3, a4, fun i hi hs hl => by
          by_cases z : i = k
          · rw [z] at hs hl ⊢; exact Int.not_lt.1 (fun y => q ⟨hs, hl, y⟩)
          · exact a5 i (by omega) hs hl⟩
/-- A session's items so far. -/
structure KSofar (id : Int) (T O : List Opv) : Prop where
  rise : O.Pairwise (fun a b => a.x.n < b.x.n)
  of : ∀ x ∈ O, ∃ i, i < T.length ∧ opA T i = x ∧ x.s = id
  all : ∀ i, i < T.length → (opA T i).s = id → (opA T i).x.n ≤ loK O → ∃ x ∈ O, x.x.n = (opA T i).x.n
  lo : ∀ x ∈ O, x.x.n ≤ loK O
  pos : 0 ≤ loK O
theorem KSofar.nil (id : Int) (T : List Opv) (h1 : ∀ i, i < T.length → 1 ≤ (opA T i).x.n) : KSofar id T [] where
  rise := List.Pairwise.nil
  of := fun x h => by cases h
  all := fun i hi _ h => by have := h1 i hi; simp [loK] at h; omega
  lo := fun x h => by cases h
  pos := by simp [loK]
theorem KSofar.next {id : Int} {T O : List Opv} (h : KSofar id T O) {a : Nat} (hn : atK id (loK O) T T.length = (a : Int)) : a < T.length ∧ KSofar id T (O ++ [opA T a]) := by
  obtain ⟨a', b1, b2, b3, b4, b5⟩ := (atK_spec id (loK O) T T.length).resolve_left (fun z => by omega)
  obtain rfl : a' = a := by omega
  refine ⟨b1, List.pairwise_append.2 ⟨h.rise, by simp, fun x hx y hy => ?_⟩, fun x hx => ?_, fun i hi hs hl => ?_, fun x hx => ?_, by rw [loK_app]; have := h.pos; omega⟩
  · simp at hy; subst hy; have := h.lo x hx; omega
  · rcases List.mem_append.1 hx with q | q
    · exact h.of x q
    · simp at q; exact ⟨a', b1, q.symm, by rw [q]; exact b3⟩
  · rw [loK_app] at hl
    by_cases z : (opA T i).x.n ≤ loK O
    · obtain ⟨x, hx, e⟩ := h.all i hi hs z
      exact ⟨x, List.mem_append_left _ hx, e⟩
    · have := b5 i hi hs (by omega)
      exact ⟨opA T a', List.mem_append_right _ (by simp), by omega⟩
  · rw [loK_app]
    rcases List.mem_append.1 hx with q | q
    · have := h.lo x q; omega
    · simp at q; rw [q]; exact Int.le_refl _
theorem KSofar.len {id : Int} {T O : List Opv} (h : KSofar id T O) : O.length ≤ T.length := by
  have hnd : (O.map (fun x => x.x.n)).Nodup := by
    rw [List.Nodup, List.pairwise_map]
    exact h.rise.imp (fun q => by omega)
  have := nodup_len (O.map (fun x => x.x.n)) (T.map (fun x => x.x.n)) hnd (fun y hy => by
    obtain ⟨x, hx, e⟩ := List.mem_map.1 hy
    obtain ⟨i, hi, e2, _⟩ := h.of x hx
    rw [List.mem_map]
    exact ⟨T[i], List.getElem_mem hi, by rw [← e, ← e2]; simp [opA, List.getD_eq_getElem?_getD, List.getElem?_eq_getElem hi]⟩)
  simpa using this
/-- All items of a session, rising. -/
structure KeptR (id : Int) (T O : List Opv) : Prop where
  rise : O.Pairwise (fun a b => a.x.n < b.x.n)
  of : ∀ x ∈ O, ∃ i, i < T.length ∧ opA T i = x ∧ x.s = id
  all : ∀ i, i < T.length → (opA T i).s = id → ∃ x ∈ O, x.x.n = (opA T i).x.n
theorem KSofar.done {id : Int} {T O : List Opv} (h : KSofar id T O) (hn : atK id (loK O) T T.length < 0) : KeptR id T O := by
  have q : ∀ i, i < T.length → (opA T i).s = id → (opA T i).x.n ≤ loK O := ((atK_spec id (loK O) T T.length).resolve_right (fun ⟨a, _, e, _⟩ => by omega)).2
  exact ⟨h.rise, h.of, fun i hi hs => h.all i hi hs (q i hi hs)⟩

end Go.Proofs.Ytefffjlcfghniaa
