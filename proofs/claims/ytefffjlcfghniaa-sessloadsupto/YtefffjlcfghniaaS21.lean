/- What the document's Load of layer 13 makes of numbers; at a table's own numbers it is that table; plain. -/
import Derived.Test.YtefffjlcfghniaaS20
namespace Go.Proofs.Ytefffjlcfghniaa
open Go.RowKit Go.Lib
set_option linter.unusedVariables false
set_option linter.unusedSimpArgs false
set_option maxRecDepth 20000
/-- The numbers that are read off bytes one by one, and what is left behind them. -/
def Reads : List Int → List Nat → List Nat → Prop
  | [], b, r => b = r
  | z :: zs, b, r => ∃ B, tkN b = some (z, B) ∧ Reads zs B r
theorem Reads.app : ∀ {xs ys : List Int} {b r s : List Nat}, Reads xs b r → Reads ys r s → Reads (xs ++ ys) b s
  | [], _, _, _, _, h, k => by cases h; exact k
  | _ :: _, _, _, _, _, ⟨B, e, h⟩, k => ⟨B, e, h.app k⟩
theorem Reads.snoc {xs : List Int} {b r B : List Nat} {z : Int} (h : Reads xs b r) (e : tkN r = some (z, B)) : Reads (xs ++ [z]) b B := h.app ⟨B, e, rfl⟩
theorem tkN_nil : tkN [] = none := by
  unfold tkN
  rw [if_pos]
  have h := Pk.ln_stop (Pk.gd []) 0 11 0 (by omega)
  unfold Pk.lnK
  rw [List.length_nil, h]
theorem Reads.of : ∀ (Z : List Int) (r : List Nat), (∀ z ∈ Z, N64 z) → Reads Z (numB Z ++ r) r
  | [], r, _ => rfl
  | z :: Z, r, h => by
    refine ⟨numB Z ++ r, ?_, Reads.of Z r (fun x hx => h x (List.mem_cons_of_mem _ hx))⟩
    rw [numB_cons, List.append_assoc]
    exact tkN_at z (h z (by simp)) _
theorem Reads.det : ∀ {xs ys : List Int} {b r s : List Nat}, Reads xs b r → Reads ys b s → tkN s = none → ∃ t, ys = xs ++ t ∧ Reads t r s
  | [], ys, _, _, _, h, k, _ => by cases h; exact ⟨ys, rfl, k⟩
  | x :: xs, [], b, _, s, ⟨B, e, h⟩, k, q => by
    have k' : b = s := k
    subst k'
    rw [q] at e
    cases e
  | x :: xs, y :: ys, _, _, _, ⟨B, e, h⟩, ⟨B', e', h'⟩, q => by
    rw [e] at e'
    cases e'
    obtain ⟨t, rfl, ht⟩ := h.det h' q
    exact ⟨t, rfl, ht⟩
theorem Reads.form : ∀ {xs : List Int} {b r : List Nat}, Byt b → Reads xs b r → b = numB xs ++ r ∧ (∀ z ∈ xs, N64 z) ∧ Byt r
  | [], b, r, hb, h => by cases h; exact ⟨rfl, fun z hz => by (cases hz), hb⟩
  | x :: xs, b, r, hb, ⟨B, e, h⟩ => by
    obtain ⟨h1, h2, h3⟩ := tkN_form hb e
    obtain ⟨h4, h5, h6⟩ := h.form h3
    refine ⟨by rw [numB_cons, List.append_assoc, ← h4]; exact h1, fun z hz => ?_, h6⟩
    rcases List.mem_cons.1 hz with rfl | hz
    · exact h2
    · exact h5 z hz
/-- These bytes are this table's. -/
structure IsT (B : List Nat) (L : Int → List It) (S : List Int) : Prop where
  few : S.length ≤ 16
  rise : S.Pairwise (· < ·)
  rng : ∀ z ∈ S, 1 ≤ z ∧ z ≤ 1099511627776
  kp : ∀ z ∈ S, Kp (L z)
  nil : ∀ z, z ∉ S → L z = []
  bytes : B = numB (tabN L S S.length)
theorem IsT.ok {B : List Nat} {L : Int → List It} {S : List Int} (h : IsT B L S) : TOk S L := by
  have hz : ∀ z, z ∈ S ∨ L z = [] := fun z => by
    by_cases q : z ∈ S
    · exact .inl q
    · exact .inr (h.nil z q)
  refine ⟨h.few, h.rng, fun k hk => (h.kp k hk).ne, fun k => ?_, fun k => ?_, fun k => ?_, fun k => ?_⟩ <;> rcases hz k with q | q
  · exact (h.kp k q).rise
  · rw [q]; exact List.Pairwise.nil
  · exact (h.kp k q).seq
  · rw [q]; intro x hx; cases hx
  · exact (h.kp k q).win
  · rw [q]; intro x hx; cases hx
  · exact (h.kp k q).len
  · rw [q]; simp
theorem IsT.vo {B : List Nat} {L : Int → List It} {S : List Int} (h : IsT B L S) : VOk L := fun k => by
  by_cases q : k ∈ S
  · exact (h.kp k q).vo
  · rw [h.nil k q]; intro x hx; cases hx
theorem IsT.nod {B : List Nat} {L : Int → List It} {S : List Int} (h : IsT B L S) : S.Nodup := h.rise.imp (fun q => by omega)
theorem IsT.reads {B : List Nat} {L : Int → List It} {S : List Int} (h : IsT B L S) : Reads (tabN L S S.length) B [] := by
  have := Reads.of (tabN L S S.length) [] (tabN_n64 h.ok h.vo (List.Perm.refl _) S.length)
  rw [List.append_nil, ← h.bytes] at this
  exact this
/-- Bytes of which the reading stops ahead of their end are no table's. -/
theorem no_stop {B r : List Nat} {zs : List Int} (h : Reads zs B r) (hn : tkN r = none) (hr : r ≠ []) (L : Int → List It) (S : List Int) : ¬ IsT B L S := fun hT => by
  obtain ⟨t, _, ht⟩ := h.det hT.reads tkN_nil
  cases t with
  | nil => exact hr ht
  | cons z t => obtain ⟨C, e, _⟩ := ht; rw [hn] at e; cases e
theorem all_nums {B : List Nat} {zs : List Int} (h : Reads zs B []) {L : Int → List It} {S : List Int} (hT : IsT B L S) : zs = tabN L S S.length := by
  obtain ⟨t, e, ht⟩ := h.det hT.reads tkN_nil
  cases t with
  | nil => rw [e, List.append_nil]
  | cons z t => obtain ⟨C, e, _⟩ := ht; rw [tkN_nil] at e; cases e
abbrev Sta := List Int × (Int → List It)
/-- An item at the head of numbers. -/
def itA (r : List Int) : It := ⟨r.getD 0 0, r.getD 1 0, r.getD 2 0⟩
/-- The document's reading of a session's items. -/
def dIt : Nat → Int → Sta → List Int → Option (Sta × List Int)
  | 0, _, st, r => some (st, r)
  | k + 1, id, st, r => if (itA r).c < 0 ∨ 999 < (itA r).c then none else if putC st.1 st.2 id (itA r) = 0 then dIt k id (pk st.1 st.2 id (itA r), pl st.1 st.2 id (itA r)) (r.drop 3) else none
/-- The document's reading of sessions. -/
def dSs : Nat → Sta → List Int → Option (Sta × List Int)
  | 0, st, r => some (st, r)
  | i + 1, st, r => if r.length < 3 ∨ r.getD 2 0 < 0 ∨ 8 < r.getD 2 0 ∨ (r.length : Int) < 3 + 3 * r.getD 2 0 then none else match dIt (r.getD 2 0).toNat (r.getD 0 0) st (r.drop 3) with | none => none | some (st', r') => dSs i st' r'
theorem dIt_no {k : Nat} {id : Int} {st : Sta} {r : List Int} (h : (itA r).c < 0 ∨ 999 < (itA r).c) : dIt (k + 1) id st r = none := by unfold dIt; rw [if_pos h]
theorem dIt_no2 {k : Nat} {id : Int} {st : Sta} {r : List Int} (h : putC st.1 st.2 id (itA r) ≠ 0) : dIt (k + 1) id st r = none := by unfold dIt; rw [if_neg h]; split <;> rfl
theorem dIt_go {k : Nat} {id : Int} {st : Sta} {r : List Int} (h : ¬ ((itA r).c < 0 ∨ 999 < (itA r).c)) (hp : putC st.1 st.2 id (itA r) = 0) : dIt (k + 1) id st r = dIt k id (pk st.1 st.2 id (itA r), pl st.1 st.2 id (itA r)) (r.drop 3) := by
  conv => lhs; unfold dIt
  rw [if_neg h, if_pos hp]
theorem dSs_no {i : Nat} {st : Sta} {r : List Int} (h : r.length < 3 ∨ r.getD 2 0 < 0 ∨ 8 < r.getD 2 0 ∨ (r.length : Int) < 3 + 3 * r.getD 2 0) : dSs (i + 1) st r = none := by unfold dSs; rw [if_pos h]
theorem dSs_go {i : Nat} {st : Sta} {r : List Int} (h : ¬ (r.length < 3 ∨ r.getD 2 0 < 0 ∨ 8 < r.getD 2 0 ∨ (r.length : Int) < 3 + 3 * r.getD 2 0)) : dSs (i + 1) st r = match dIt (r.getD 2 0).toNat (r.getD 0 0) st (r.drop 3) with | none => none | some (st', r') => dSs i st' r' := by
  conv => lhs; unfold dSs
  rw [if_neg h]
theorem pos_all (q : Int) : ∀ L : List It, (∀ y ∈ L, y.n < q) → posS q L = L.length
  | [], _ => rfl
  | x :: t, h => by
    unfold posS
    rw [if_pos (h x (by simp)), pos_all q t (fun y hy => h y (List.mem_cons_of_mem _ hy)), List.length_cons]
theorem ins_end {x : It} {L : List It} (h : ∀ y ∈ L, y.n < x.n) : insS x L = L ++ [x] := by
  unfold insS
  rw [pos_all _ _ h, List.take_length, List.drop_length]
theorem hi_end (L : List It) (x : It) : hiL (L ++ [x]) = x.n := by
  unfold hiL atI
  rw [if_neg (by simp)]
  simp
theorem next_end {x : It} {L : List It} (h : ∀ y ∈ L, y.n < x.n) (hw : ∀ y ∈ L, x.n - 8 < y.n) : nextS x L = L ++ [x] := by
  unfold nextS
  rw [ins_end h, hi_end]
  unfold keepL
  rw [List.filter_eq_self]
  intro y hy
  rw [List.mem_append, List.mem_singleton] at hy
  rw [decide_eq_true_eq]
  rcases hy with hy | rfl
  · exact hw y hy
  · omega
theorem putL_putL (L : Int → List It) (s : Int) (A B : List It) : putL (putL L s A) s B = putL L s B := by
  funext k
  unfold putL
  split <;> rfl
theorem itA_of (x : It) (xs : List It) (r : List Int) : itA (itN (x :: xs) ++ r) = x ∧ (itN (x :: xs) ++ r).drop 3 = itN xs ++ r := by
  simp [itA, itN]
/-- A session's items, behind those that were put already. -/
theorem dIt_at (id : Int) (A : List Int) (L0 : Int → List It) (r : List Int) (hA : id ∉ A) (hl : A.length < 16) (hid : 1 ≤ id ∧ id ≤ 1099511627776) : ∀ (xs pre : List It), Kp (pre ++ xs) → dIt xs.length id ((if pre = [] then A else A ++ [id]), putL L0 id pre) (itN xs ++ r) = some (((if pre ++ xs = [] then A else A ++ [id]), putL L0 id (pre ++ xs)), r)
  | [], pre, hK => by
    rw [List.append_nil]
    simp [dIt, itN]
  | x :: xs, pre, hK => by
    obtain ⟨e1, e2⟩ := itA_of x xs r
    have hx := hK.vo x (by simp)
    have hs := hK.seq x (by simp)
    have hr : ∀ y ∈ pre, y.n < x.n := fun y hy => (List.pairwise_append.1 hK.rise).2.2 y hy x (by simp)
    have hw : ∀ y ∈ pre, x.n - 8 < y.n := fun y hy => by
      have h1 := hK.win y (by simp [hy])
      have h2 := rise_last hK.rise (x := x) (by simp)
      omega
    have hLid : putL L0 id pre id = pre := by unfold putL; rw [if_pos rfl]
    have hf : foundB x.n pre = false := by
      unfold foundB
      rw [pos_all _ _ hr]
      simp
    have hh : ¬ x.n ≤ hiL pre - 8 := by
      by_cases q : pre = []
      · rw [q]; unfold hiL; simp; omega
      · obtain ⟨y, hy, ey⟩ := hiL_mem q
        have := hr y hy
        omega
    have hp : putC (if pre = [] then A else A ++ [id]) (putL L0 id pre) id x = 0 := by
      have hlk : lookC (if pre = [] then A else A ++ [id]) (putL L0 id pre) id x.n = 0 := by
        unfold lookC
        rw [hLid, hf, if_neg (by simp), if_neg (by unfold outB; simp; omega), if_neg, if_neg hh]
        split
        · simp; omega
        · simp
      unfold putC
      rw [if_pos hlk, if_neg (by unfold outB; simp; omega)]
    have hk : pk (if pre = [] then A else A ++ [id]) (putL L0 id pre) id x = A ++ [id] := by
      unfold pk
      rw [if_pos hp]
      unfold putK
      by_cases q : pre = []
      · rw [if_pos q, if_neg hA]
      · rw [if_neg q, if_pos (by simp)]
    have hpl : pl (if pre = [] then A else A ++ [id]) (putL L0 id pre) id x = putL L0 id (pre ++ [x]) := by
      unfold pl
      rw [if_pos hp, hLid, next_end hr hw, putL_putL]
    have ih := dIt_at id A L0 r hA hl hid xs (pre ++ [x]) (by rw [List.append_assoc]; exact hK)
    rw [List.length_cons, dIt_go (by rw [e1]; omega) (by rw [e1]; exact hp), e1, e2, hk, hpl]
    rw [if_neg (by simp), List.append_assoc] at ih
    exact ih
theorem secN_parts (L : Int → List It) (id : Int) (r : List Int) : (secN L id ++ r).getD 0 0 = id ∧ (secN L id ++ r).getD 2 0 = (((L id).length : Nat) : Int) ∧ (secN L id ++ r).drop 3 = itN (L id) ++ r ∧ (secN L id ++ r).length = 3 + (3 * (L id).length + r.length) := by
  have hl : (itN (L id)).length = 3 * (L id).length := by
    unfold itN
    induction L id with
    | nil => rfl
    | cons x t ih => rw [List.flatMap_cons, List.length_append, ih]; simp; omega
  refine ⟨by simp [secN], by simp [secN], by simp [secN], ?_⟩
  simp [secN, hl]
  omega
/-- A table's own numbers, behind some of its sessions. -/
theorem dSs_at {B : List Nat} {L : Int → List It} {S : List Int} (h : IsT B L S) : ∀ (C A : List Int), S = A ++ C → dSs C.length (A, fun id => if id ∈ A then L id else []) (C.flatMap (secN L)) = some ((S, L), [])
  | [], A, e => by
    rw [List.append_nil] at e
    subst e
    have : (fun id => if id ∈ S then L id else []) = L := by
      funext k
      split
      · rfl
      · rename_i q; exact (h.nil k q).symm
    simp [dSs, this]
  | id :: C, A, e => by
    have hmem : id ∈ S := by rw [e]; simp
    have hnA : id ∉ A := fun q => by
      have hp := h.rise
      rw [e, List.pairwise_append] at hp
      have := hp.2.2 id q id (by simp)
      omega
    have hlA : A.length < 16 := by
      have := h.few
      rw [e] at this
      simp at this
      omega
    have hK := h.kp id hmem
    obtain ⟨p1, p2, p3, p4⟩ := secN_parts L id (C.flatMap (secN L))
    have hi := dIt_at id A (fun id => if id ∈ A then L id else []) (C.flatMap (secN L)) hnA hlA (h.rng id hmem) (L id) [] (by rw [List.nil_append]; exact hK)
    rw [if_pos rfl, List.nil_append, if_neg hK.ne] at hi
    have e1 : putL (fun id => if id ∈ A then L id else []) id [] = (fun id => if id ∈ A then L id else []) := by
      funext k
      unfold putL
      split
      · rename_i q; subst q; rw [if_neg hnA]
      · rfl
    have e2 : putL (fun id => if id ∈ A then L id else []) id (L id) = (fun k => if k ∈ A ++ [id] then L k else []) := by
      funext k
      unfold putL
      by_cases q : k = id
      · subst q; simp
      · rw [if_neg q]; simp [q]
    rw [e1, e2] at hi
    rw [List.flatMap_cons, List.length_cons, dSs_go (by rw [p2, p4]; have := hK.len; omega), p1, p2, p3]
    rw [show ((((L id).length : Nat) : Int)).toNat = (L id).length from by omega, hi]
    exact dSs_at h C (A ++ [id]) (by rw [e]; simp)
/-- What the document's reading makes of a table's bytes. -/
theorem dSs_is {B : List Nat} {zs : List Int} (hr : Reads zs B []) {L : Int → List It} {S : List Int} (h : IsT B L S) : zs.length ≠ 0 ∧ zs.getD 0 0 = ((S.length : Nat) : Int) ∧ dSs S.length ([], fun _ => []) (zs.drop 1) = some ((S, L), []) := by
  rw [all_nums hr h]
  have := dSs_at h S [] rfl
  refine ⟨by simp [tabN], by simp [tabN], ?_⟩
  unfold tabN
  rw [List.take_length, List.drop_succ_cons, List.drop_zero]
  simpa using this
theorem IsT.uniq {B : List Nat} {L L' : Int → List It} {S S' : List Int} (h : IsT B L S) (h' : IsT B L' S') : S' = S ∧ L' = L := by
  obtain ⟨_, a1, a2⟩ := dSs_is h.reads h
  obtain ⟨_, b1, b2⟩ := dSs_is h.reads h'
  rw [a1] at b1
  rw [show S'.length = S.length by omega, a2] at b2
  cases b2
  exact ⟨rfl, rfl⟩
end Go.Proofs.Ytefffjlcfghniaa
