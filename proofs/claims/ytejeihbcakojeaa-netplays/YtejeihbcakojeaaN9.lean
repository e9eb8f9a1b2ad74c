/- A net as the laws call it; the example of layer 19; conditions: the rows lie in memory. -/
import Derived.Test.YtejeihbcakojeaaN8
import Derived.Lib.SlBytesRow
namespace Go.Proofs.Ytejeihbcakojeaa
open Go.RowKit Go.Lib
set_option linter.unusedVariables false
set_option linter.unusedSimpArgs false
set_option maxRecDepth 20000
/-- A net of a law's own, apart from the blocks of A. -/
def Net (w0 W : World) (nb most : Nat) (P : List PL) (A : List Nat) : Prop := ∃ d : Nt, d.nb = nb ∧ d.most = most ∧ d.X.map Lt.p = P ∧ NtAt W d ∧ (∀ k ∈ d.bs, w0.heap.size ≤ k) ∧ Old w0 W ∧ ∀ g ∈ A, g ∉ d.bs ∧ g < W.heap.size
/-- What stays of memory: the blocks of A, and those of other types. -/
structure Kt (A : List Nat) (W W' : World) : Prop where
  size : W.heap.size ≤ W'.heap.size
  is : ∀ g ∈ A, g < W.heap.size → W'.heap[g]? = W.heap[g]?
  ty : ∀ (k : Nat) (cur : Array Value) (T : TypeId) (fr : Nat × Nat), W.heap[k]? = some (Obj.cells cur T fr) → T ≠ 30 → T ≠ 57 → W'.heap[k]? = some (Obj.cells cur T fr)
theorem Kt.old {A : List Nat} {W W' : World} (u : Old W W') : Kt A W W' := ⟨u.size, fun g _ hl => Below.block u g hl, fun k cur T fr h _ _ => u.block h⟩
theorem Kt.trans {A : List Nat} {a b c : World} (h : Kt A a b) (k : Kt A b c) : Kt A a c := ⟨Nat.le_trans h.size k.size, fun g hg hl => (k.is g hg (by have := h.size; omega)).trans (h.is g hg hl), fun i cur T fr e h1 h2 => k.ty i cur T fr (h.ty i cur T fr e h1 h2) h1 h2⟩
theorem Own.kt {A : List Nat} {W W' : World} {v : Value} {L : List Nat} (h : Own W v L) (k : Kt A W W') : Own W' v L := by
  have hb := h.byt
  rcases h.cases with ⟨rfl, rfl⟩ | ⟨g, cap, cur, rfl, hg, h1, h2, h3, h4⟩
  · exact Own.nil _
  · exact own_of (k.ty g cur _ _ hg (by decide) (by decide)) h1 h2 h3 h4 hb
theorem Net.old {w0 W W' : World} {nb most : Nat} {P : List PL} {A : List Nat} (h : Net w0 W nb most P A) (u : Old W W') : Net w0 W' nb most P A := by
  obtain ⟨d, h1, h2, h3, h4, h5, h6, h7⟩ := h
  exact ⟨d, h1, h2, h3, h4.old u, h5, h6.trans u, fun g hg => ⟨(h7 g hg).1, by have := u.size; have := (h7 g hg).2; omega⟩⟩
theorem Net.base {w0 W : World} {nb most : Nat} {P : List PL} {A : List Nat} (h : Net w0 W nb most P A) : Old w0 W := by
  obtain ⟨d, h1, h2, h3, h4, h5, h6, h7⟩ := h
  exact h6
theorem Net.le {w0 W : World} {nb most : Nat} {P : List PL} {A : List Nat} (h : Net w0 W nb most P A) : P.length ≤ most ∧ most ≤ 1000 := by
  obtain ⟨d, h1, h2, h3, h4, h5, h6, h7⟩ := h
  subst h2 h3
  exact ⟨by rw [List.length_map]; exact h4.le, h4.few⟩
theorem Net.add {w0 W W' : World} {nb most : Nat} {P : List PL} {A : List Nat} (h : Net w0 W nb most P A) (u : Old W W') (B : List Nat) (hB : ∀ g ∈ B, W.heap.size ≤ g ∧ g < W'.heap.size) : Net w0 W' nb most P (A ++ B) := by
  obtain ⟨d, h1, h2, h3, h4, h5, h6, h7⟩ := h
  refine ⟨d, h1, h2, h3, h4.old u, h5, h6.trans u, fun g hg => ?_⟩
  rcases List.mem_append.1 hg with q | q
  · exact ⟨(h7 g q).1, by have := u.size; have := (h7 g q).2; omega⟩
  · exact ⟨fun e => by have := h4.lt g e; have := (hB g q).1; omega, (hB g q).2⟩
theorem Net.less {w0 W : World} {nb most : Nat} {P : List PL} {A B : List Nat} (h : Net w0 W nb most P A) (hB : ∀ g ∈ B, g ∈ A) : Net w0 W nb most P B := by
  obtain ⟨d, h1, h2, h3, h4, h5, h6, h7⟩ := h
  exact ⟨d, h1, h2, h3, h4, h5, h6, fun g hg => h7 g (hB g hg)⟩
theorem Chg.oldOf {S : List Nat} {w0 W W' : World} (c : Chg S W W') (u : Old w0 W) (h : ∀ k ∈ S, w0.heap.size ≤ k) : Old w0 W' := u.below (c.below _ h u.size)
theorem Net.res {w0 W W' : World} {d : Nt} {X5 : List Lt} {A : List Nat} (h4 : NtAt W d) (h5 : ∀ k ∈ d.bs, w0.heap.size ≤ k) (h6 : Old w0 W) (h7 : ∀ g ∈ A, g ∉ d.bs ∧ g < W.heap.size) (r : NRes W d X5 W') : Net w0 W' d.nb d.most (X5.map Lt.p) A ∧ Kt A W W' := by
  obtain ⟨d', n1, n2, n3, n4, n5, n6⟩ := r
  refine ⟨⟨d', n2, n3, by rw [n4], n1, fun k hk => ?_, n5.oldOf h6 h5, fun g hg => ⟨fun e => ?_, by have := n5.size; have := (h7 g hg).2; omega⟩⟩, n5.size, fun g hg hl => n5.block g hl (h7 g hg).1, fun k cur T fr e h1 h2 => n5.heapAt e (h4.apart e h1 h2)⟩
  · rcases n6 k hk with z | z
    · exact h5 k z
    · have := h6.size; omega
  · rcases n6 g e with z | z
    · exact (h7 g hg).1 z
    · have := (h7 g hg).2; omega
theorem newN (w0 W : World) (m : Int) (u : Old w0 W) : Calls Try.prog 6 #[.int .i64 m] W fun e w' => ∃ nb, e = .returned (.pointer (some ⟨nb, 0, none⟩)) ∧ Net w0 w' nb (mostN m) [] [] ∧ Old W w' :=
  (new_any m W).mono fun e w' q => by
    obtain ⟨d, e1, h1, h2, h3, h4, h5⟩ := q
    exact ⟨d.nb, e1, ⟨d, rfl, h2, by rw [h3]; rfl, h1, fun k hk => by have := h5 k hk; have := u.size; omega, u.trans h4, fun g hg => by cases hg⟩, h4⟩
def sendC (most : Nat) (P : List PL) : Int := if P.length < most then 0 else 3
def sendP (most : Nat) (P : List PL) (x : PL) : List PL := if P.length < most then P ++ [x] else P
theorem sendN (w0 W : World) (nb most : Nat) (P : List PL) (A : List Nat) (f t : Int) (v : Value) (L : List Nat) (h : Net w0 W nb most P A) (hv : Rw W v L) (hb : L.length ≤ 140737488355328) : Calls Try.prog 8 #[.pointer (some ⟨nb, 0, none⟩), .agg #[.int .i64 f, .int .i64 t, v]] W fun e w' => e = .returned (.int .i64 (sendC most P)) ∧ Net w0 w' nb most (sendP most P (f, t, L)) A ∧ Kt A W w' := by
  obtain ⟨d, rfl, rfl, rfl, h4, h5, h6, h7⟩ := h
  have hl : (d.X.map Lt.p).length = d.X.length := List.length_map ..
  by_cases c : d.X.length < d.most
  · refine (send_ok d f t v L W h4 c hv hb).mono fun e w' q => ?_
    obtain ⟨e1, a, c2, r⟩ := q
    refine ⟨by rw [e1]; unfold sendC; rw [hl, if_pos c], ?_⟩
    have := Net.res h4 h5 h6 h7 r
    unfold sendP
    rw [hl, if_pos c]
    rw [List.map_append] at this
    exact this
  · obtain ⟨pa, pc, rfl⟩ := hv.len
    refine (send_no d f t _ W h4 (by omega) rfl).mono fun e w' q => ?_
    refine ⟨by rw [q.1]; unfold sendC; rw [hl, if_neg c], ?_⟩
    unfold sendP
    rw [hl, if_neg c]
    exact Net.res h4 h5 h6 h7 (NRes.same h4 q.2)
def hasP (P : List PL) (i : Int) : Bool := decide (0 ≤ i ∧ i < (P.length : Int))
def dropP (P : List PL) (i : Int) : List PL := if hasP P i = true then P.eraseIdx i.toNat else P
def takeX (P : List PL) (i : Int) : PL := if hasP P i = true then P.getD i.toNat (0, 0, []) else (0, 0, [])
theorem has_split (X : List Lt) (i : Int) : (∃ k : Nat, i = (k : Int) ∧ k < X.length ∧ hasP (X.map Lt.p) i = true) ∨ ((i < 0 ∨ (X.length : Int) ≤ i) ∧ hasP (X.map Lt.p) i = false) := by
  unfold hasP
  rw [List.length_map]
  by_cases c : 0 ≤ i ∧ i < (X.length : Int)
  · exact .inl ⟨i.toNat, by omega, by omega, by simpa using c⟩
  · exact .inr ⟨by omega, by simpa using c⟩
theorem map_erase (X : List Lt) (k : Nat) : (X.eraseIdx k).map Lt.p = (X.map Lt.p).eraseIdx k := by
  rw [List.eraseIdx_eq_take_drop_succ, List.eraseIdx_eq_take_drop_succ, List.map_append, List.map_take, List.map_drop]
theorem dropN (w0 W : World) (nb most : Nat) (P : List PL) (A : List Nat) (i : Int) (h : Net w0 W nb most P A) : Calls Try.prog 12 #[.pointer (some ⟨nb, 0, none⟩), .int .i64 i] W fun e w' => e = .returned (.bool (hasP P i)) ∧ Net w0 w' nb most (dropP P i) A ∧ Kt A W w' := by
  obtain ⟨d, rfl, rfl, rfl, h4, h5, h6, h7⟩ := h
  rcases has_split d.X i with ⟨k, rfl, hk, e⟩ | ⟨hi, e⟩
  · refine (drop_ok d k W h4 hk).mono fun e1 w' q => ⟨by rw [q.1, e], ?_⟩
    unfold dropP
    rw [if_pos e, Int.toNat_natCast, ← map_erase]
    exact Net.res h4 h5 h6 h7 q.2
  · refine (drop_no d i W h4 hi).mono fun e1 w' q => ⟨by rw [q.1, e], ?_⟩
    unfold dropP
    rw [e, if_neg (by simp), q.2]
    exact Net.res h4 h5 h6 h7 (NRes.same h4 (Old.refl W))
theorem takeN (w0 W : World) (nb most : Nat) (P : List PL) (A : List Nat) (i : Int) (h : Net w0 W nb most P A) : Calls Try.prog 9 #[.pointer (some ⟨nb, 0, none⟩), .int .i64 i] W fun e w' => ∃ a c, e = .returned (.tuple #[.agg #[.int .i64 (takeX P i).1, .int .i64 (takeX P i).2.1, .slice a (takeX P i).2.2.length c], .bool (hasP P i)]) ∧ Own w' (.slice a (takeX P i).2.2.length c) (takeX P i).2.2 ∧ Net w0 w' nb most (dropP P i) A ∧ Kt A W w' := by
  obtain ⟨d, rfl, rfl, rfl, h4, h5, h6, h7⟩ := h
  rcases has_split d.X i with ⟨k, rfl, hk, e⟩ | ⟨hi, e⟩
  · have ex : takeX (d.X.map Lt.p) (k : Int) = d.X[k].p := by
      unfold takeX
      rw [if_pos e, Int.toNat_natCast, List.getD_eq_getElem?_getD, List.getElem?_map, List.getElem?_eq_getElem hk]
      rfl
    rw [ex]
    refine (take_ok d k W h4 hk).mono fun e1 w' q => ?_
    obtain ⟨a, c, q1, q2, q3⟩ := q
    refine ⟨a, c, by rw [q1, e]; rfl, q2, ?_⟩
    unfold dropP
    rw [if_pos e, Int.toNat_natCast, ← map_erase]
    exact Net.res h4 h5 h6 h7 q3
  · have ex : takeX (d.X.map Lt.p) i = (0, 0, []) := by unfold takeX; rw [e, if_neg (by simp)]
    rw [ex]
    refine (take_no d i W h4 hi).mono fun e1 w' q => ⟨none, 0, by rw [q.1, e]; rfl, Own.nil _, ?_⟩
    unfold dropP
    rw [e, if_neg (by simp)]
    exact Net.res h4 h5 h6 h7 (NRes.same h4 q.2)
def dblB (most : Nat) (P : List PL) (i : Int) : Bool := hasP P i && decide (P.length < most)
def dblP (most : Nat) (P : List PL) (i : Int) : List PL := if dblB most P i = true then P ++ [P.getD i.toNat (0, 0, [])] else P
theorem doubleN (w0 W : World) (nb most : Nat) (P : List PL) (A : List Nat) (i : Int) (h : Net w0 W nb most P A) : Calls Try.prog 19 #[.pointer (some ⟨nb, 0, none⟩), .int .i64 i] W fun e w' => e = .returned (.bool (dblB most P i)) ∧ Net w0 w' nb most (dblP most P i) A ∧ Kt A W w' := by
  obtain ⟨d, rfl, rfl, rfl, h4, h5, h6, h7⟩ := h
  have hl : (d.X.map Lt.p).length = d.X.length := List.length_map ..
  rcases has_split d.X i with ⟨k, rfl, hk, e⟩ | ⟨hi, e⟩
  · by_cases c : d.X.length < d.most
    · have eb : dblB d.most (d.X.map Lt.p) (k : Int) = true := by unfold dblB; rw [e, hl]; simpa using c
      refine (double_ok d k W h4 hk c).mono fun e1 w' q => ?_
      obtain ⟨q1, a, c2, r⟩ := q
      refine ⟨by rw [q1, eb], ?_⟩
      unfold dblP
      rw [if_pos eb, Int.toNat_natCast, List.getD_eq_getElem?_getD, List.getElem?_map, List.getElem?_eq_getElem hk]
      have := Net.res h4 h5 h6 h7 r
      rw [List.map_append] at this
      exact this
    · have eb : dblB d.most (d.X.map Lt.p) (k : Int) = false := by unfold dblB; rw [e, hl]; simpa using c
      refine (double_full d k W h4 hk (by omega)).mono fun e1 w' q => ⟨by rw [q.1, eb], ?_⟩
      unfold dblP
      rw [eb, if_neg (by simp)]
      exact Net.res h4 h5 h6 h7 (NRes.same h4 q.2)
  · have eb : dblB d.most (d.X.map Lt.p) i = false := by unfold dblB; rw [e]; rfl
    refine (double_no d i W h4 hi).mono fun e1 w' q => ⟨by rw [q.1, eb], ?_⟩
    unfold dblP
    rw [eb, if_neg (by simp), q.2]
    exact Net.res h4 h5 h6 h7 (NRes.same h4 (Old.refl W))
def swpB (P : List PL) (i k : Int) : Bool := hasP P i && hasP P k
def swpP (P : List PL) (i k : Int) : List PL := if swpB P i k = true then (P.set i.toNat (P.getD k.toNat (0, 0, []))).set k.toNat (P.getD i.toNat (0, 0, [])) else P
theorem swapN (w0 W : World) (nb most : Nat) (P : List PL) (A : List Nat) (i k : Int) (h : Net w0 W nb most P A) : Calls Try.prog 20 #[.pointer (some ⟨nb, 0, none⟩), .int .i64 i, .int .i64 k] W fun e w' => e = .returned (.bool (swpB P i k)) ∧ Net w0 w' nb most (swpP P i k) A ∧ Kt A W w' := by
  obtain ⟨d, rfl, rfl, rfl, h4, h5, h6, h7⟩ := h
  rcases has_split d.X i with ⟨a, rfl, ha, e⟩ | ⟨hi, e⟩
  · rcases has_split d.X k with ⟨b, rfl, hb, e2⟩ | ⟨hk, e2⟩
    · have eb : swpB (d.X.map Lt.p) (a : Int) (b : Int) = true := by unfold swpB; rw [e, e2]; rfl
      refine (swap_ok d a b W h4 ha hb).mono fun e1 w' q => ⟨by rw [q.1, eb], ?_⟩
      unfold swpP
      rw [if_pos eb, Int.toNat_natCast, Int.toNat_natCast]
      have := Net.res h4 h5 h6 h7 q.2
      unfold swapL at this
      rw [List.map_set, List.map_set] at this
      rw [List.getD_eq_getElem?_getD, List.getD_eq_getElem?_getD, List.getElem?_map, List.getElem?_map, List.getElem?_eq_getElem ha, List.getElem?_eq_getElem hb]
      exact this
    · have eb : swpB (d.X.map Lt.p) (a : Int) k = false := by unfold swpB; rw [e2]; simp
      refine (swap_no2 d a k W h4 ha hk).mono fun e1 w' q => ⟨by rw [q.1, eb], ?_⟩
      unfold swpP
      rw [eb, if_neg (by simp), q.2]
      exact Net.res h4 h5 h6 h7 (NRes.same h4 (Old.refl W))
  · have eb : swpB (d.X.map Lt.p) i k = false := by unfold swpB; rw [e]; rfl
    refine (swap_no1 d i k W h4 hi).mono fun e1 w' q => ⟨by rw [q.1, eb], ?_⟩
    unfold swpP
    rw [eb, if_neg (by simp), q.2]
    exact Net.res h4 h5 h6 h7 (NRes.same h4 (Old.refl W))
theorem lenN (w0 W : World) (nb most : Nat) (P : List PL) (A : List Nat) (h : Net w0 W nb most P A) : Calls Try.prog 11 #[.pointer (some ⟨nb, 0, none⟩)] W fun e w' => e = .returned (.int .i64 (P.length : Nat)) ∧ w' = W := by
  obtain ⟨d, rfl, rfl, rfl, h4, h5, h6, h7⟩ := h
  rw [List.length_map]
  exact len_any d W h4
/-- All letters, each with bytes of its own. -/
structure AllP (base : Nat) (w : World) (v : Value) (Z : List Lt) (P : List PL) : Prop where
  row : OwnT base w v Z
  p : Z.map Lt.p = P
  own : ∀ y ∈ Z, Own w y.v y.L ∧ ∀ g, y.v.ownBlock = some g → base ≤ g
  far : Z.Pairwise fun x y => ∀ g, x.v.ownBlock = some g → y.v.ownBlock ≠ some g
theorem allN (w0 W : World) (nb most : Nat) (P : List PL) (A : List Nat) (h : Net w0 W nb most P A) : Calls Try.prog 14 #[.pointer (some ⟨nb, 0, none⟩)] W fun e w' => ∃ go Z, e = .returned (.slice (some ⟨go, 0, none⟩) P.length P.length) ∧ AllP W.heap.size w' (.slice (some ⟨go, 0, none⟩) P.length P.length) Z P ∧ Old W w' := by
  obtain ⟨d, rfl, rfl, rfl, h4, h5, h6, h7⟩ := h
  rw [List.length_map]
  refine (all_any d W h4).mono fun e w' q => ?_
  obtain ⟨go, Z, q1, q2, q3, q4⟩ := q
  exact ⟨go, Z, q1, ⟨q2, q3.p, q3.own, q3.far⟩, q4⟩
theorem sameL (v u : Value) (L : List Nat) (w : World) (h1 : Rw w v L) (h2 : Rw w u L) : Calls Try.prog 10 #[v, u] w fun e w' => e = .returned (.bool true) ∧ Old w w' :=
  (Pk.sameBytes_eq v u L.length (gd L) (gd L) w h1 h2 (fun _ _ => rfl)).mono fun e w' h => ⟨h.1, by obtain ⟨m, q⟩ := h.2; rw [q]; exact (Old.refl w).drewN m⟩
theorem Rw.one (w : World) (c g : Nat) (hc : c < 256) (hg : w.heap.size = g) : Rw (w.alloc (.cells #[.int .u8 (c : Int)] 5)) (.slice (some ⟨g, 0, none⟩) 1 1) [c] := by
  subst hg
  have h := own_of (L := [c]) (cap := 1) (alloc_at w (.cells #[.int .u8 (c : Int)] 5)) (by simp) (by unfold maxLen; omega) (by simp) (by simp [bv]) (fun x hx => by simp at hx; omega)
  exact h.row
end Go.Proofs.Ytejeihbcakojeaa
