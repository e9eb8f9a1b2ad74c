/- What RlogSound asks, plainly; entries that are told and written over; no condition. -/
import Derived.Test.YtgpfmohaogppiaaRl13
import Derived.Test.YtgpfmohaogppiaaLa
namespace Go.Proofs.Ytgpfmohaogppiaa
open Go.RowKit Go.Lib
set_option linter.unusedVariables false
set_option linter.unusedSimpArgs false
set_option maxRecDepth 20000
theorem and_mask (a : Int) (m : Nat) (hm : m < 9223372036854775808) : ∃ M : Nat, M ≤ m ∧ bits .and .i64 a (m : Int) = (M : Int) := by
  refine ⟨(BitVec.ofInt 64 a &&& BitVec.ofInt 64 (m : Int)).toNat, ?_, ?_⟩
  · rw [BitVec.toNat_and, BitVec.ofInt_natCast, BitVec.toNat_ofNat, Nat.mod_eq_of_lt (by omega)]
    exact Nat.and_le_right
  · have h : (BitVec.ofInt 64 a &&& BitVec.ofInt 64 (m : Int)).toNat ≤ m := by
      rw [BitVec.toNat_and, BitVec.ofInt_natCast, BitVec.toNat_ofNat, Nat.mod_eq_of_lt (by omega)]
      exact Nat.and_le_right
    show IntKind.i64.wrap ((BitVec.ofInt 64 a &&& BitVec.ofInt 64 (m : Int)).toNat : Int) = _
    generalize (BitVec.ofInt 64 a &&& BitVec.ofInt 64 (m : Int)).toNat = r at *
    simp [IntKind.wrap, IntKind.bits, IntKind.signed]
    omega
theorem and15 (a : Int) : 0 ≤ bits .and .i64 a 15 ∧ bits .and .i64 a 15 ≤ 15 := by
  obtain ⟨M, h1, h2⟩ := and_mask a 15 (by decide)
  have : bits .and .i64 a 15 = (M : Int) := h2
  omega
theorem fol_at {ix tm : Int} {A : List En} (h : Fol ix tm A) (j : Nat) (hj : j < A.length) : (atE A j).i = lstI ix (A.take j) + 1 ∧ lstT tm (A.take j) ≤ (atE A j).t ∧ rightE (atE A j).i (atE A j).t (atE A j).k (atE A j).d = true := by
  rw [← List.take_append_drop j A, Fol.app, drop_at hj] at h
  obtain ⟨_, h1, h2, h3, _⟩ := h
  exact ⟨h1, h2, h3⟩
theorem entK_zero {P : PL} (k : PLok P) : entK P 0 = 0 := by
  have := k.i0
  unfold entK ahN
  omega
theorem ent_zero {P : PL} (k : PLok P) (most : Int) : entL P 0 most = P.es.take (entM P 0 most) := by
  unfold entL
  rw [entK_zero k, List.drop_zero]
/-- What Entries tells from the beginning on follows. -/
theorem ent_fol {P : PL} (k : PLok P) (most : Int) : Fol P.ix P.tm (entL P 0 most) := by
  have h := k.fol
  rw [ent_zero k]
  rw [← List.take_append_drop (entM P 0 most) P.es, Fol.app] at h
  exact h.1
theorem ent_len {P : PL} (k : PLok P) : (entL P 0 1000).length ≤ 1000 ∧ ((entL P 0 1000).length < 1000 → entL P 0 1000 = P.es) := by
  rw [ent_zero k, List.length_take]
  have e : entM P 0 1000 = min 1000 P.es.length := by unfold entM; rw [entK_zero k]; omega
  rw [e]
  refine ⟨by omega, fun h => ?_⟩
  rw [List.take_of_length_le (by omega)]
theorem ent_at {P : PL} (k : PLok P) (most : Int) (j : Nat) (hj : j < (entL P 0 most).length) : j < P.es.length ∧ atE (entL P 0 most) j = atE P.es j := by
  have hj2 := hj
  rw [ent_zero k, List.length_take] at hj2
  refine ⟨by omega, ?_⟩
  rw [atE_get _ _ hj, atE_get _ _ (by omega)]
  simp only [ent_zero k, List.getElem_take]
/-- Each entry that is told is there. -/
theorem has_at {base lb : Nat} {G : Lg} {P : PL} {w : World} (h : LogP base lb G P w) (most : Int) (j : Nat) (hj : j < (entL P 0 most).length) : Calls Try.prog 15 #[.pointer (some ⟨lb, 0, none⟩), .int .i64 (atE (entL P 0 most) j).i, .int .i64 (atE (entL P 0 most) j).t] w fun e w' => e = .returned (.bool true) ∧ Old w w' := by
  obtain ⟨h1, h2⟩ := ent_at h.ok most j hj
  have hlen := h.is.len.1
  have hi : (atE P.es j).i = P.ix + j + 1 := Fol.nth _ _ _ h.ok.fol j h1
  have hx : atE P.es j = (atE G.es j).pl := by rw [← h.is.es]; exact atE_pls _ _ (by omega)
  have ht : (atE P.es j).t = (atE G.es j).t := by rw [hx]; rfl
  rw [h2]
  have q := has_any lb G.ix G.tm G.es.length (entA (G.es.map En.e)) (atE P.es j).i (atE P.es j).t w (h.m.s h.lg)
  have e1 : tmB G.ix G.es.length (atE P.es j).i = true := by unfold tmB; rw [hi, h.is.ix]; simp; omega
  have e2 : tmV G.ix G.tm G.es.length (entA (G.es.map En.e)) (atE P.es j).i = (atE P.es j).t := by
    unfold tmV
    rw [if_pos e1, if_neg (by rw [hi, h.is.ix]; omega), hi, h.is.ix, show (P.ix + (j : Int) + 1 - P.ix - 1).toNat = j from by omega, entA_map _ _ (by omega), ht]
    rfl
  rw [e1, e2] at q
  simpa using q
/-- The data of an entry that was told: it may be written over. -/
def DB (n0 : Nat) (x : En) (w : World) : Prop := 0 < x.d.length → ∃ g cur, x.p = some ⟨g, 0, none⟩ ∧ w.heap[g]? = some (.cells cur 5 (0, 0)) ∧ x.d.length ≤ cur.size ∧ n0 ≤ g
theorem DB.old {n0 : Nat} {x : En} {w w' : World} (h : DB n0 x w) (u : Old w w') : DB n0 x w' := fun h0 => by
  obtain ⟨g, cur, e1, e2, e3, e4⟩ := h h0
  exact ⟨g, cur, e1, u.block e2, e3, e4⟩
theorem DB.set {n0 : Nat} {x : En} {w : World} (h : DB n0 x w) (p : Addr) (v : Value) (hp : p.spot = none) : DB n0 x (w.setCell p v) := fun h0 => by
  obtain ⟨g, cur, e1, e2, e3, e4⟩ := h h0
  by_cases hg : p.block = g
  · obtain ⟨b, o, s⟩ := p
    dsimp only at hp hg
    subst hp hg
    exact ⟨b, _, e1, Go.Joins.block_setCell e2 v (i := o), by simpa using e3, e4⟩
  · exact ⟨g, cur, e1, by rw [Below.heap_setCell w p v g (fun e => hg e.symm)]; exact e2, e3, e4⟩
/-- While entries that were told are written over. -/
structure Spoil (W : World) (ob m : Nat) (X : List En) (w : World) : Prop where
  u : Old W w
  o : EOut ob m X w
  d : ∀ x ∈ X, DB W.heap.size x w
theorem Spoil.old {W : World} {ob m : Nat} {X : List En} {w w' : World} (h : Spoil W ob m X w) (u : Old w w') : Spoil W ob m X w' := ⟨h.u.trans u, h.o.old u, fun x hx => (h.d x hx).old u⟩
theorem Spoil.set {W : World} {ob m : Nat} {X : List En} {w : World} (h : Spoil W ob m X w) (g o : Nat) (v : Value) (cur : Array Value) (hg : w.heap[g]? = some (.cells cur 5 (0, 0))) (hn : W.heap.size ≤ g) : Spoil W ob m X (w.setCell ⟨g, o, none⟩ v) := by
  refine ⟨h.u.setCell (p := ⟨g, o, none⟩) hn v, ?_, fun x hx => (h.d x hx).set _ _ rfl⟩
  obtain ⟨cur2, h1, h2⟩ := h.o
  exact ⟨cur2, set_other h1 (ty_ne h1 hg (by decide)), h2⟩
theorem Spoil.ent {W : World} {ob m : Nat} {X : List En} {w : World} (h : Spoil W ob m X w) (j : Nat) (hj : j < X.length) : EntIn w ob (j * 4) (atE X j).e := by
  obtain ⟨cur, h1, h2, h3⟩ := h.o
  obtain ⟨x0, x1, x2, x3⟩ := ecs_at (X.map En.e) j (by simpa using hj)
  rw [← h3, entA_map _ _ hj] at x0 x1 x2 x3
  have key : ∀ i u, (cur.toList.take (X.length * 4))[i]? = some u → w.cell? ⟨ob, i, none⟩ = some u := fun i u hu => by
    rw [Go.Joins.cell_of_block h1]
    have hl := (List.getElem?_eq_some_iff.1 hu).1
    rw [List.length_take] at hl
    rw [List.getElem?_take_of_lt (by omega)] at hu
    simpa using hu
  exact ⟨key _ _ x0, key _ _ x1, key _ _ x2, key _ _ x3⟩
theorem ENew.spoil {W w : World} {v : Value} {X : List En} (h : ENew W.heap.size v X w) (u : Old W w) : ∃ ob, v = .slice (some ⟨ob, 0, none⟩) X.length X.length ∧ Spoil W ob X.length X w := by
  obtain ⟨ob, e, _, o⟩ := h.o
  refine ⟨ob, e, u, o, fun x hx h0 => ?_⟩
  obtain ⟨h1, h2⟩ := h.d x hx
  rcases h1.cases with ⟨e1, e2⟩ | ⟨g, cap, cur, e1, e3, e4, e5, e6, _⟩
  · rw [e2] at h0; simp at h0
  · refine ⟨g, cur, ?_, e3, by omega, h2 g (by rw [e1]; rfl)⟩
    have := e1
    simp only [En.s, Value.slice.injEq] at this
    exact this.1
/-- The log is the only thing that turns. -/
theorem Mov.keep {W0 w w' : World} {lb : Nat} {G G' : Lg} {P : PL} (u : Old W0 w) (h : LogP W0.heap.size lb G P w) (m : Mov lb w G w' G') : Old W0 w' :=
  Old.below u (m.1.below _ (fun k hk => (h.m.lt k hk).1) u.size)
theorem far_put {W0 w : World} {lb : Nat} {G : Lg} {P : PL} {v : Value} {X : List En} {l : Int} {wa : World} (u : Old wa W0) (h : LogP W0.heap.size lb G P w) (hX : ERow wa v X) {v' : Value} (hv : ∀ g, v'.ownBlock = some g → w.heap.size ≤ g) : Far v' (putL l X) (mbl lb G) := by
  refine ⟨fun _ g e q => ?_, fun y hy h0 g e q => ?_⟩
  · have := hv g e; have := (h.m.lt g q).2; omega
  · obtain ⟨x, hx, e1, e2⟩ := putL_mem _ _ _ hy
    rw [e1] at e
    rw [e2] at h0
    have := (hX.2.2 x hx).lt h0 g e
    have := (h.m.lt g q).1
    have := u.size
    omega
end Go.Proofs.Ytgpfmohaogppiaa
