/- A log as it lies in memory, and what it tells, plainly; no condition. -/
import Derived.Test.YtgpfmohaogppiaaRl2
import Derived.Test.YtgpfmohaogppiaaL5
import Derived.Test.YtgpfmohaogppiaaV9
namespace Go.Proofs.Ytgpfmohaogppiaa
open Go.RowKit Go.Lib
set_option linter.unusedVariables false
set_option linter.unusedSimpArgs false
set_option maxRecDepth 20000
/-- An entry, its data as a list beside the slice that holds it. -/
structure En where
  i : Int
  t : Int
  k : Int
  p : Option Addr
  c : Nat
  d : List Nat
instance : Inhabited En := ⟨⟨0, 0, 0, none, 0, []⟩⟩
def En.e (x : En) : Ent := ⟨x.i, x.t, x.k, x.p, x.d.length, x.c⟩
abbrev En.s (x : En) : Value := .slice x.p x.d.length x.c
def atE (L : List En) (i : Nat) : En := L.getD i default
theorem atE_get (L : List En) (i : Nat) (h : i < L.length) : atE L i = L[i] := by unfold atE; rw [List.getD_eq_getElem?_getD, List.getElem?_eq_getElem h]; rfl
theorem atE_mem (L : List En) (i : Nat) (h : i < L.length) : atE L i ∈ L := by rw [atE_get L i h]; exact List.getElem_mem h
theorem entA_map (L : List En) (i : Nat) (h : i < L.length) : entA (L.map En.e) i = (atE L i).e := by
  unfold entA
  rw [List.getD_eq_getElem?_getD, List.getElem?_map, List.getElem?_eq_getElem h, atE_get L i h]
  rfl
/-- A configuration and from where on it holds. -/
structure Pc where
  x : Int
  u : Value
  v : Value
  a : List Int
  b : List Int
instance : Inhabited Pc := ⟨⟨0, .slice none 0 0, .slice none 0 0, [], []⟩⟩
def pcv (y : Pc) : List Value := [.int .i64 y.x, y.u, y.v]
def pcs : List Pc → List Value | [] => [] | o :: t => pcv o ++ pcs t
theorem pcs_len : ∀ L, (pcs L).length = L.length * 3
  | [] => rfl
  | o :: t => by show (pcv o ++ pcs t).length = _; rw [List.length_append, pcs_len t]; simp [pcv]; omega
theorem pcs_app : ∀ L M, pcs L ++ pcs M = pcs (L ++ M)
  | [], M => rfl
  | o :: t, M => by show (pcv o ++ pcs t) ++ pcs M = pcv o ++ pcs (t ++ M); rw [List.append_assoc, pcs_app t M]
def atP (L : List Pc) (i : Nat) : Pc := L.getD i default
theorem atP_get (L : List Pc) (i : Nat) (h : i < L.length) : atP L i = L[i] := by unfold atP; rw [List.getD_eq_getElem?_getD, List.getElem?_eq_getElem h]; rfl
theorem atP_mem (L : List Pc) (i : Nat) (h : i < L.length) : atP L i ∈ L := by rw [atP_get L i h]; exact List.getElem_mem h
theorem pcs_at : ∀ (L : List Pc) (i : Nat), i < L.length → (pcs L)[i * 3]? = some (.int .i64 (atP L i).x) ∧ (pcs L)[i * 3 + 1]? = some (atP L i).u ∧ (pcs L)[i * 3 + 2]? = some (atP L i).v
  | [], i, hi => by simp at hi
  | o :: t, 0, hi => ⟨rfl, rfl, rfl⟩
  | o :: t, i + 1, hi => by
    have q := pcs_at t i (by simpa using hi)
    have e1 : pcs (o :: t) = .int .i64 o.x :: o.u :: o.v :: pcs t := rfl
    have e2 : atP (o :: t) (i + 1) = atP t i := by simp [atP]
    rw [e1, e2, show (i + 1) * 3 = i * 3 + 1 + 1 + 1 by omega]
    simpa using q
theorem pcs_take : ∀ (L : List Pc) (k : Nat), (pcs L).take (k * 3) = pcs (L.take k)
  | [], k => by simp [pcs]
  | o :: t, 0 => by simp [pcs]
  | o :: t, k + 1 => by
    rw [List.take_succ_cons, show pcs (o :: t) = .int .i64 o.x :: o.u :: o.v :: pcs t from rfl, show (k + 1) * 3 = k * 3 + 1 + 1 + 1 by omega, List.take_succ_cons, List.take_succ_cons, List.take_succ_cons, pcs_take t k]
    rfl
theorem pcs_drop : ∀ (L : List Pc) (k : Nat), (pcs L).drop (k * 3) = pcs (L.drop k)
  | [], k => by simp [pcs]
  | o :: t, 0 => by simp
  | o :: t, k + 1 => by
    rw [List.drop_succ_cons, show pcs (o :: t) = .int .i64 o.x :: o.u :: o.v :: pcs t from rfl, show (k + 1) * 3 = k * 3 + 1 + 1 + 1 by omega, List.drop_succ_cons, List.drop_succ_cons, List.drop_succ_cons, pcs_drop t k]
theorem ecs_take : ∀ (L : List Ent) (k : Nat), (ecs L).take (k * 4) = ecs (L.take k)
  | [], k => by simp [ecs]
  | o :: t, 0 => by simp [ecs]
  | o :: t, k + 1 => by
    rw [List.take_succ_cons, show ecs (o :: t) = .int .i64 o.i :: .int .i64 o.t :: .int .i64 o.k :: .slice o.p o.n o.c :: ecs t from rfl, show (k + 1) * 4 = k * 4 + 1 + 1 + 1 + 1 by omega, List.take_succ_cons, List.take_succ_cons, List.take_succ_cons, List.take_succ_cons, ecs_take t k]
    rfl
theorem ecs_drop : ∀ (L : List Ent) (k : Nat), (ecs L).drop (k * 4) = ecs (L.drop k)
  | [], k => by simp [ecs]
  | o :: t, 0 => by simp
  | o :: t, k + 1 => by
    rw [List.drop_succ_cons, show ecs (o :: t) = .int .i64 o.i :: .int .i64 o.t :: .int .i64 o.k :: .slice o.p o.n o.c :: ecs t from rfl, show (k + 1) * 4 = k * 4 + 1 + 1 + 1 + 1 by omega, List.drop_succ_cons, List.drop_succ_cons, List.drop_succ_cons, List.drop_succ_cons, ecs_drop t k]
/-- A log: its base, its entries, its configurations, the slices that hold them. -/
structure Lg where
  ix : Int
  tm : Int
  es : List En
  cs : List Pc
  ve : Value
  vc : Value
/-- What an entry must be. -/
def rightE (i t k : Int) (d : List Nat) : Bool := !(decide (i < 1) || decide (1099511627776 < i)) && (!(decide (t < 0) || decide (1099511627776 < t)) && (decide (d.length ≤ 2048) && (k == 0 || (k == 1 || (k == 2 && (ldConf d).isSome)))))
def lstI : Int → List En → Int | ix, [] => ix | _, x :: r => lstI x.i r
def lstT : Int → List En → Int | tm, [] => tm | _, x :: r => lstT x.t r
/-- Entries that follow. -/
def Fol : Int → Int → List En → Prop | _, _, [] => True | ix, tm, x :: r => x.i = ix + 1 ∧ tm ≤ x.t ∧ rightE x.i x.t x.k x.d = true ∧ Fol x.i x.t r
theorem lstI_app : ∀ (ix : Int) (A B : List En), lstI ix (A ++ B) = lstI (lstI ix A) B
  | ix, [], B => rfl
  | ix, x :: r, B => lstI_app x.i r B
theorem lstT_app : ∀ (ix : Int) (A B : List En), lstT ix (A ++ B) = lstT (lstT ix A) B
  | ix, [], B => rfl
  | ix, x :: r, B => lstT_app x.t r B
theorem Fol.app : ∀ (ix tm : Int) (A B : List En), Fol ix tm (A ++ B) ↔ Fol ix tm A ∧ Fol (lstI ix A) (lstT tm A) B
  | ix, tm, [], B => by simp [Fol, lstI, lstT]
  | ix, tm, x :: r, B => by
    show (_ ∧ _ ∧ _ ∧ Fol x.i x.t (r ++ B)) ↔ (_ ∧ _ ∧ _ ∧ Fol x.i x.t r) ∧ Fol (lstI x.i r) (lstT x.t r) B
    rw [Fol.app x.i x.t r B]
    constructor
    · rintro ⟨a, b, c, d, e⟩; exact ⟨⟨a, b, c, d⟩, e⟩
    · rintro ⟨⟨a, b, c, d⟩, e⟩; exact ⟨a, b, c, d, e⟩
theorem Fol.len : ∀ (ix tm : Int) (A : List En), Fol ix tm A → lstI ix A = ix + A.length
  | ix, tm, [], _ => by simp [lstI]
  | ix, tm, x :: r, h => by show lstI x.i r = _; rw [Fol.len x.i x.t r h.2.2.2, h.1]; simp; omega
theorem Fol.nth : ∀ (ix tm : Int) (A : List En), Fol ix tm A → ∀ j, j < A.length → (atE A j).i = ix + j + 1
  | ix, tm, [], _, j, hj => by simp at hj
  | ix, tm, x :: r, h, 0, _ => by show x.i = _; rw [h.1]; simp
  | ix, tm, x :: r, h, j + 1, hj => by
    have := Fol.nth x.i x.t r h.2.2.2 j (by simpa using hj)
    have e : atE (x :: r) (j + 1) = atE r j := by simp [atE]
    rw [e, this, h.1]; push_cast; omega
theorem rightE_parts {i t k : Int} {d : List Nat} (h : rightE i t k d = true) : 1 ≤ i ∧ i ≤ 1099511627776 ∧ 0 ≤ t ∧ t ≤ 1099511627776 ∧ d.length ≤ 2048 ∧ (k = 0 ∨ k = 1 ∨ (k = 2 ∧ (ldConf d).isSome = true)) := by
  unfold rightE at h
  simp at h
  obtain ⟨⟨h1, h2⟩, ⟨h3, h4⟩, h5, h6⟩ := h
  refine ⟨by omega, by omega, by omega, by omega, by omega, ?_⟩
  rcases h6 with q | q | q
  · exact .inl q
  · exact .inr (.inl q)
  · exact .inr (.inr q)
theorem Fol.last : ∀ (ix tm : Int) (A : List En), Fol ix tm A → ix ≤ 1099511627776 → 0 ≤ tm → tm ≤ 1099511627776 → lstI ix A ≤ 1099511627776 ∧ tm ≤ lstT tm A ∧ lstT tm A ≤ 1099511627776
  | ix, tm, [], _, h1, h2, h3 => ⟨h1, Int.le_refl _, h3⟩
  | ix, tm, x :: r, h, h1, h2, h3 => by
    obtain ⟨a, b, c, d, e, _⟩ := rightE_parts h.2.2.1
    have := Fol.last x.i x.t r h.2.2.2 b c d
    have h4 := h.2.1
    show lstI x.i r ≤ _ ∧ tm ≤ lstT x.t r ∧ lstT x.t r ≤ _
    omega
theorem Fol.mem : ∀ (ix tm : Int) (A : List En), Fol ix tm A → ∀ x ∈ A, rightE x.i x.t x.k x.d = true ∧ ix < x.i ∧ x.i ≤ lstI ix A
  | ix, tm, [], _, x, hx => by cases hx
  | ix, tm, y :: r, h, x, hx => by
    have hl := Fol.len y.i y.t r h.2.2.2
    have h1 := h.1
    show _ ∧ _ ∧ x.i ≤ lstI y.i r
    rcases List.mem_cons.1 hx with rfl | q
    · exact ⟨h.2.2.1, by omega, by omega⟩
    · have := Fol.mem y.i y.t r h.2.2.2 x q
      exact ⟨this.1, by omega, this.2.2⟩
/-- A configuration, told. -/
abbrev Cf := Int × List Int × List Int
def cfOf (x : En) : List Cf := if x.k = 2 then (match ldConf x.d with | some (a, b) => [(x.i, a, b)] | none => []) else []
def cfs : List En → List Cf | [] => [] | x :: r => cfOf x ++ cfs r
theorem cfs_app : ∀ A B, cfs (A ++ B) = cfs A ++ cfs B
  | [], B => rfl
  | x :: r, B => by show cfOf x ++ cfs (r ++ B) = (cfOf x ++ cfs r) ++ cfs B; rw [cfs_app r B, List.append_assoc]
theorem cfOf_mem {x : En} {y : Cf} (h : y ∈ cfOf x) : y.1 = x.i := by
  unfold cfOf at h
  split at h
  · split at h
    · simp at h; rw [h]
    · cases h
  · cases h
theorem cfs_mem : ∀ (A : List En) (y : Cf), y ∈ cfs A → ∃ x ∈ A, y.1 = x.i
  | [], y, h => by cases h
  | x :: r, y, h => by
    rcases List.mem_append.1 (show y ∈ cfOf x ++ cfs r from h) with q | q
    · exact ⟨x, by simp, cfOf_mem q⟩
    · obtain ⟨z, hz, e⟩ := cfs_mem r y q
      exact ⟨z, by simp [hz], e⟩
theorem cfOf_len (x : En) : (cfOf x).length ≤ 1 := by
  unfold cfOf
  split
  · split <;> simp
  · simp
theorem cfs_len : ∀ A : List En, (cfs A).length ≤ A.length
  | [] => Nat.le_refl _
  | x :: r => by show (cfOf x ++ cfs r).length ≤ _; rw [List.length_append]; have := cfOf_len x; have := cfs_len r; simp; omega
def Pc.pl (y : Pc) : Cf := (y.x, y.a, y.b)
/-- A right log. -/
structure LgOk (G : Lg) : Prop where
  i0 : 0 ≤ G.ix
  i1 : G.ix ≤ 1099511627776
  t0 : 0 ≤ G.tm
  t1 : G.tm ≤ 1099511627776
  fol : Fol G.ix G.tm G.es
  cf : ∃ a b, G.cs.map Pc.pl = (G.ix, a, b) :: cfs G.es
  sm : ∀ y ∈ G.cs, y.a.length ≤ 17592186044000 ∧ y.b.length ≤ 17592186044000
theorem LgOk.cslen {G : Lg} (h : LgOk G) : G.cs.length = (cfs G.es).length + 1 := by
  obtain ⟨a, b, e⟩ := h.cf
  have := congrArg List.length e
  simpa using this
theorem LgOk.bound {G : Lg} (h : LgOk G) : G.ix + G.es.length ≤ 1099511627776 := by
  have h1 := (Fol.last _ _ _ h.fol h.i1 h.t0 h.t1).1
  rw [Fol.len _ _ _ h.fol] at h1
  exact h1
theorem LgOk.few {G : Lg} (h : LgOk G) : G.es.length ≤ 1099511627776 ∧ G.cs.length ≤ 1099511627777 := by
  have h1 := h.bound
  have h2 := h.i0
  have h3 := cfs_len G.es
  have h4 := h.cslen
  omega
/-- A log lies in memory; all that may be written of it lies in blocks from base on. -/
structure LogM (base lb : Nat) (G : Lg) (w : World) : Prop where
  bx : w.heap[lb]? = some (.cells #[.int .i64 G.ix, .int .i64 G.tm, G.ve, G.vc] 68 (0, 0))
  bb : base ≤ lb
  oe : OwnOff base 41 4 w G.ve G.es.length (ecs (G.es.map En.e))
  oc : OwnOff base 65 3 w G.vc G.cs.length (pcs G.cs)
  de : ∀ x ∈ G.es, Own w x.s x.d
  dc : ∀ y ∈ G.cs, OwnI 0 w y.u y.a ∧ OwnI 0 w y.v y.b
/-- Blocks that a log is made of. -/
def LTy (w : World) (k : Nat) : Prop := ∃ cur T, w.heap[k]? = some (.cells cur T (0, 0)) ∧ (T = 68 ∨ T = 41 ∨ T = 65)
def mbl (lb : Nat) (G : Lg) : List Nat := lb :: (G.ve.ownBlock.toList ++ G.vc.ownBlock.toList)
theorem mem_mbl {lb : Nat} {G : Lg} {k : Nat} : k ∈ mbl lb G ↔ k = lb ∨ G.ve.ownBlock = some k ∨ G.vc.ownBlock = some k := by simp [mbl, Option.mem_toList]
theorem LogM.lt {base lb : Nat} {G : Lg} {w : World} (h : LogM base lb G w) : ∀ k ∈ mbl lb G, base ≤ k ∧ k < w.heap.size := fun k hk => by
  rcases mem_mbl.1 hk with rfl | q | q
  · exact ⟨h.bb, heap_lt h.bx⟩
  · exact h.oe.lt k q
  · exact h.oc.lt k q
theorem LogM.ty {base lb : Nat} {G : Lg} {w : World} (h : LogM base lb G w) : ∀ k ∈ mbl lb G, LTy w k := fun k hk => by
  rcases mem_mbl.1 hk with rfl | q | q
  · exact ⟨_, _, h.bx, .inl rfl⟩
  · obtain ⟨cur, e⟩ := h.oe.ty k q; exact ⟨_, _, e, .inr (.inl rfl)⟩
  · obtain ⟨cur, e⟩ := h.oc.ty k q; exact ⟨_, _, e, .inr (.inr rfl)⟩
theorem Own.off {w : World} {v : Value} {d : List Nat} (h : Own w v d) (g : Nat) (e : v.ownBlock = some g) : ¬ LTy w g := by
  rintro ⟨cur, T, h1, h2⟩
  rcases h.cases with ⟨rfl, _⟩ | ⟨g', cap, cur', rfl, h3, _⟩
  · cases e
  · cases e
    rw [h1] at h3
    cases h3
    rcases h2 with q | q | q <;> exact absurd q (by decide)
theorem OwnI.off {base : Nat} {w : World} {v : Value} {d : List Int} (h : OwnI base w v d) (g : Nat) (e : v.ownBlock = some g) : ¬ LTy w g := by
  rintro ⟨cur, T, h1, h2⟩
  rcases h.2 with ⟨rfl, _⟩ | ⟨g', cap, cur', rfl, _, h3, _⟩
  · cases e
  · cases e
    rw [h1] at h3
    cases h3
    rcases h2 with q | q | q <;> exact absurd q (by decide)
theorem LogM.chg {base lb : Nat} {G : Lg} {w w' : World} {S : List Nat} (h : LogM base lb G w) (c : Chg S w w') (ht : ∀ k ∈ S, k < w.heap.size → LTy w k) (hn : ∀ k ∈ mbl lb G, k ∉ S) : LogM base lb G w' :=
  ⟨c.heapAt h.bx (hn _ (mem_mbl.2 (.inl rfl))), h.bb, h.oe.chg c (fun g e => hn _ (mem_mbl.2 (.inr (.inl e)))), h.oc.chg c (fun g e => hn _ (mem_mbl.2 (.inr (.inr e)))),
   fun x hx => (h.de x hx).chg c (fun g e q => (h.de x hx).off g e (ht g q ((h.de x hx).lt g e))),
   fun y hy => ⟨(h.dc y hy).1.chg c (fun g e q => (h.dc y hy).1.off g e (ht g q ((h.dc y hy).1.lt g e).2)), (h.dc y hy).2.chg c (fun g e q => (h.dc y hy).2.off g e (ht g q ((h.dc y hy).2.lt g e).2))⟩⟩
theorem LogM.old {base lb : Nat} {G : Lg} {w w' : World} (h : LogM base lb G w) (u : Old w w') : LogM base lb G w' := h.chg (S := []) (Chg.ofOld u) (fun _ q => by cases q) (fun _ _ q => by cases q)
theorem LogM.r {base lb : Nat} {G : Lg} {w : World} (h : LogM base lb G w) (hn : G.es.length ≤ 8796093022208) : LogR w lb G.ix G.tm G.es.length (entA (G.es.map En.e)) := by
  have c : ∀ j, w.cell? ⟨lb, j, none⟩ = (#[.int .i64 G.ix, .int .i64 G.tm, G.ve, G.vc] : Array Value)[j]? := Go.Joins.cell_of_block h.bx
  obtain ⟨a, cp, e, h1, h2, h3⟩ := h.oe.len
  refine ⟨(c 0).trans rfl, (c 1).trans rfl, hn, a, cp, (c 2).trans (by rw [e]; rfl), h1, h2, fun i hi => ?_⟩
  obtain ⟨x0, x1, x2, x3⟩ := ecs_at (G.es.map En.e) i (by simpa using hi)
  obtain ⟨g, off, ea, q0⟩ := h3 _ _ x0
  obtain ⟨g1, off1, ea1, q1⟩ := h3 _ _ x1
  obtain ⟨g2, off2, ea2, q2⟩ := h3 _ _ x2
  obtain ⟨g3, off3, ea3, q3⟩ := h3 _ _ x3
  rw [ea] at ea1 ea2 ea3
  cases ea1; cases ea2; cases ea3
  exact ⟨g, off, ea, q0, by rw [Nat.add_assoc]; exact q1, by rw [Nat.add_assoc]; exact q2, by rw [Nat.add_assoc]; exact q3⟩
theorem LogM.s {base lb : Nat} {G : Lg} {w : World} (h : LogM base lb G w) (ok : LgOk G) : LogS w lb G.ix G.tm G.es.length (entA (G.es.map En.e)) := by
  have hf := ok.few
  refine ⟨h.r (by omega), ok.i0, ok.bound, fun i hi => ?_⟩
  rw [entA_map _ _ hi]
  exact Fol.nth _ _ _ ok.fol i hi
theorem lastI_map (ix : Int) : ∀ (A : List En), lastI ix A.length (entA (A.map En.e)) = lstI ix A := by
  intro A
  rcases List.eq_nil_or_concat A with rfl | ⟨B, x, rfl⟩
  · rfl
  · rw [List.concat_eq_append, lstI_app]
    unfold lastI
    rw [if_neg (by simp), entA_map _ _ (by simp)]
    simp [atE, En.e, lstI]
theorem lastT_map (tm : Int) : ∀ (A : List En), lastT tm A.length (entA (A.map En.e)) = lstT tm A := by
  intro A
  rcases List.eq_nil_or_concat A with rfl | ⟨B, x, rfl⟩
  · rfl
  · rw [List.concat_eq_append, lstT_app]
    unfold lastT
    rw [if_neg (by simp), entA_map _ _ (by simp)]
    simp [atE, En.e, lstT]
theorem LogM.last {base lb : Nat} {G : Lg} {w : World} (h : LogM base lb G w) (ok : LgOk G) : Calls Try.prog 8 #[.pointer (some ⟨lb, 0, none⟩)] w fun e w' => e = .returned (.tuple #[.int .i64 (lstI G.ix G.es), .int .i64 (lstT G.tm G.es)]) ∧ Old w w' := by
  have hf := ok.few
  have := last_any lb _ _ _ _ w (h.r (by omega))
  rw [lastI_map, lastT_map] at this
  exact this
theorem LogM.base {base lb : Nat} {G : Lg} {w : World} (h : LogM base lb G w) (ok : LgOk G) : Calls Try.prog 9 #[.pointer (some ⟨lb, 0, none⟩)] w fun e w' => e = .returned (.tuple #[.int .i64 G.ix, .int .i64 G.tm]) ∧ Old w w' := by
  have hf := ok.few
  exact base_any lb _ _ _ _ w (h.r (by omega))
end Go.Proofs.Ytgpfmohaogppiaa
