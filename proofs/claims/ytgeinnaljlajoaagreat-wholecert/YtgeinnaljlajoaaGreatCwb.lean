/- A row of transactions of a law's own, beside a Cert; what it says of a history; conditions: it lies among the call's own blocks. -/
import Derived.Test.YtgeinnaljlajoaaGreatCez
import Derived.Test.YtgeinnaljlajoaaGreatCex
import Derived.Test.YtgeinnaljlajoaaGreatCso
namespace Go.Proofs.YtgeinnaljlajoaaGreat
open Go.RowKit Go.Lib
set_option linter.unusedVariables false
set_option linter.unusedSimpArgs false
set_option maxRecDepth 20000
def dnc (d : Dn) : List Value := [.int .i64 d.n, .int .i64 d.s.s1, .int .i64 d.s.s2, .int .i64 d.s.s3, .slice d.s.a1 d.s.n1 d.s.c1, .slice d.s.a2 d.s.n2 d.s.c2, .slice d.s.a3 d.s.n3 d.s.c3]
def dncs (L : List Dn) : List Value := L.flatMap dnc
theorem dncs_len (L : List Dn) : (dncs L).length = L.length * 7 := flat_len dnc 7 (fun _ => rfl) L
theorem dncs_app (L M : List Dn) : dncs L ++ dncs M = dncs (L ++ M) := by simp [dncs]
theorem dncs_one (L : List Dn) : ∀ u ∈ dncs L, u.oneCell' = true := by
 intro u hu
 obtain ⟨k, _, h⟩ := List.mem_flatMap.1 hu
 simp only [dnc, List.mem_cons, List.not_mem_nil, or_false] at h
 rcases h with rfl | rfl | rfl | rfl | rfl | rfl | rfl <;> rfl
structure DnRow (w0 : World) (v : Value) (L : List Dn) (cb : Nat) (G : Cg) (w : World) : Prop where
 row : w.ownsRow w0.heap.size 44 7 v L.length (dncs L)
 ok : ∀ d ∈ L, d.s.Ok w0
 far : ∀ g, v.ownBlock = some g → g ∉ mblC cb G
theorem DnRow.old {w0 : World} {v : Value} {L : List Dn} {cb : Nat} {G : Cg} {w w' : World} (h : DnRow w0 v L cb G w) (u : Old w w') : DnRow w0 v L cb G w' := ⟨own_old h.row u, h.ok, h.far⟩
theorem DnRow.mov {w0 : World} {v : Value} {L : List Dn} {cb : Nat} {G G' : Cg} {w w' : World} (h : DnRow w0 v L cb G w) (m : CMov cb w G w' G') : DnRow w0 v L cb G' w' := by
 refine ⟨own_chg h.row m.1 h.far, h.ok, fun g e q => ?_⟩
 rcases m.2 g q with z | z
 ·exact h.far g e z
 ·have := (World.ownsRow.lt h.row g e).2; omega
theorem DnRow.chg {w0 : World} {v : Value} {L : List Dn} {cb : Nat} {G : Cg} {w w' : World} {S : List Nat} (h : DnRow w0 v L cb G w) (u : Chg S w w') (hn : ∀ g, v.ownBlock = some g → g ∉ S) : DnRow w0 v L cb G w' := ⟨own_chg h.row u hn, h.ok, h.far⟩
theorem DnRow.len {w0 : World} {v : Value} {L : List Dn} {cb : Nat} {G : Cg} {w : World} (h : DnRow w0 v L cb G w) : ∃ a c, v = .slice a L.length c := by
 rcases h.row.2 with ⟨rfl, e⟩ | ⟨g, cap, cur, rfl, _⟩
 ·exact ⟨none, 0, by rw [e]⟩
 ·exact ⟨_, _, rfl⟩
theorem DnRow.at {w0 : World} {v : Value} {L : List Dn} {cb : Nat} {G : Cg} {w : World} (h : DnRow w0 v L cb G w) (i : Nat) (hi : i < L.length) : ∃ g cap, v = .slice (some ⟨g, 0, none⟩) L.length cap ∧ DnIn w g (i * 7) L[i] := by
 have h2 := h.row
 rcases h2.2 with ⟨_, e⟩ | ⟨g, cap, cur, rfl, hb, hg, hnc, hcm, hcs, htk⟩
 ·omega
 ·refine ⟨g, cap, rfl, ?_⟩
  have H : ∀ j, j < 7 → w.cell? ⟨g, i * 7 + j, none⟩ = (dnc L[i])[j]? := fun j hj => by
   rw [h2.cellAt (i * 7 + j) (by omega)]; exact flat_get dnc 7 (fun _ => rfl) L i j hi hj
  unfold DnIn
  exact ⟨H 0 (by omega), H 1 (by omega), H 2 (by omega), H 3 (by omega), H 4 (by omega), H 5 (by omega), H 6 (by omega)⟩
theorem DnRow.empty {w0 w : World} {cb : Nat} {G : Cg} (hb : w0.heap.size ≤ w.heap.size) (h : CtAt w0.heap.size cb G w) : DnRow w0 (.slice (some ⟨w.heap.size, 0, none⟩) 0 0) [] cb G (w.alloc (.cells #[] 44)) :=
 ⟨World.ownsRow_made w #[] 0 hb (by unfold maxLen; omega) rfl, (fun d q => nomatch q), fun g e q => by cases e; exact Nat.lt_irrefl _ (h.lt _ q).2⟩
theorem DnRow.put {w0 : World} {v v' : Value} {L : List Dn} {cb : Nat} {G : Cg} {w w' : World} {d : Dn} (h : DnRow w0 v L cb G w) (c : CtAt w0.heap.size cb G w) (hd : d.s.Ok w0) (r : w'.ownsRow w0.heap.size 44 7 v' (L ++ [d]).length (dncs (L ++ [d]))) (g : w.grownBy w' v.ownBlock) (n : v'.ownBlock = v.ownBlock ∨ v'.ownBlock = some w.heap.size) (u : Old w0 w) : DnRow w0 v' (L ++ [d]) cb G w' ∧ CtAt w0.heap.size cb G w' ∧ Old w0 w' := by
 have ch := Chg.grownB g
 refine ⟨⟨r, fun x q => ?_, fun k e q => ?_⟩, ?_, ?_⟩
 ·rcases List.mem_append.1 q with z | z
  ·exact h.ok x z
  ·simp only [List.mem_singleton] at z; subst z; exact hd
 ·rcases n with z | z
  ·exact h.far k (z ▸ e) q
  ·rw [e] at z; cases z; exact Nat.lt_irrefl _ (c.lt _ q).2
 ·exact c.chg ch (fun k q z => h.far k (by simpa [Option.mem_toList] using z) q) (fun k q b hb z => own_apart (c.kk k q) h.row hb (by simpa [Option.mem_toList] using z))
 ·exact Old.below u (ch.below _ (fun k q => (World.ownsRow.lt h.row k (by simpa [Option.mem_toList] using q)).1) u.size)
theorem wp_appDn {ops : Array Oper} {rest : List Oper} {o : Oper} {a : Act} {Q : Exit → Act → World → Prop} {w : World} (hgd : o.guard = none) (s x : Operand)
    (ho : o.op = .call { callee := .builtin .append, args := #[s, x], argTypes := #[42, 42] }) (base : Nat) (v : Value) (L : List Dn) (g : Nat) (d : Dn)
    (hs : a.eval s = v) (hx : a.eval x = .slice (some ⟨g, 0, none⟩) 1 1) (hown : w.ownsRow base 44 7 v L.length (dncs L)) (hc : DnIn w g 0 d) (hb : L.length ≤ 1048576) (hbase : base ≤ w.heap.size)
    (h : ∀ v' w', w'.ownsRow base 44 7 v' (L ++ [d]).length (dncs (L ++ [d])) → w.grownBy w' v.ownBlock → (v'.ownBlock = v.ownBlock ∨ v'.ownBlock = some w.heap.size) → wpList Tryz.prog ops Q rest (a.put o.dst v') w') : wpList Tryz.prog ops Q (o :: rest) a w := by
 obtain ⟨i0, hi, hz0, hz1, hz2⟩ := info_parts infoDg
 refine wpList_append_own_at w hgd s x 42 ho base 44 i0 _ 7 104 Tryz.underlying42 hi hz0 hz1 hz2 rfl (by decide) v L.length (dncs L) hs hown ⟨g, 0, none⟩ 1 1 (dncs [d]) hx rfl ?_ (dncs_one _) (by unfold maxLen; omega) (by omega) hbase ?_
 ·intro j u hj
  rw [Go.WideShapes.add_plain, Nat.zero_add]
  unfold DnIn at hc
  obtain ⟨x0, x1, x2, x3, x4, x5, x6⟩ := hc
  match j with
  | 0 => simp [dncs, dnc] at hj; subst hj; exact x0
  | 1 => simp [dncs, dnc] at hj; subst hj; exact x1
  | 2 => simp [dncs, dnc] at hj; subst hj; exact x2
  | 3 => simp [dncs, dnc] at hj; subst hj; exact x3
  | 4 => simp [dncs, dnc] at hj; subst hj; exact x4
  | 5 => simp [dncs, dnc] at hj; subst hj; exact x5
  | 6 => simp [dncs, dnc] at hj; subst hj; exact x6
  | j + 7 => simp [dncs, dnc] at hj
 ·intro v' w' h1 h2 h3 h4
  rw [dncs_app] at h1
  exact h v' w' (by rw [List.length_append]; exact h1) h2 h4
theorem box7J {w : World} {b : Nat} {d : Dn} (h : w.heap[b]? = some (.cells #[.int .i64 d.n, .int .i64 d.s.s1, .int .i64 d.s.s2, .int .i64 d.s.s3, .slice d.s.a1 d.s.n1 d.s.c1, .slice d.s.a2 d.s.n2 d.s.c2, .slice d.s.a3 d.s.n3 d.s.c3] 44 (0, 0))) : DnIn w b 0 d := by
 unfold DnIn
 refine ⟨?_, ?_, ?_, ?_, ?_, ?_, ?_⟩ <;> (rw [Go.Joins.cell_of_block h]; rfl)
def atL (L : List Dn) : Nat → Dn := fun i => (L[i]?).getD oneD
theorem atL_get {L : List Dn} {i : Nat} (h : i < L.length) : atL L i = L[i] := by
 unfold atL
 rw [List.getElem?_eq_getElem h]
 rfl
theorem DnRow.drow {w0 : World} {v : Value} {L : List Dn} {cb : Nat} {G : Cg} {w : World} (h : DnRow w0 v L cb G w) (u : Old w0 w) (hl : L.length ≤ 1099511627776) : DRow w v L.length (atL L) := by
 have hat := fun i hi => h.at i hi
 have hok := h.ok
 rcases h.row.2 with ⟨rfl, e⟩ | ⟨g, cap, cur, rfl, hb, hg, hnc, hcm, hcs, htk⟩
 ·rw [e]
  exact ⟨by omega, none, 0, rfl, by omega, by omega, fun i hi => by omega⟩
 ·refine ⟨hl, some ⟨g, 0, none⟩, cap, rfl, by omega, by unfold maxLen at hcm; omega, fun i hi => ?_⟩
  obtain ⟨g', cap', e, q⟩ := hat i hi
  simp only [Value.slice.injEq, Option.some.injEq, Addr.mk.injEq] at e
  obtain ⟨⟨rfl, -⟩, -⟩ := e
  refine ⟨g, 0, rfl, ?_, ?_⟩
  ·rw [Nat.zero_add, atL_get hi]
   exact q
  ·rw [atL_get hi]
   exact (hok _ (List.getElem_mem hi)).old u
structure WcI (w : World) (cb : Nat) (G : Cg) (v : Value) (L : List Dn) (W : World) : Prop where
 c : CtAt w.heap.size cb G W
 r : DnRow w v L cb G W
 u : Old w W
theorem WcI.old {w : World} {cb : Nat} {G : Cg} {v : Value} {L : List Dn} {W W' : World} (h : WcI w cb G v L W) (u : Old W W') : WcI w cb G v L W' := ⟨h.c.old u, h.r.old u, h.u.trans u⟩
theorem WcI.fresh {w : World} {cb : Nat} {G : Cg} {v : Value} {L : List Dn} {W : World} (h : WcI w cb G v L W) {x : Nat} (hx : W.heap.size ≤ x) : x ∉ mblC cb G ∧ (∀ k ∈ G.kn, ∀ g ∈ k.bl, g ≠ x) ∧ (∀ g, v.ownBlock = some g → g ≠ x) ∧ w.heap.size ≤ x := by
 refine ⟨fun q => ?_, fun k q g hg e => ?_, fun g e q => ?_, ?_⟩
 ·have := h.c.lt _ q; omega
 ·subst e; have := (h.c.kk k q).lt g hg; omega
 ·have := (World.ownsRow.lt h.r.row g e).2; omega
 ·have := h.u.size; omega
theorem WcI.own {w : World} {cb : Nat} {G : Cg} {v : Value} {L : List Dn} {W : World} (h : WcI w cb G v L W) {x : Nat} (hx : x ∉ mblC cb G ∧ (∀ k ∈ G.kn, ∀ g ∈ k.bl, g ≠ x) ∧ (∀ g, v.ownBlock = some g → g ≠ x) ∧ w.heap.size ≤ x) (i : Nat) (z : Value) : WcI w cb G v L (W.setCell ⟨x, i, none⟩ z) := by
 have ch : Chg [x] W (W.setCell ⟨x, i, none⟩ z) := Chg.set W ⟨x, i, none⟩ z (by simp)
 exact ⟨h.c.chg ch (fun k q e => by simp at e; subst e; exact hx.1 q) (fun k q g hg e => by simp at e; exact hx.2.1 k q g hg e), h.r.chg ch (fun g e q => by simp at q; exact hx.2.2.1 g e q), h.u.below (ch.below w.heap.size (fun k q => by simp at q; have := hx.2.2.2; omega) h.u.size)⟩
theorem WcI.dec {w : World} {cb : Nat} {G : Cg} {v : Value} {L : List Dn} {W : World} (h : WcI w cb G v L W) (s : Sb) (hs : s.Ok w) (ok : CpOk G.c) (r : Int × Int × Cp) (hr : decC G.c s.pl s.chk = r) :
    Calls Tryz.prog 8 #[.pointer (some ⟨cb, 0, none⟩), .agg #[.int .i64 s.s1, .int .i64 s.s2, .int .i64 s.s3, .slice s.a1 s.n1 s.c1, .slice s.a2 s.n2 s.c2, .slice s.a3 s.n3 s.c3]] W fun e W' => ∃ G', e = .returned (.agg #[.int .i64 r.1, .int .i64 r.2.1]) ∧ (WcI w cb G' v L W' ∧ G'.c = r.2.2) ∧ CMov cb W G W' G' := by
 subst hr
 refine (decide_any s w.heap.size cb G W (hs.old h.u) (Sb.arg_far hs (fun k q => (h.c.lt k q).1)) h.c ok).mono ?_
 rintro e W' ⟨G', rfl, a, m, c, f⟩
 exact ⟨G', rfl, ⟨⟨a, h.r.mov m, m.keep h.u h.c⟩, c⟩, m⟩
structure HsL (L : List Dn) (c : Cp) : Prop where
 n : c.cnt = L.length
 a : ∀ i (h : i < L.length), L[i].n = (i : Int) + 1 ∧ L[i].s.chk = 0 ∧ L[i].s.s3 < L[i].n
 d : ∃ D : List Kp, Cov D c ∧ Saf D ∧ ∀ e ∈ L, ∃ d ∈ D, d.n = e.n ∧ d.u = e.s.pl
theorem HsL.ok {L : List Dn} {c : Cp} (h : HsL L c) : CpOk c := by
 obtain ⟨D, a, -⟩ := h.d
 exact a.ok
theorem HsL.new (k o : Int) : HsL [] (newC k o) := ⟨rfl, (fun i h => absurd h (by simp)), [], Cov.new k o, saf0, (fun e q => nomatch q)⟩
theorem fault_zeroW {c : Cp} {u : Su} {ck : Int} (h : faultC c u ck = 0) : ck = 0 ∧ u.s3 ≤ c.cnt := by
 unfold faultC at h
 split at h
 ·rename_i q; exact absurd h q
 split at h
 ·exact absurd h (by decide)
 split at h
 ·exact absurd h (by decide)
 split at h
 ·exact absurd h (by decide)
 omega
theorem HsL.dec {L : List Dn} {c : Cp} (h : HsL L c) (s : Sb) (fu : s.pl.F) (r : Int × Int × Cp) (hr : decC c s.pl s.chk = r) : (r.1 ≠ 0 → r.2.2 = c) ∧ (r.1 = 0 → HsL (L ++ [⟨r.2.1, s⟩]) r.2.2) := by
 subst hr
 obtain ⟨D, a, sf, m⟩ := h.d
 have k := a.dec sf s.pl fu s.chk
 refine ⟨k.1, fun e => ?_⟩
 obtain ⟨h1, o, h2, h3⟩ := k.2 e
 have hf : faultC c s.pl s.chk = 0 := by
  apply Classical.byContradiction
  intro q
  unfold decC at e
  rw [if_pos q] at e
  exact q e
 obtain ⟨f1, f2⟩ := fault_zeroW hf
 have hn := h.n
 have e3 : s.pl.s3 = s.s3 := rfl
 have ec : (decC c s.pl s.chk).2.2.cnt = c.cnt + 1 := by
  have e' := e
  unfold decC at e' ⊢
  rw [hf, if_neg (by decide)] at e' ⊢
  split at e'
  ·exact absurd (show (111 : Int) = 0 from e') (by decide)
  split at e'
  ·exact absurd (show (112 : Int) = 0 from e') (by decide)
  rename_i q1 q2
  rw [if_neg q1, if_neg q2]
  exact commit_cnt _ _ _
 rw [h1]
 refine ⟨by rw [ec, hn]; simp, fun i hi => ?_, _, h2, h3, fun x hx => ?_⟩
 ·rw [List.getElem_append]
  split
  ·rename_i q; exact h.a i q
  ·rename_i q
   have : i = L.length := by simp at hi; omega
   subst this
   simp only [Nat.sub_self, List.getElem_cons_zero]
   exact ⟨by rw [hn], f1, by rw [← e3]; omega⟩
 ·rcases List.mem_append.1 hx with z | z
  ·obtain ⟨d, hd, q⟩ := m x z
   exact ⟨d, List.mem_append_left _ hd, q⟩
  ·simp only [List.mem_singleton] at z
   subst z
   exact ⟨⟨c.cnt + 1, s.pl, o⟩, by simp, rfl, rfl⟩
theorem okU_all {d : Nat → Dn} : ∀ {n : Nat}, (∀ i, i < n → okB d i = true) → okU d n = true
 | 0, _ => rfl
 | n + 1, h => by
  show (okU d n && okB d n) = true
  rw [okU_all (fun i hi => h i (by omega)), h n (by omega)]
  rfl
theorem anyG_noW {f : Nat → Bool} {n : Nat} (h : ∀ i, i < n → f i = false) : Fl.anyG f n = false := by
 rw [← Bool.not_eq_true, anyG_iff]
 rintro ⟨i, hi, e⟩
 rw [h i hi] at e
 cases e
theorem HsL.all {L : List Dn} {c : Cp} (h : HsL L c) (hl : L.length ≤ 64) : rtB (atL L) L.length = true ∧ orB (atL L) L.length = true ∧ rdH (atL L) L.length (orL (atL L) L.length) = true ∧ stB (atL L) L.length = [] := by
 obtain ⟨D, -, sf, m⟩ := h.d
 have num : ∀ i, i < L.length → (atL L i).n = (i : Int) + 1 ∧ (atL L i).s.chk = 0 ∧ (atL L i).s.s3 < (atL L i).n := fun i hi => by rw [atL_get hi]; exact h.a i hi
 have kp : ∀ i, i < L.length → ∃ d ∈ D, d.n = (atL L i).n ∧ d.u = (atL L i).s.pl := fun i hi => by rw [atL_get hi]; exact m _ (List.getElem_mem hi)
 have nk : ∀ {i j : Nat} {x y : Kp}, x.n = (atL L i).n → x.u = (atL L i).s.pl → y.n = (atL L j).n → y.u = (atL L j).s.pl → nearD (atL L i) (atL L j) → nearK x y := fun e1 e2 e3 e4 q => by
  unfold nearK
  rw [e1, e2, e3, e4]
  exact q
 have hr : rtB (atL L) L.length = true := by
  unfold rtB
  rw [decide_eq_true hl, Bool.true_and]
  refine okU_all fun i hi => ?_
  obtain ⟨a, b, e⟩ := num i hi
  unfold okB
  rw [decide_eq_true a, decide_eq_true b, decide_eq_false (Int.not_le.2 e), anyG_noW (fun j hj => ?_)]
  ·rfl
  ·obtain ⟨x, hx, x1, x2⟩ := kp i hi
   obtain ⟨y, hy, y1, y2⟩ := kp j (by omega)
   cases q : clB (atL L i) (atL L j) with
   | false => rfl
   | true =>
    unfold clB bsB at q
    simp only [Bool.and_eq_true, decide_eq_true_eq] at q
    have := sf.bw x hx y hy (nk x1 x2 y1 y2 ⟨by have := (num j (by omega)).1; omega, q.1.1, q.1.2⟩)
    rw [x2, y2, ← bwB_pl, q.2] at this
    cases this
 have hs : SafD (atL L) L.length := fun a b e ha hb he n1 m1 n2 m2 l1 => by
  obtain ⟨x, hx, x1, x2⟩ := kp a ha
  obtain ⟨y, hy, y1, y2⟩ := kp b hb
  obtain ⟨z, hz, z1, z2⟩ := kp e he
  rw [← z1, ← y1]
  exact sf.three x hx y hy (nk x1 x2 y1 y2 n1) (by rw [x2, y2, ← meetU_pl]; exact m1) z hz (.inl (nk y1 y2 z1 z2 n2)) (by rw [y2, z2, ← meetU_pl]; exact m2) (by rw [z1, x1]; exact l1)
 have st := none_stuck hr hs
 have ho : orB (atL L) L.length = true := by
  unfold orB
  rw [hr, st]
  rfl
 refine ⟨hr, ho, or_reads ho, ?_⟩
 unfold stB
 rw [if_pos hr, st]
end Go.Proofs.YtgeinnaljlajoaaGreat
