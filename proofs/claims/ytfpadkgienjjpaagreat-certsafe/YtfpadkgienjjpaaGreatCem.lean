/- A row of transactions that a law makes of what came in; a submission loaded and stored as a step of a region that draws; conditions: it lies among the call's own blocks. -/
import Derived.Test.YtfpadkgienjjpaaGreatCel
import Derived.Test.YtfpadkgienjjpaaGreatCso
namespace Go.Proofs.YtfpadkgienjjpaaGreat
open Go.RowKit Go.Lib
set_option linter.unusedVariables false
set_option linter.unusedSimpArgs false
set_option maxRecDepth 20000
structure Dn where
 n : Int
 s : Sb
def dnc (d : Dn) : List Value := [.int .i64 d.n, .int .i64 d.s.s1, .int .i64 d.s.s2, .int .i64 d.s.s3, .slice d.s.a1 d.s.n1 d.s.c1, .slice d.s.a2 d.s.n2 d.s.c2, .slice d.s.a3 d.s.n3 d.s.c3]
def dncs (L : List Dn) : List Value := L.flatMap dnc
theorem dncs_len (L : List Dn) : (dncs L).length = L.length * 7 := flat_len dnc 7 (fun _ => rfl) L
theorem dncs_app (L M : List Dn) : dncs L ++ dncs M = dncs (L ++ M) := by simp [dncs]
theorem dncs_one (L : List Dn) : ∀ u ∈ dncs L, u.oneCell' = true := by
 intro u hu
 obtain ⟨k, _, h⟩ := List.mem_flatMap.1 hu
 simp only [dnc, List.mem_cons, List.not_mem_nil, or_false] at h
 rcases h with rfl | rfl | rfl | rfl | rfl | rfl | rfl <;> rfl
abbrev DnIn (w : World) (g o : Nat) (d : Dn) : Prop := w.cell? ⟨g, o, none⟩ = some (.int .i64 d.n) ∧ w.cell? ⟨g, o + 1, none⟩ = some (.int .i64 d.s.s1) ∧ w.cell? ⟨g, o + 2, none⟩ = some (.int .i64 d.s.s2) ∧ w.cell? ⟨g, o + 3, none⟩ = some (.int .i64 d.s.s3) ∧ w.cell? ⟨g, o + 4, none⟩ = some (.slice d.s.a1 d.s.n1 d.s.c1) ∧ w.cell? ⟨g, o + 5, none⟩ = some (.slice d.s.a2 d.s.n2 d.s.c2) ∧ w.cell? ⟨g, o + 6, none⟩ = some (.slice d.s.a3 d.s.n3 d.s.c3)
structure DnRow (w0 : World) (v : Value) (L : List Dn) (cb : Nat) (G : Cg) (w : World) : Prop where
 row : w.ownsRow w0.heap.size 45 7 v L.length (dncs L)
 ok : ∀ d ∈ L, d.s.Ok w0
 far : ∀ g, v.ownBlock = some g → g ∉ mblC cb G
theorem DnRow.old {w0 : World} {v : Value} {L : List Dn} {cb : Nat} {G : Cg} {w w' : World} (h : DnRow w0 v L cb G w) (u : Old w w') : DnRow w0 v L cb G w' := ⟨own_old h.row u, h.ok, h.far⟩
theorem DnRow.mov {w0 : World} {v : Value} {L : List Dn} {cb : Nat} {G G' : Cg} {w w' : World} (h : DnRow w0 v L cb G w) (m : CMov cb w G w' G') : DnRow w0 v L cb G' w' := by
 refine ⟨own_chg h.row m.1 h.far, h.ok, fun g e q => ?_⟩
 rcases m.2 g q with z | z
 ·exact h.far g e z
 ·have := (World.ownsRow.lt h.row g e).2; omega
theorem DnRow.chg {w0 : World} {v : Value} {L : List Dn} {cb : Nat} {G : Cg} {w w' : World} {S : List Nat} (h : DnRow w0 v L cb G w) (u : Chg S w w') (hn : ∀ g, v.ownBlock = some g → g ∉ S) : DnRow w0 v L cb G w' := ⟨own_chg h.row u hn, h.ok, h.far⟩
theorem DnRow.len {w0 : World} {v : Value} {L : List Dn} {cb : Nat} {G : Cg} {w : World} (h : DnRow w0 v L cb G w) : ∃ a c, v = .slice a L.length c := by
 rcases h.row.2 with ⟨rfl, e⟩ | ⟨g, cap, cur, rfl, _⟩
 ·exact ⟨none, 0, by rw [e]⟩
 ·exact ⟨_, _, rfl⟩
theorem DnRow.at {w0 : World} {v : Value} {L : List Dn} {cb : Nat} {G : Cg} {w : World} (h : DnRow w0 v L cb G w) (i : Nat) (hi : i < L.length) : ∃ g cap, v = .slice (some ⟨g, 0, none⟩) L.length cap ∧ DnIn w g (i * 7) L[i] := by
 have h2 := h.row
 rcases h2.2 with ⟨_, e⟩ | ⟨g, cap, cur, rfl, hb, hg, hnc, hcm, hcs, htk⟩
 ·omega
 ·refine ⟨g, cap, rfl, ?_⟩
  have H : ∀ j, j < 7 → w.cell? ⟨g, i * 7 + j, none⟩ = (dnc L[i])[j]? := fun j hj => by
   rw [h2.cellAt (i * 7 + j) (by omega)]; exact flat_get dnc 7 (fun _ => rfl) L i j hi hj
  exact ⟨H 0 (by omega), H 1 (by omega), H 2 (by omega), H 3 (by omega), H 4 (by omega), H 5 (by omega), H 6 (by omega)⟩
theorem DnRow.empty {w0 w : World} {cb : Nat} {G : Cg} (hb : w0.heap.size ≤ w.heap.size) (h : CtAt w0.heap.size cb G w) : DnRow w0 (.slice (some ⟨w.heap.size, 0, none⟩) 0 0) [] cb G (w.alloc (.cells #[] 45)) :=
 ⟨World.ownsRow_made w #[] 0 hb (by unfold maxLen; omega) rfl, (fun d q => nomatch q), fun g e q => by cases e; exact Nat.lt_irrefl _ (h.lt _ q).2⟩
theorem DnRow.put {w0 : World} {v v' : Value} {L : List Dn} {cb : Nat} {G : Cg} {w w' : World} {d : Dn} (h : DnRow w0 v L cb G w) (c : CtAt w0.heap.size cb G w) (hd : d.s.Ok w0) (r : w'.ownsRow w0.heap.size 45 7 v' (L ++ [d]).length (dncs (L ++ [d]))) (g : w.grownBy w' v.ownBlock) (n : v'.ownBlock = v.ownBlock ∨ v'.ownBlock = some w.heap.size) (u : Old w0 w) : DnRow w0 v' (L ++ [d]) cb G w' ∧ CtAt w0.heap.size cb G w' ∧ Old w0 w' := by
 have ch := Chg.grownB g
 refine ⟨⟨r, fun x q => ?_, fun k e q => ?_⟩, ?_, ?_⟩
 ·rcases List.mem_append.1 q with z | z
  ·exact h.ok x z
  ·simp only [List.mem_singleton] at z; subst z; exact hd
 ·rcases n with z | z
  ·exact h.far k (z ▸ e) q
  ·rw [e] at z; cases z; exact Nat.lt_irrefl _ (c.lt _ q).2
 ·exact c.chg ch (fun k q z => h.far k (by simpa [Option.mem_toList] using z) q) (fun k q b hb z => own_apart (c.kk k q) h.row hb (by simpa [Option.mem_toList] using z))
 ·exact Old.below u (ch.below _ (fun k q => (World.ownsRow.lt h.row k (by simpa [Option.mem_toList] using q)).1) u.size)
theorem wp_appDn {ops : Array Oper} {rest : List Oper} {o : Oper} {a : Act} {Q : Exit → Act → World → Prop} {w : World} (hgd : o.guard = none) (s x : Operand)
    (ho : o.op = .call { callee := .builtin .append, args := #[s, x], argTypes := #[42, 42] }) (base : Nat) (v : Value) (L : List Dn) (g : Nat) (d : Dn)
    (hs : a.eval s = v) (hx : a.eval x = .slice (some ⟨g, 0, none⟩) 1 1) (hown : w.ownsRow base 45 7 v L.length (dncs L)) (hc : DnIn w g 0 d) (hb : L.length ≤ 1048576) (hbase : base ≤ w.heap.size)
    (h : ∀ v' w', w'.ownsRow base 45 7 v' (L ++ [d]).length (dncs (L ++ [d])) → w.grownBy w' v.ownBlock → (v'.ownBlock = v.ownBlock ∨ v'.ownBlock = some w.heap.size) → wpList Tryz.prog ops Q rest (a.put o.dst v') w') : wpList Tryz.prog ops Q (o :: rest) a w := by
 obtain ⟨i0, hi, hz0, hz1, hz2⟩ := info_parts infoDg
 refine wpList_append_own_at w hgd s x 42 ho base 45 i0 _ 7 104 Tryz.underlying42 hi hz0 hz1 hz2 rfl (by decide) v L.length (dncs L) hs hown ⟨g, 0, none⟩ 1 1 (dncs [d]) hx rfl ?_ (dncs_one _) (by unfold maxLen; omega) (by omega) hbase ?_
 ·intro j u hj
  rw [Go.WideShapes.add_plain, Nat.zero_add]
  obtain ⟨x0, x1, x2, x3, x4, x5, x6⟩ := hc
  match j with
  | 0 => simp [dncs, dnc] at hj; subst hj; exact x0
  | 1 => simp [dncs, dnc] at hj; subst hj; exact x1
  | 2 => simp [dncs, dnc] at hj; subst hj; exact x2
  | 3 => simp [dncs, dnc] at hj; subst hj; exact x3
  | 4 => simp [dncs, dnc] at hj; subst hj; exact x4
  | 5 => simp [dncs, dnc] at hj; subst hj; exact x5
  | 6 => simp [dncs, dnc] at hj; subst hj; exact x6
  | j + 7 => simp [dncs, dnc] at hj
 ·intro v' w' h1 h2 h3 h4
  rw [dncs_app] at h1
  exact h v' w' (by rw [List.length_append]; exact h1) h2 h4
theorem infoSubT : (Tryz.prog.info? 25).map (·.size) = some 6 := by kernel_rfl
theorem stepLdSub {ops : Array Oper} {o : Oper} {a : Act} {w : World} {K : Act → World → Prop} {Q : Exit → Act → World → Prop} {E : Prop} (hg : o.guard = none) (x : Operand) (hop : o.op = Op.load 25 x) (m : Nat) (s1 s2 s3 : Int) (a1 a2 a3 : Option Addr) (n1 n2 n3 c1 c2 c3 : Nat)
    (hx : a.eval x = .pointer (some ⟨m, 0, none⟩)) (hc : SubB' m s1 s2 s3 (.slice a1 n1 c1) (.slice a2 n2 c2) (.slice a3 n3 c3) w)
    (hK : K (a.put o.dst (.agg #[.int .i64 s1, .int .i64 s2, .int .i64 s3, .slice a1 n1 c1, .slice a2 n2 c2, .slice a3 n3 c3])) w) :
    if Region.wanted o (yielded ops a.tmps) = true then Oper.wp Tryz.prog o a w K Q else E := by
 have hw : Region.wanted o (yielded ops a.tmps) = true := by simp [Region.wanted, hg]
 rw [if_pos hw]
 obtain ⟨⟨z0, z1, z2, z3, z4, z5⟩, -⟩ := box6F hc
 obtain ⟨d, p', t, ps, af, gd⟩ := o
 subst hop
 unfold Oper.wp execOp
 simp only [hx]
 go_simp
 exact hK
theorem subB_set {m : Nat} {s1 s2 s3 r1 r2 r3 : Int} {u1 u2 u3 v1 v2 v3 : Value} {w : World} (h : SubB' m s1 s2 s3 u1 u2 u3 w) : SubB' m r1 r2 r3 v1 v2 v3 (w.setCells m 0 [.int .i64 r1, .int .i64 r2, .int .i64 r3, v1, v2, v3]) := by
 simp only [World.setCells]
 exact Go.Joins.block_setCell (Go.Joins.block_setCell (Go.Joins.block_setCell (Go.Joins.block_setCell (Go.Joins.block_setCell (Go.Joins.block_setCell h (.int .i64 r1) (i := 0)) (.int .i64 r2) (i := 1)) (.int .i64 r3) (i := 2)) v1 (i := 3)) v2 (i := 4)) v3 (i := 5)
theorem stepStSub {ops : Array Oper} {o : Oper} {a : Act} {w : World} {K : Act → World → Prop} {Q : Exit → Act → World → Prop} {E : Prop} (hg : o.guard = none) (x y : Operand) (hop : o.op = Op.store 25 x y) (m : Nat) (s1 s2 s3 r1 r2 r3 : Int) (u1 u2 u3 : Value) (a1 a2 a3 : Option Addr) (n1 n2 n3 c1 c2 c3 : Nat)
    (hx : a.eval x = .pointer (some ⟨m, 0, none⟩)) (hy : a.eval y = .agg #[.int .i64 r1, .int .i64 r2, .int .i64 r3, .slice a1 n1 c1, .slice a2 n2 c2, .slice a3 n3 c3]) (hc : SubB' m s1 s2 s3 u1 u2 u3 w)
    (hK : K (a.put o.dst undef) (w.setCells m 0 [.int .i64 r1, .int .i64 r2, .int .i64 r3, .slice a1 n1 c1, .slice a2 n2 c2, .slice a3 n3 c3])) :
    if Region.wanted o (yielded ops a.tmps) = true then Oper.wp Tryz.prog o a w K Q else E := by
 have hw : Region.wanted o (yielded ops a.tmps) = true := by simp [Region.wanted, hg]
 rw [if_pos hw]
 have ht : w.there m 0 6 := by
  obtain ⟨⟨z0, z1, z2, z3, z4, z5⟩, zf⟩ := box6F hc
  intro j hj
  refine ⟨?_, by rw [Nat.zero_add]; exact zf j⟩
  rw [Nat.zero_add]
  match j, hj with
  | 0, _ => rw [z0]; rfl
  | 1, _ => rw [z1]; rfl
  | 2, _ => rw [z2]; rfl
  | 3, _ => rw [z3]; rfl
  | 4, _ => rw [z4]; rfl
  | 5, _ => rw [z5]; rfl
 exact wp_store_mid _ x y hop m 0 _ hx hy ht infoSubT (by simp [Value.oneCell']) hK
theorem count_old (base cb : Nat) (G : Cg) (w : World) (h : CtAt base cb G w) : Calls Tryz.prog 11 #[.pointer (some ⟨cb, 0, none⟩)] w fun e w' => e = .returned (.int .i64 G.c.cnt) ∧ Old w w' := (count_any base cb G w h).mono fun e w' q => ⟨q.1, q.2 ▸ Old.refl w⟩
theorem horizon_old (base cb : Nat) (G : Cg) (w : World) (h : CtAt base cb G w) : Calls Tryz.prog 14 #[.pointer (some ⟨cb, 0, none⟩)] w fun e w' => e = .returned (.int .i64 G.c.hor) ∧ Old w w' := (horizon_any base cb G w h).mono fun e w' q => ⟨q.1, q.2 ▸ Old.refl w⟩
end Go.Proofs.YtfpadkgienjjpaaGreat
