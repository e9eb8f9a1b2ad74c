/- An entry of a map made and stored; sub.Canon with whose rows it makes; what Add makes of a client; conditions: it lies in memory. -/
import Derived.Test.YthjfkmjeppdcnaaGreatClT
import Derived.WideKeyEntry
import Derived.Test.YthjfkmjeppdcnaaGreatSqa
namespace Go.Proofs.YthjfkmjeppdcnaaGreat
open Go.RowKit Go.Lib Go.Maps Go.MapKept
set_option linter.unusedVariables false
set_option linter.unusedSimpArgs false
set_option maxRecDepth 20000
theorem MapIs.ent {w : World} {b : Nat} {M : List (Int × Value)} (h : MapIs w b M) {k : Int} (hk : N64 k) (hne : ∀ p ∈ M, p.1 ≠ k) (v : Value) :
    ∃ z c w1 w2, (Instr.mapEntry 68 (.map (some b)) (.int .i64 k)).run Tryz.prog w = .ok (.tuple #[z, .int .i64 c]) w1 ∧ (Instr.entryStore 68 (.map (some b)) (.int .i64 c) v).run Tryz.prog w1 = .ok () w2 ∧ MapIs w2 b (M ++ [(k, v)]) ∧ Chg [b] w w1 ∧ Chg [b] w w2 := by
 obtain ⟨es, clock, h1, h2, h3, h4⟩ := h
 rcases lawK.find w (keyN hk) es.toList (MapIs.keys (w := w) (b := b) h3 h4) with ⟨q1, q2⟩ | ⟨j, e0, q1, q2, q3⟩
 ·have hs := heap_set (o' := .map (es.push ⟨.int .i64 k, .agg #[.int .i64 0, .int .i64 0, .int .i64 0, .slice none 0 0, .slice none 0 0, .slice none 0 0], clock⟩) (clock + 1)) h1
  have hidx : (es.push ⟨.int .i64 k, .agg #[.int .i64 0, .int .i64 0, .int .i64 0, .slice none 0 0, .slice none 0 0, .slice none 0 0], clock⟩).findIdx? (fun e => ((e.born : Nat) : Int) == ((clock : Nat) : Int)) = some es.size := by
   rw [Go.WideElems.findIdx_arr]
   have := Go.WideElems.findIdx_born (l := (es.push ⟨.int .i64 k, .agg #[.int .i64 0, .int .i64 0, .int .i64 0, .slice none 0 0, .slice none 0 0, .slice none 0 0], clock⟩).toList) (j := es.size) (e0 := ⟨.int .i64 k, .agg #[.int .i64 0, .int .i64 0, .int .i64 0, .slice none 0 0, .slice none 0 0, .slice none 0 0], clock⟩) (by
    simp only [Array.toList_push, List.map_append, List.map_cons, List.map_nil]
    refine List.nodup_append.2 ⟨h2.2.1, by simp, fun a ha c hc e1 => ?_⟩
    simp only [List.mem_singleton] at hc
    obtain ⟨x, hx, rfl⟩ := List.mem_map.1 ha
    have := h2.1 x hx
    omega) (by simp)
   exact this
  have hmod : (es.push ⟨.int .i64 k, .agg #[.int .i64 0, .int .i64 0, .int .i64 0, .slice none 0 0, .slice none 0 0, .slice none 0 0], clock⟩).modify es.size (fun e => { e with val := v }) = es.push ⟨.int .i64 k, v, clock⟩ := by
   apply Array.ext'
   rw [Array.toList_modify, Array.toList_push, Array.toList_push, ← Array.length_toList, Go.WideElems.modify_last]
  refine ⟨.agg #[.int .i64 0, .int .i64 0, .int .i64 0, .slice none 0 0, .slice none 0 0, .slice none 0 0], (clock : Nat), putObj w b (.map (es.push ⟨.int .i64 k, .agg #[.int .i64 0, .int .i64 0, .int .i64 0, .slice none 0 0, .slice none 0 0, .slice none 0 0], clock⟩) (clock + 1)), putObj (putObj w b (.map (es.push ⟨.int .i64 k, .agg #[.int .i64 0, .int .i64 0, .int .i64 0, .slice none 0 0, .slice none 0 0, .slice none 0 0], clock⟩) (clock + 1))) b (.map (es.push ⟨.int .i64 k, v, clock⟩) (clock + 1)), ?_, ?_, ⟨es.push ⟨.int .i64 k, v, clock⟩, clock + 1, (heap_set hs.1).1, MapKept.stamped_push h2 q2, ?_, ?_⟩, Chg.putObj w b _ _ (List.mem_singleton.2 rfl), (Chg.putObj w b _ _ (List.mem_singleton.2 rfl)).trans (Chg.putObj _ b _ _ (List.mem_singleton.2 rfl))⟩
  ·simp [Instr.mapEntry, run_underlying Tryz.underlying68, MapKept.run_getObj_map h1, lawK.check w false (keyN hk), q1, zeroRow, MapKept.run_setObj_map _ h1, Result.andThen, putObj, goInt]
  ·have hs2 : (putObj w b (.map (es.push ⟨.int .i64 k, .agg #[.int .i64 0, .int .i64 0, .int .i64 0, .slice none 0 0, .slice none 0 0, .slice none 0 0], clock⟩) (clock + 1))).heap[b]? = _ := hs.1
   generalize putObj w b (.map (es.push ⟨.int .i64 k, .agg #[.int .i64 0, .int .i64 0, .int .i64 0, .slice none 0 0, .slice none 0 0, .slice none 0 0], clock⟩) (clock + 1)) = wq at hs2 ⊢
   simp [Instr.entryStore, MapKept.run_getObj_map hs2, asInt, asIntOf, hidx, hmod, MapKept.run_setObj_map _ hs2, Result.andThen, putObj]
  ·rw [Array.toList_push, List.map_append, List.map_append, h3]
   rfl
  ·intro p hp
   rcases List.mem_append.1 hp with q | q
   ·exact h4 p q
   ·simp at q; rw [q]; exact hk
 ·exfalso
  obtain ⟨p, p1, p2, p3⟩ := ent_at h3 q2
  refine hne p (List.mem_of_getElem? p1) ?_
  rw [q3] at p2
  injection p2 with _ e
  exact e.symm
theorem stepMapEnt {ops : Array Oper} {o : Oper} {a : Act} {w : World} {K : Act → World → Prop} {Q : Exit → Act → World → Prop} {E : Prop} (hg : o.guard = none) (x y : Operand) (hop : o.op = Op.mapEntry 68 x y) (b : Nat) (k : Int) (v : Value)
    (hx : a.eval x = .map (some b)) (hy : a.eval y = .int .i64 k) (w' : World) (hr : (Instr.mapEntry 68 (.map (some b)) (.int .i64 k)).run Tryz.prog w = .ok v w') (hK : K (a.put o.dst v) w') :
    if Region.wanted o (yielded ops a.tmps) = true then Oper.wp Tryz.prog o a w K Q else E := by
 have hw : Region.wanted o (yielded ops a.tmps) = true := by simp [Region.wanted, hg]
 rw [if_pos hw]
 unfold Oper.wp execOp
 simp only [hop, hx, hy, Sem.run_bind, Sem.run_pure, Result.andThen_ok, hr]
 exact hK
theorem stepEntSt {ops : Array Oper} {o : Oper} {a : Act} {w : World} {K : Act → World → Prop} {Q : Exit → Act → World → Prop} {E : Prop} (hg : o.guard = none) (x y z : Operand) (hop : o.op = Op.entryStore 68 x y z) (b : Nat) (k : Int) (v : Value)
    (hx : a.eval x = .map (some b)) (hy : a.eval y = .int .i64 k) (hz : a.eval z = v) (w' : World) (hr : (Instr.entryStore 68 (.map (some b)) (.int .i64 k) v).run Tryz.prog w = .ok () w') (hK : K (a.put o.dst undef) w') :
    if Region.wanted o (yielded ops a.tmps) = true then Oper.wp Tryz.prog o a w K Q else E := by
 have hw : Region.wanted o (yielded ops a.tmps) = true := by simp [Region.wanted, hg]
 rw [if_pos hw]
 unfold Oper.wp execOp
 simp only [hop, hx, hy, hz, Sem.run_bind, Sem.run_pure, Result.andThen_ok, hr]
 exact hK
set_option maxHeartbeats 400000 in
theorem stepStN {ops : Array Oper} {o : Oper} {a : Act} {w : World} {K : Act → World → Prop} {Q : Exit → Act → World → Prop} {E : Prop} (hg : o.guard = none) (x y : Operand) (hop : o.op = Op.store 2 x y) (b j : Nat) (v : Int) (u : Value)
    (hx : a.eval x = .pointer (some ⟨b, j, none⟩)) (hy : a.eval y = .int .i64 v) (hc : w.cell? ⟨b, j, none⟩ = some u) (hf : w.frozen? ⟨b, j, none⟩ = false)
    (hK : K (a.put o.dst undef) (w.setCell ⟨b, j, none⟩ (.int .i64 v))) :
    if Region.wanted o (yielded ops a.tmps) = true then Oper.wp Tryz.prog o a w K Q else E := by
 have hw : Region.wanted o (yielded ops a.tmps) = true := by simp [Region.wanted, hg]
 rw [if_pos hw]
 obtain ⟨d, p', t, ps, af, gd⟩ := o
 subst hop
 unfold Oper.wp execOp
 simp only [hx, hy]
 go_simp
 exact hK
def mkC (s : Sb) (p1 p2 p3 : Option Addr) (q1 q2 q3 : Nat) : Sb := ⟨s.s1, s.s2, s.s3, p1, p2, p3, (Fl.sortL s.x1 s.n1).length, ((Fl.dfold (Fl.cdl s.f2 s.n2)).map Fl.spo).length, (Fl.sortL s.x3 s.n3).length, q1, q2, q3, atN (Fl.sortL s.x1 s.n1), atN (Fl.sortL s.x3 s.n3), atS ((Fl.dfold (Fl.cdl s.f2 s.n2)).map Fl.spo)⟩
def canK (s : Sb) : Int := canC (misB s.s1 s.s2 s.s3) (crowdB (Fl.sortL s.x1 s.n1).length ((Fl.dfold (Fl.cdl s.f2 s.n2)).map Fl.spo).length (Fl.sortL s.x3 s.n3).length) (Fl.anyG (fun i => Fl.nan (atN (Fl.sortL s.x1 s.n1) i)) (Fl.sortL s.x1 s.n1).length || Fl.anyG (fun i => Fl.nan (atN (Fl.sortL s.x3 s.n3) i)) (Fl.sortL s.x3 s.n3).length) (Fl.anyG (fun i => Fl.nan (s.f2 i).a || Fl.nan (s.f2 i).b) s.n2)
def Sb.Ws (s : Sb) : Prop := (∀ i, i < s.n1 → Fl.W (s.x1 i)) ∧ (∀ i, i < s.n2 → Fl.W (s.f2 i).a ∧ Fl.W (s.f2 i).b) ∧ ∀ i, i < s.n3 → Fl.W (s.x3 i)
theorem mk_chk (s : Sb) (h : s.Ws) (hc : canK s = 0) (p1 p2 p3 : Option Addr) (q1 q2 q3 : Nat) : (mkC s p1 p2 p3 q1 q2 q3).chk = 0 := by
 have q := canC_parts hc
 exact canon_right s.s1 s.s2 s.s3 s.n1 s.n2 s.n3 s.x1 s.x3 s.f2 h.1 h.2.1 h.2.2 q.1 q.2.1 q.2.2.1
theorem FRow.ws' {w : World} {v : Value} {n : Nat} {x : Nat → Nat} (h : FRow w v n x) : ∀ i, i < n → Fl.W (x i) := fun i hi => by obtain ⟨_, _, _, _, hc⟩ := h; obtain ⟨_, _, _, q, _⟩ := hc i hi; exact q
theorem SRow.ws' {w : World} {v : Value} {n : Nat} {x : Nat → Sp} (h : SRow w v n x) : ∀ i, i < n → Fl.W (x i).a ∧ Fl.W (x i).b := fun i hi => by obtain ⟨_, _, _, _, hc⟩ := h; obtain ⟨_, _, _, q1, q2, _⟩ := hc i hi; exact ⟨q1, q2⟩
theorem Sb.Ok.ws' {s : Sb} {w : World} (h : s.Ok w) : s.Ws := ⟨h.h1.ws', h.h2.ws', h.h3.ws'⟩
theorem sortW (x : Nat → Nat) (n : Nat) (hx : ∀ i, i < n → Fl.W (x i)) : ∀ y ∈ Fl.sortL x n, Fl.W y := sortL_W x n hx
theorem FOwn.lt' {base : Nat} {w : World} {v : Value} {L : List Nat} (h : FOwn base w v L) (hl : 0 < L.length) {g : Nat} (e : v.ownBlock = some g) : base ≤ g ∧ g < w.heap.size := by
 obtain ⟨p, c, rfl, hc⟩ := h
 obtain ⟨g', rfl, hb, k⟩ := hc hl
 cases e
 exact ⟨hb, World.block_lt_of_cell? w _ (k 0 hl).1⟩
theorem canonO_ok (s : Sb) (w : World) (hs : s.Ok w) (hc : canK s = 0) : Calls Tryz.prog 22 #[.agg #[.int .i64 s.s1, .int .i64 s.s2, .int .i64 s.s3, .slice s.a1 s.n1 s.c1, .slice s.a2 s.n2 s.c2, .slice s.a3 s.n3 s.c3]] w fun e w' => ∃ (p1 p2 p3 : Option Addr) (q1 q2 q3 : Nat), e = .returned (.tuple #[.agg #[.int .i64 s.s1, .int .i64 s.s2, .int .i64 s.s3, .slice p1 (mkC s p1 p2 p3 q1 q2 q3).n1 q1, .slice p2 (mkC s p1 p2 p3 q1 q2 q3).n2 q2, .slice p3 (mkC s p1 p2 p3 q1 q2 q3).n3 q3], .int .i64 0]) ∧ SOk w.heap.size (mkC s p1 p2 p3 q1 q2 q3) w' ∧ Old w w' := by
 have hl1 := Fl.sortL_len s.x1 s.n1
 have hl3 := Fl.sortL_len s.x3 s.n3
 have hk := Fl.dfold_ok _ (Fl.cdl s.f2 s.n2) rfl (Fl.cdl_RV s.f2 s.n2 hs.h2.ws')
 have hl2 : ((Fl.dfold (Fl.cdl s.f2 s.n2)).map Fl.spo).length ≤ s.n2 := by rw [List.length_map]; have := hk.2.2; have := Fl.cdl_len s.f2 s.n2; omega
 have b1 := hs.b1
 have b2 := hs.b2
 have b3 := hs.b3
 refine (subCanon_any s.s1 s.s2 s.s3 s.a1 s.a2 s.a3 s.n1 s.n2 s.n3 s.c1 s.c2 s.c3 s.x1 s.x3 s.f2 b1 b2 b3 w hs.h1 hs.h2 hs.h3).mono ?_
 intro e w' h
 unfold CanPost at h
 obtain ⟨p1, p2, p3, q1, q2, q3, he, ⟨o1, o2, o3⟩, u⟩ := h
 unfold canK at hc
 rw [if_pos hc] at he
 refine ⟨p1, p2, p3, q1, q2, q3, he, ⟨⟨o1.row (sortL_W _ _ hs.h1.ws') (by omega), o2.row (fun t ht => by obtain ⟨r, hr, rfl⟩ := List.mem_map.1 ht; exact Fl.spo_W (hk.1.2 r hr)) (by omega), o3.row (sortL_W _ _ hs.h3.ws') (by omega), ?_, ?_, ?_⟩, fun g hg => ?_⟩, u⟩
 ·show (Fl.sortL s.x1 s.n1).length ≤ _; omega
 ·show ((Fl.dfold (Fl.cdl s.f2 s.n2)).map Fl.spo).length ≤ _; omega
 ·show (Fl.sortL s.x3 s.n3).length ≤ _; omega
 ·rcases mem_sbl.1 hg with ⟨z, q⟩ | ⟨z, q⟩ | ⟨z, q⟩
  ·have := o1.lt' z q; omega
  ·have := World.ownsRow.lt o2 g q; omega
  ·have := o3.lt' z q; omega
theorem canonO_no (s : Sb) (w : World) (hs : s.Ok w) (hc : canK s ≠ 0) : Calls Tryz.prog 22 #[.agg #[.int .i64 s.s1, .int .i64 s.s2, .int .i64 s.s3, .slice s.a1 s.n1 s.c1, .slice s.a2 s.n2 s.c2, .slice s.a3 s.n3 s.c3]] w fun e w' => e = .returned (.tuple #[.agg #[.int .i64 0, .int .i64 0, .int .i64 0, .slice none 0 0, .slice none 0 0, .slice none 0 0], .int .i64 (canK s)]) ∧ Old w w' := by
 refine (subCanon_any s.s1 s.s2 s.s3 s.a1 s.a2 s.a3 s.n1 s.n2 s.n3 s.c1 s.c2 s.c3 s.x1 s.x3 s.f2 hs.b1 hs.b2 hs.b3 w hs.h1 hs.h2 hs.h3).mono ?_
 intro e w' h
 unfold CanPost at h
 obtain ⟨p1, p2, p3, q1, q2, q3, he, _, u⟩ := h
 unfold canK at hc ⊢
 rw [if_neg hc] at he
 exact ⟨he, u⟩
end Go.Proofs.YthjfkmjeppdcnaaGreat
namespace Go.Proofs.YthjfkmjeppdcnaaGreat
abbrev oKl90 : Oper := { dst := some 42, op := .move (.tmp 0), type := 23, pos := "client.go:59", after := #[], guard := none }
abbrev oKl91 : Oper := { dst := some 43, op := .nilCheck (.tmp 42), type := 0, pos := "client.go:59", after := #[⟨0, .data⟩], guard := none }
abbrev oKl92 : Oper := { dst := some 44, op := .fieldAddr 70 (.tmp 43) 4, type := 0, pos := "client.go:59", after := #[⟨1, .data⟩], guard := none }
abbrev oKl93 : Oper := { dst := some 45, op := .load 68 (.tmp 44), type := 68, pos := "client.go:59", after := #[⟨2, .data⟩], guard := none }
abbrev oKl94 : Oper := { dst := some 46, op := .move (.tmp 6), type := 2, pos := "client.go:59", after := #[], guard := none }
abbrev oKl95 : Oper := { dst := some 47, op := .move (.tmp 0), type := 23, pos := "client.go:59", after := #[⟨10, .gcOnly Departure.lateStores⟩], guard := none }
abbrev oKl96 : Oper := { dst := some 48, op := .load 33 (.tmp 3), type := 33, pos := "client.go:59", after := #[⟨8, .gcOnly Departure.tupleMapEntryFirst⟩], guard := none }
abbrev oKl97 : Oper := { dst := some 49, op := .move (.tmp 6), type := 2, pos := "client.go:59", after := #[⟨10, .gcOnly Departure.lateStores⟩], guard := none }
abbrev oKl98 : Oper := { dst := some 50, op := .mapEntry 68 (.tmp 45) (.tmp 46), type := 0, pos := "client.go:59", after := #[⟨3, .data⟩, ⟨4, .data⟩, ⟨0, .textOnly Departure.tupleMapEntryFirst⟩, ⟨1, .textOnly Departure.tupleMapEntryFirst⟩, ⟨2, .textOnly Departure.tupleMapEntryFirst⟩, ⟨3, .textOnly Departure.tupleMapEntryFirst⟩, ⟨4, .textOnly Departure.tupleMapEntryFirst⟩, ⟨5, .textOnly Departure.lateStores⟩, ⟨6, .textOnly Departure.tupleMapEntryFirst⟩, ⟨7, .textOnly Departure.lateStores⟩], guard := none }
abbrev oKl99 : Oper := { dst := some 51, op := .extract (.tmp 50) 1, type := 3, pos := "client.go:59", after := #[⟨8, .data⟩], guard := none }
abbrev oKl910 : Oper := { dst := none, op := .entryStore 68 (.tmp 45) (.tmp 51) (.tmp 48), type := 0, pos := "client.go:59", after := #[⟨3, .data⟩, ⟨9, .data⟩, ⟨6, .data⟩, ⟨8, .chain⟩, ⟨0, .phase⟩, ⟨1, .phase⟩, ⟨2, .phase⟩, ⟨3, .phase⟩, ⟨4, .phase⟩, ⟨5, .textOnly Departure.lateStores⟩, ⟨6, .phase⟩, ⟨7, .textOnly Departure.lateStores⟩, ⟨8, .phase⟩], guard := none }
abbrev oKl911 : Oper := { dst := some 52, op := .nilCheck (.tmp 47), type := 0, pos := "client.go:59", after := #[⟨5, .data⟩, ⟨0, .phase⟩, ⟨1, .phase⟩, ⟨2, .phase⟩, ⟨3, .phase⟩, ⟨4, .phase⟩, ⟨5, .phase⟩, ⟨6, .phase⟩, ⟨7, .phase⟩, ⟨8, .phase⟩, ⟨9, .phase⟩, ⟨10, .phase⟩], guard := none }
abbrev oKl912 : Oper := { dst := some 53, op := .fieldAddr 70 (.tmp 52) 3, type := 0, pos := "client.go:59", after := #[⟨11, .data⟩, ⟨0, .phase⟩, ⟨1, .phase⟩, ⟨2, .phase⟩, ⟨3, .phase⟩, ⟨4, .phase⟩, ⟨5, .phase⟩, ⟨6, .phase⟩, ⟨7, .phase⟩, ⟨8, .phase⟩, ⟨9, .phase⟩, ⟨10, .phase⟩], guard := none }
abbrev oKl913 : Oper := { dst := none, op := .store 2 (.tmp 53) (.tmp 49), type := 0, pos := "client.go:59", after := #[⟨12, .data⟩, ⟨7, .data⟩, ⟨10, .chain⟩, ⟨0, .phase⟩, ⟨1, .phase⟩, ⟨2, .phase⟩, ⟨3, .phase⟩, ⟨4, .phase⟩, ⟨5, .phase⟩, ⟨6, .phase⟩, ⟨7, .phase⟩, ⟨8, .phase⟩, ⟨9, .phase⟩, ⟨10, .phase⟩], guard := none }
open Go.RowKit Go.Lib
set_option linter.unusedVariables false
set_option linter.unusedSimpArgs false
set_option maxRecDepth 20000
attribute [local go_sem] run_bits run_frombits run_store_float eqF
def aSb (s : Cs) (x : Sb) : Sb := { x with s1 := s.ss, s2 := s.la + 1 }
def addK (s : Cs) (x : Sb) : Int := if 0 < s.op.length ∧ 8 ≤ s.la + 1 - lsO s.op then 3 else canK (aSb s x)
def addC (s : Cs) (c : Sb) : Cs := { s with la := s.la + 1, op := s.op ++ [(s.la + 1, c)] }
def AdPost (base cb mb : Nat) (mv rv : Value) (s : Cs) (x : Sb) (w : World) (e : Ending) (w' : World) : Prop :=
 (addK s x = 0 ∧ ∃ p1 p2 p3 q1 q2 q3, e = .returned (.tuple #[.int .i64 (s.la + 1), .int .i64 0]) ∧ ClAt base cb mb mv rv (addC s (mkC (aSb s x) p1 p2 p3 q1 q2 q3)) w' ∧ CMv cb mb rv w rv w' ∧ ∀ g ∈ (mkC (aSb s x) p1 p2 p3 q1 q2 q3).bl, w.heap.size ≤ g) ∨
 (addK s x ≠ 0 ∧ e = .returned (.tuple #[.int .i64 0, .int .i64 (addK s x)]) ∧ ClAt base cb mb mv rv s w' ∧ CMv cb mb rv w rv w')
theorem ClAt.box {base cb mb : Nat} {mv rv : Value} {s : Cs} {w w1 w2 : World} {sb : Nat} (h : ClAt base cb mb mv rv s w) (hs : w.heap.size ≤ sb) (u : Old w w1) (c : Chg [sb] w1 w2) : ClAt base cb mb mv rv s w2 ∧ Old w w2 := by
 refine ⟨(h.old u).chg c ?_ ?_ ?_ ?_ ?_, u.below (c.below w.heap.size (fun k q => by simp at q; omega) u.size)⟩
 ·simp; intro e; have := heap_lt h.blk; omega
 ·simp; intro e; have := h.map.lt; omega
 ·intro g e; simp; intro z; have := (World.ownsRow.lt (show w.ownsRow base 3 1 mv s.ms.length (Ci.ils s.ms) from h.mem) g e).2; omega
 ·intro g e; simp; intro z; have := (World.ownsRow.lt h.res g e).2; omega
 ·intro p q g z; simp; intro y; have := ((h.sub p q).lt g z).2; omega
theorem ClAt.more {base cb mb : Nat} {mv rv : Value} {s : Cs} {w w' : World} {k : Int} {c : Sb} {B : Nat} (h : ClAt base cb mb mv rv s w) (hc : SOk B c w) (hB : base ≤ B) (hf : ∀ g, (g = cb ∨ g = mb ∨ rv.ownBlock = some g) → g < B) (hm : MapIs w' mb (opM s.op ++ [(k, c.val)])) (ch : Chg [mb] w w') :
    ClAt base cb mb mv rv { s with op := s.op ++ [(k, c)] } w' := by
 have hn : ∀ g ∈ c.bl, g ≠ cb ∧ g ≠ mb ∧ rv.ownBlock ≠ some g := fun g q => by
  have := (hc.lt g q).1
  refine ⟨fun e => ?_, fun e => ?_, fun e => ?_⟩
  ·have := hf g (.inl e); omega
  ·have := hf g (.inr (.inl e)); omega
  ·have := hf g (.inr (.inr e)); omega
 have hc' : SOk base c w := ⟨hc.ok, fun g q => ⟨Nat.le_trans hB (hc.lt g q).1, (hc.lt g q).2⟩⟩
 have e : opM (s.op ++ [(k, c)]) = opM s.op ++ [(k, c.val)] := by simp [opM]
 refine ⟨ch.heapAt h.blk (by simp; exact h.ne.1), by rw [e]; exact hm, h.mem.chg ch (fun g z => by simp; intro y; subst y; exact h.ne.2.2.1 z), own_chg h.res ch (fun g z => by simp; intro y; subst y; exact h.ne.2.2.2.2.1 z), fun p q => ?_, fun p q => ?_, h.lo, h.ne⟩
 ·rcases List.mem_append.1 q with z | z
  ·exact (h.sub p z).chg ch (fun g y => by simp; exact (h.far p z g y).2.1)
  ·simp only [List.mem_singleton] at z; subst z
   exact hc'.chg ch (fun g y => by simp; exact (hn g y).2.1)
 ·rcases List.mem_append.1 q with z | z
  ·exact h.far p z
  ·simp only [List.mem_singleton] at z; subst z; exact hn
theorem ClAt.setL {base cb mb : Nat} {mv rv : Value} {s : Cs} {w : World} (h : ClAt base cb mb mv rv s w) (t : Int) : ClAt base cb mb mv rv { s with la := t } (w.setCell ⟨cb, 3, none⟩ (.int .i64 t)) ∧ Chg [cb] w (w.setCell ⟨cb, 3, none⟩ (.int .i64 t)) := by
 have ch : Chg [cb] w (w.setCell ⟨cb, 3, none⟩ (.int .i64 t)) := Chg.set w ⟨cb, 3, none⟩ _ (by simp)
 exact ⟨⟨Go.Joins.block_setCell h.blk (.int .i64 t) (i := 3), h.map.chg ch (by simp; exact fun e => h.ne.1 e.symm), h.mem.chg ch (fun g e => by simp; intro q; subst q; exact h.ne.2.1 e), own_chg h.res ch (fun g e => by simp; intro q; subst q; exact h.ne.2.2.2.1 e), fun p q => (h.sub p q).chg ch (fun g z => by simp; exact (h.far p q g z).1), h.far, h.lo, h.ne⟩, ch⟩
abbrev SB6 (b : Nat) (v0 v1 v2 v3 v4 v5 : Value) (w : World) : Prop := w.cell? ⟨b, 0, none⟩ = some v0 ∧ w.cell? ⟨b, 1, none⟩ = some v1 ∧ w.cell? ⟨b, 2, none⟩ = some v2 ∧ w.cell? ⟨b, 3, none⟩ = some v3 ∧ w.cell? ⟨b, 4, none⟩ = some v4 ∧ w.cell? ⟨b, 5, none⟩ = some v5
set_option maxHeartbeats 8000000 in
theorem add_any (base cb mb : Nat) (mv rv : Value) (s : Cs) (x : Sb) (w : World) (h : ClAt base cb mb mv rv s w) (hok : CsOk s) (hx : x.Ok w) :
    Calls Tryz.prog 8 #[.pointer (some ⟨cb, 0, none⟩), .agg #[.int .i64 x.s1, .int .i64 x.s2, .int .i64 x.s3, .slice x.a1 x.n1 x.c1, .slice x.a2 x.n2 x.c2, .slice x.a3 x.n3 x.c3]] w fun e w' => AdPost base cb mb mv rv s x w e w' := by
 have HLe := hid (fun (W : World) (u : Old w W) => least_any base cb mb mv rv s W (h.old u) hok)
 have HA := hid h
 have HX := hid hx
 have hla := hok.la
 have hls : 0 ≤ lsO s.op ∧ lsO s.op ≤ 1099511627776 := by
  cases e : s.op with
  | nil => simp [lsO]
  | cons p t => have := hok.rg p (by rw [e]; exact List.mem_cons_self ..); show 0 ≤ p.1 ∧ p.1 ≤ _; omega
 have HNe := hid (show ∀ p ∈ opM s.op, p.1 ≠ s.la + 1 from fun p hp => by
  obtain ⟨y, hy, rfl⟩ := List.mem_map.1 (show p ∈ s.op.map fun p => (p.1, p.2.val) from hp)
  have := hok.rg y hy
  show y.1 ≠ _
  omega)
 have HAK := hid (show addK s x = if 0 < s.op.length ∧ 8 ≤ s.la + 1 - lsO s.op then 3 else canK (aSb s x) from rfl)
 have HPo := hid (fun e w' => show AdPost base cb mb mv rv s x w e w' ↔ _ from Iff.rfl)
 obtain ⟨la1, hl1⟩ : ∃ la1, s.la + 1 = la1 := ⟨_, rfl⟩
 obtain ⟨ls, hl2⟩ : ∃ ls, lsO s.op = ls := ⟨_, rfl⟩
 have HL1 := hid hl1
 have w0 : IntKind.i64.wrap (s.la + 1) = la1 := by rw [← hl1]; exact IntWalk.i64_in _ (by omega)
 have w2 : IntKind.i64.wrap (la1 - ls) = la1 - ls := IntWalk.i64_in _ (by omega)
 have HK64 := hid (show N64 la1 from by unfold N64; omega)
 rw [hl1] at HNe HAK
 rw [hl2] at HAK HLe
 obtain ⟨bo, hbo⟩ : ∃ bo, decide (0 < s.op.length) = bo := ⟨_, rfl⟩
 rw [hbo] at HLe
 have HBo := hid hbo
 have HY := hid (show aSb s x = ⟨s.ss, la1, x.s3, x.a1, x.a2, x.a3, x.n1, x.n2, x.n3, x.c1, x.c2, x.c3, x.x1, x.x3, x.f2⟩ from by unfold aSb; rw [hl1])
 clear h hok hx hla hls hl1 hl2 hbo HPo
 go_enter Tryz.func8, Tryz.ntmps8
 go_upto_region 1 with fail
 have U1 := hid ((Old.refl w).alloc (.cells #[.int .i64 x.s1, .int .i64 x.s2, .int .i64 x.s3, .slice x.a1 x.n1 x.c1, .slice x.a2 x.n2 x.c2, .slice x.a3 x.n3 x.c3] 33))
 have B1 := hid (alloc_at w (.cells #[.int .i64 x.s1, .int .i64 x.s2, .int .i64 x.s3, .slice x.a1 x.n1 x.c1, .slice x.a2 x.n2 x.c2, .slice x.a3 x.n3 x.c3] 33))
 generalize w.alloc (.cells #[.int .i64 x.s1, .int .i64 x.s2, .int .i64 x.s3, .slice x.a1 x.n1 x.c1, .slice x.a2 x.n2 x.c2, .slice x.a3 x.n3 x.c3] 33) = w1 at *
 obtain ⟨sb, hsb⟩ : ∃ sb, w.heap.size = sb := ⟨_, rfl⟩
 have HSb := hid (show w.heap.size ≤ sb from by omega)
 rw [hsb] at B1 ⊢
 clear hsb
 obtain ⟨⟨x0, x1, x2, x3, x4, x5⟩, -⟩ := box6 (U1.out.block HA.out.blk)
 go_upto_region 3 with (go_at_call 21; refine (HLe.out _ U1.out).mono ?_; rintro e w2 ⟨rfl, u⟩; have U2 := hid (U1.out.trans u); have B2 := hid (u.block B1.out); clear u)
 clear x0 x1 x2 x3 x4 x5 U1 B1 HLe
 by_cases hbig : 0 < s.op.length ∧ 8 ≤ la1 - ls
 ·obtain rfl : bo = true := by rw [← HBo.out]; exact decide_eq_true hbig.1
  have d1 : decide (la1 - ls ≥ 8) = true := by simp; omega
  have d2 : decide (8 ≤ la1 - ls) = true := by simp; omega
  have HE := hid (show addK s x = 3 from by rw [HAK.out, if_pos hbig])
  clear HAK HBo hbig
  go_wp2
  go_ret2
  exact .inr ⟨by rw [HE.out]; decide, by rw [HE.out]; rfl, HA.out.old U2.out, CMv.ofOld U2.out⟩
 ·have HE := hid (show addK s x = canK (aSb s x) from by rw [HAK.out, if_neg hbig])
  have HD := hid (show bo = true → decide (la1 - ls ≥ 8) = false from fun e => by
   rw [← HBo.out] at e
   have := of_decide_eq_true e
   simp
   omega)
  clear HAK hbig
  obtain ⟨⟨z0, z1, z2, z3, z4, z5⟩, fz⟩ := box6 B2.out
  obtain ⟨⟨x0, x1, x2, x3, x4, x5⟩, -⟩ := box6 (U2.out.block HA.out.blk)
  have f0 := fz 0
  have f1 := fz 1
  obtain ⟨kk, hkk⟩ : ∃ kk, canK (aSb s x) = kk := ⟨_, rfl⟩
  rw [hkk] at HE
  have HC := hid (fun (W : World) (u : Old w W) (hz : kk = 0) => show Calls Tryz.prog 22 #[.agg #[.int .i64 s.ss, .int .i64 la1, .int .i64 x.s3, .slice x.a1 x.n1 x.c1, .slice x.a2 x.n2 x.c2, .slice x.a3 x.n3 x.c3]] W fun e w' => ∃ p1 p2 p3 q1 q2 q3 m1 m2 m3, e = .returned (.tuple #[.agg #[.int .i64 s.ss, .int .i64 la1, .int .i64 x.s3, .slice p1 m1 q1, .slice p2 m2 q2, .slice p3 m3 q3], .int .i64 0]) ∧ ((mkC (aSb s x) p1 p2 p3 q1 q2 q3).val = .agg #[.int .i64 s.ss, .int .i64 la1, .int .i64 x.s3, .slice p1 m1 q1, .slice p2 m2 q2, .slice p3 m3 q3] ∧ SOk W.heap.size (mkC (aSb s x) p1 p2 p3 q1 q2 q3) w') ∧ Old W w' from by
   have k := HX.out.old u
   have q := canonO_ok (aSb s x) W ⟨k.h1, k.h2, k.h3, k.b1, k.b2, k.b3⟩ (hkk.trans hz)
   have e1 : (aSb s x).s1 = s.ss := rfl
   have e2 : (aSb s x).s2 = la1 := HL1.out
   rw [e1, e2] at q
   refine q.mono ?_
   rintro e w' ⟨p1, p2, p3, q1, q2, q3, rfl, o, u⟩
   exact ⟨p1, p2, p3, q1, q2, q3, _, _, _, rfl, ⟨by show Value.agg #[.int .i64 (aSb s x).s1, .int .i64 (aSb s x).s2, _, _, _, _] = _; rw [e1, e2]; rfl, o⟩, u⟩)
  have HCn := hid (fun (W : World) (u : Old w W) (hz : kk ≠ 0) => show Calls Tryz.prog 22 #[.agg #[.int .i64 s.ss, .int .i64 la1, .int .i64 x.s3, .slice x.a1 x.n1 x.c1, .slice x.a2 x.n2 x.c2, .slice x.a3 x.n3 x.c3]] W fun e w' => e = .returned (.tuple #[.agg #[.int .i64 0, .int .i64 0, .int .i64 0, .slice none 0 0, .slice none 0 0, .slice none 0 0], .int .i64 kk]) ∧ Old W w' from by
   have k := HX.out.old u
   have q := canonO_no (aSb s x) W ⟨k.h1, k.h2, k.h3, k.b1, k.b2, k.b3⟩ (by rw [hkk]; exact hz)
   have e1 : (aSb s x).s1 = s.ss := rfl
   have e2 : (aSb s x).s2 = la1 := HL1.out
   rw [e1, e2, hkk] at q
   exact q)
  clear hkk HY HX
  have C3 := hid (show Chg [sb] w2 ((w2.setCell ⟨sb, 0, none⟩ (.int .i64 s.ss)).setCell ⟨sb, 1, none⟩ (.int .i64 la1)) from (Chg.set w2 ⟨sb, 0, none⟩ _ (by simp)).trans (Chg.set _ ⟨sb, 1, none⟩ _ (by simp)))
  have B3 := hid (show ((w2.setCell ⟨sb, 0, none⟩ (.int .i64 s.ss)).setCell ⟨sb, 1, none⟩ (.int .i64 la1)).heap[sb]? = some (.cells #[.int .i64 s.ss, .int .i64 la1, .int .i64 x.s3, .slice x.a1 x.n1 x.c1, .slice x.a2 x.n2 x.c2, .slice x.a3 x.n3 x.c3] 33 (0, 0)) from Go.Joins.block_setCell (Go.Joins.block_setCell B2.out (.int .i64 s.ss) (i := 0)) (.int .i64 la1) (i := 1))
  have HA3 := hid (HA.out.box HSb.out U2.out C3.out)
  cases bo
  ·clear HD HBo fz
   go_upto_region 6 with fail
   clear z0 z1 z2 z3 z4 z5 x0 x1 x2 x3 x4 x5 f0 f1 B2 U2 C3
   generalize (w2.setCell ⟨sb, 0, none⟩ (.int .i64 s.ss)).setCell ⟨sb, 1, none⟩ (.int .i64 la1) = w3 at *
   obtain ⟨⟨z0, z1, z2, z3, z4, z5⟩, fz⟩ := box6 B3.out
   have f0 := fz 0
   have f1 := fz 1
   have f2 := fz 2
   have f3 := fz 3
   have f4 := fz 4
   have f5 := fz 5
   clear fz
   by_cases hz : kk = 0
   ·have HCC := hid (HC.out w3 HA3.out.2 hz)
    have HE0 := hid (show addK s x = 0 from by rw [HE.out, hz])
    clear HC HCn HE hz
    go_upto_region 7 with (go_at_call 22; refine HCC.out.mono ?_; rintro e w4 ⟨p1, p2, p3, q1, q2, q3, m1, m2, m3, rfl, o4, u4⟩; have O4 := hid o4; have U4 := hid u4; have z0 := u4.keep z0; have z1 := u4.keep z1; have z2 := u4.keep z2; have z3 := u4.keep z3; have z4 := u4.keep z4; have z5 := u4.keep z5; have B4 := hid (u4.block B3.out); obtain ⟨-, fz⟩ := box6 B4.out; have f0 := fz 0; have f1 := fz 1; have f2 := fz 2; have f3 := fz 3; have f4 := fz 4; have f5 := fz 5; clear fz o4 u4)
    clear z0 z1 z2 z3 z4 z5 f0 f1 f2 f3 f4 f5 HCC
    have C5 := hid (show Chg [sb] w4 ((((((w4.setCell ⟨sb, 0, none⟩ (.int .i64 s.ss)).setCell ⟨sb, 1, none⟩ (.int .i64 la1)).setCell ⟨sb, 2, none⟩ (.int .i64 x.s3)).setCell ⟨sb, 3, none⟩ (.slice p1 m1 q1)).setCell ⟨sb, 4, none⟩ (.slice p2 m2 q2)).setCell ⟨sb, 5, none⟩ (.slice p3 m3 q3)) from ((((((Chg.set w4 ⟨sb, 0, none⟩ _ (by simp)).trans (Chg.set _ ⟨sb, 1, none⟩ _ (by simp))).trans (Chg.set _ ⟨sb, 2, none⟩ _ (by simp))).trans (Chg.set _ ⟨sb, 3, none⟩ _ (by simp))).trans (Chg.set _ ⟨sb, 4, none⟩ _ (by simp))).trans (Chg.set _ ⟨sb, 5, none⟩ _ (by simp))))
    have B5 := hid (show ((((((w4.setCell ⟨sb, 0, none⟩ (.int .i64 s.ss)).setCell ⟨sb, 1, none⟩ (.int .i64 la1)).setCell ⟨sb, 2, none⟩ (.int .i64 x.s3)).setCell ⟨sb, 3, none⟩ (.slice p1 m1 q1)).setCell ⟨sb, 4, none⟩ (.slice p2 m2 q2)).setCell ⟨sb, 5, none⟩ (.slice p3 m3 q3)).heap[sb]? = some (.cells #[.int .i64 s.ss, .int .i64 la1, .int .i64 x.s3, .slice p1 m1 q1, .slice p2 m2 q2, .slice p3 m3 q3] 33 (0, 0)) from (Go.Joins.block_setCell (Go.Joins.block_setCell (Go.Joins.block_setCell (Go.Joins.block_setCell (Go.Joins.block_setCell (Go.Joins.block_setCell B4.out (.int .i64 s.ss) (i := 0)) (.int .i64 la1) (i := 1)) (.int .i64 x.s3) (i := 2)) (.slice p1 m1 q1) (i := 3)) (.slice p2 m2 q2) (i := 4)) (.slice p3 m3 q3) (i := 5)))
    have HA5 := hid (HA.out.box HSb.out (HA3.out.2.trans U4.out) C5.out)
    have O5 := hid (SOk.chg O4.out.2 C5.out (fun g z => by simp; intro y; have := (O4.out.2.lt g z).1; have := heap_lt B3.out; omega))
    have HF3 := hid HA3.out.2.size
    have HF := hid (show base ≤ w3.heap.size ∧ ∀ g, (g = cb ∨ g = mb ∨ rv.ownBlock = some g) → g < w3.heap.size from ⟨Nat.le_trans HA3.out.1.lo.1 (Nat.le_of_lt (heap_lt HA3.out.1.blk)), fun g z => (HA3.out.1.lt g (mem_blk3.2 z)).2⟩)
    have HVl := hid O4.out.1
    have HNm := hid (show sb ≠ mb ∧ sb ≠ cb from ⟨fun e => by have := HA.out.map.lt; have := HSb.out; omega, fun e => by have := heap_lt HA.out.blk; have := HSb.out; omega⟩)
    generalize w3.heap.size = B0 at *
    clear O4 C5 B3 B4 U4 HA3
    generalize ((((((w4.setCell ⟨sb, 0, none⟩ (.int .i64 s.ss)).setCell ⟨sb, 1, none⟩ (.int .i64 la1)).setCell ⟨sb, 2, none⟩ (.int .i64 x.s3)).setCell ⟨sb, 3, none⟩ (.slice p1 m1 q1)).setCell ⟨sb, 4, none⟩ (.slice p2 m2 q2)).setCell ⟨sb, 5, none⟩ (.slice p3 m3 q3)) = w5 at *
    obtain ⟨ez, ec, w6, w7, r1, r2, hm7, c6, c7⟩ := ((HA5.out.1.old ((Old.refl w5).drew)).map.ent HK64.out HNe.out (.agg #[.int .i64 s.ss, .int .i64 la1, .int .i64 x.s3, .slice p1 m1 q1, .slice p2 m2 q2, .slice p3 m3 q3]))
    have HR1 := hid r1
    have HR2 := hid r2
    have C6 := hid c6
    have C7 := hid c7
    have HA7 := hid ((HA5.out.1.old ((Old.refl w5).drew)).more (k := la1) (O5.out.old ((Old.refl w5).drew)) HF.out.1 HF.out.2 (by rw [HVl.out]; exact hm7) c7)
    have HA8 := hid (HA7.out.setL la1)
    have S5 := hid (show SB6 sb (.int .i64 s.ss) (.int .i64 la1) (.int .i64 x.s3) (.slice p1 m1 q1) (.slice p2 m2 q2) (.slice p3 m3 q3) w5.drew ∧ w5.drew.cell? ⟨cb, 4, none⟩ = some (.map (some mb)) from ⟨(box6 (((Old.refl w5).drew).block B5.out)).1, (box6 (((Old.refl w5).drew).block HA5.out.1.blk)).1.2.2.2.2.1⟩)
    have S6 := hid (show SB6 sb (.int .i64 s.ss) (.int .i64 la1) (.int .i64 x.s3) (.slice p1 m1 q1) (.slice p2 m2 q2) (.slice p3 m3 q3) w6 ∧ w6.cell? ⟨cb, 4, none⟩ = some (.map (some mb)) from ⟨(box6 (C6.out.heapAt (((Old.refl w5).drew).block B5.out) (by simp; exact HNm.out.1))).1, C6.out.cell S5.out.2 (by simp; exact HA7.out.ne.1)⟩)
    have B7 := hid (C7.out.heapAt (((Old.refl w5).drew).block B5.out) (by simp; exact HNm.out.1))
    have S7 := hid (show SB6 sb (.int .i64 s.ss) (.int .i64 la1) (.int .i64 x.s3) (.slice p1 m1 q1) (.slice p2 m2 q2) (.slice p3 m3 q3) w7 ∧ w7.cell? ⟨cb, 4, none⟩ = some (.map (some mb)) from ⟨(box6 B7.out).1, (box6 HA7.out.blk).1.2.2.2.2.1⟩)
    have S8 := hid (show SB6 sb (.int .i64 s.ss) (.int .i64 la1) (.int .i64 x.s3) (.slice p1 m1 q1) (.slice p2 m2 q2) (.slice p3 m3 q3) (w7.setCell ⟨cb, 3, none⟩ (.int .i64 la1)) ∧ (w7.setCell ⟨cb, 3, none⟩ (.int .i64 la1)).cell? ⟨cb, 4, none⟩ = some (.map (some mb)) from ⟨(box6 (HA8.out.2.heapAt B7.out (by simp; exact HNm.out.2))).1, (box6 HA8.out.1.blk).1.2.2.2.2.1⟩)
    have HL3 := hid (box6 HA7.out.blk)
    have HFin := hid (show AdPost base cb mb mv rv s x w (.returned (.tuple #[.int .i64 la1, .int .i64 0])) (w7.setCell ⟨cb, 3, none⟩ (.int .i64 la1)) from .inl ⟨HE0.out, p1, p2, p3, q1, q2, q3, by rw [HL1.out], by unfold addC; rw [HL1.out]; exact HA8.out.1, (CMv.ofOld HA5.out.2.drew).trans ⟨(C7.out.mono fun k q _ => mem_blk3.2 (.inr (.inl (by simpa using q)))).trans (HA8.out.2.mono fun k q _ => mem_blk3.2 (.inl (by simpa using q))), fun g e => .inl e⟩, fun g z => Nat.le_trans HF3.out (O5.out.lt g z).1⟩)
    clear HF3 r1 r2 hm7 c6 c7 HA5 O5 HF HVl HNm B5 B7 HA7 HA8 HE0 C6 C7
    go_upto_region 9 with fail
    focus
     refine wp_region_noPanic ?_
     refine wp_region_held_drew (S := fun wz => SB6 sb (.int .i64 s.ss) (.int .i64 la1) (.int .i64 x.s3) (.slice p1 m1 q1) (.slice p2 m2 q2) (.slice p3 m3 q3) wz ∧ wz.cell? ⟨cb, 4, none⟩ = some (.map (some mb))) (by kernel_rfl) ?_ (fun hHeld => ?_)
     ·exact S5.out
     try simp only [Act.put, puA, puB, puC]
     clear hHeld
     all_goals
      refine atA [false, false, false, false, false, false, false, false, false, false, false, false, false, false] ?_
      refine tkA (i := 0) (oi := oKl90) S5.out ?_
      try simp only [Act.put, puA, puB, puC]
      refine tkA (i := 1) (oi := oKl91) S5.out ?_
      try simp only [Act.put, puA, puB, puC]
      refine tkA (i := 2) (oi := oKl92) S5.out ?_
      try simp only [Act.put, puA, puB, puC]
      refine tkA (i := 3) (oi := oKl93) S5.out ?_
      try simp only [Act.put, puA, puB, puC]
      refine tkA (i := 4) (oi := oKl94) S5.out ?_
      try simp only [Act.put, puA, puB, puC]
      refine tkA (i := 5) (oi := oKl95) S5.out ?_
      try simp only [Act.put, puA, puB, puC]
      refine tkA (i := 6) (oi := oKl96) S5.out ?_
      try simp only [Act.put, puA, puB, puC]
      refine tkA (i := 7) (oi := oKl97) S5.out ?_
      try simp only [Act.put, puA, puB, puC]
      refine rdA [8] ?_
      refine AllReadyH.cons (o := oKl98) rfl (fun K hK => ?_) AllReadyH.nil
      refine stepMapEnt ?_ (.tmp 45) (.tmp 46) ?_ mb la1 _ ?_ ?_ w6 HR1.out ?_
      iterate 4 rfl
      refine hK.out _ _ S6.out (fun _ => ?_)
      clear hK K
      try simp only [Act.put, puA, puB, puC]
     all_goals
      refine atA [true, true, true, true, true, true, true, true, true, false, false, false, false, false] ?_
      refine tkA (i := 9) (oi := oKl99) S6.out ?_
      try simp only [Act.put, puA, puB, puC]
      refine rdA [10] ?_
      refine AllReadyH.cons (o := oKl910) rfl (fun K hK => ?_) AllReadyH.nil
      refine stepEntSt ?_ (.tmp 45) (.tmp 51) (.tmp 48) ?_ mb ec _ ?_ ?_ ?_ w7 HR2.out ?_
      iterate 5 rfl
      refine hK.out _ _ S7.out (fun _ => ?_)
      clear hK K
      try simp only [Act.put, puA, puB, puC]
     all_goals
      refine atA [true, true, true, true, true, true, true, true, true, true, true, false, false, false] ?_
      refine tkA (i := 11) (oi := oKl911) S7.out ?_
      try simp only [Act.put, puA, puB, puC]
      refine tkA (i := 12) (oi := oKl912) S7.out ?_
      try simp only [Act.put, puA, puB, puC]
      refine rdA [13] ?_
      refine AllReadyH.cons (o := oKl913) rfl (fun K hK => ?_) AllReadyH.nil
      refine stepStN ?_ (.tmp 53) (.tmp 49) ?_ cb 3 la1 _ ?_ ?_ HL3.out.1.2.2.2.1 (HL3.out.2 3) ?_
      iterate 4 rfl
      refine hK.out _ _ S8.out (fun _ => ?_)
      clear hK K
      try simp only [Act.put, puA, puB, puC]
     all_goals
      refine atA [true, true, true, true, true, true, true, true, true, true, true, true, true, true] ?_
      refine wpAnyH_done (by kernel_rfl) ?_ _
      refine NoPanic.normal ?_
    go_wp2
    go_ret2
    exact HFin.out
   ·have HCC := hid (HCn.out w3 HA3.out.2 hz)
    have d5 : (kk != 0) = true := by simp [hz]
    have HEn := hid hz
    clear HC HCn hz
    go_upto_region 7 with (go_at_call 22; refine HCC.out.mono ?_; rintro e w4 ⟨rfl, u4⟩; have U4 := hid u4; have z0 := u4.keep z0; have z1 := u4.keep z1; have z2 := u4.keep z2; have z3 := u4.keep z3; have z4 := u4.keep z4; have z5 := u4.keep z5; have B4 := hid (u4.block B3.out); obtain ⟨-, fz⟩ := box6 B4.out; have f0 := fz 0; have f1 := fz 1; have f2 := fz 2; have f3 := fz 3; have f4 := fz 4; have f5 := fz 5; clear fz u4)
    clear z0 z1 z2 z3 z4 z5 f0 f1 f2 f3 f4 f5 HCC
    have C5 := hid (show Chg [sb] w4 ((((((w4.setCell ⟨sb, 0, none⟩ (.int .i64 0)).setCell ⟨sb, 1, none⟩ (.int .i64 0)).setCell ⟨sb, 2, none⟩ (.int .i64 0)).setCell ⟨sb, 3, none⟩ (.slice none 0 0)).setCell ⟨sb, 4, none⟩ (.slice none 0 0)).setCell ⟨sb, 5, none⟩ (.slice none 0 0)) from ((((((Chg.set w4 ⟨sb, 0, none⟩ _ (by simp)).trans (Chg.set _ ⟨sb, 1, none⟩ _ (by simp))).trans (Chg.set _ ⟨sb, 2, none⟩ _ (by simp))).trans (Chg.set _ ⟨sb, 3, none⟩ _ (by simp))).trans (Chg.set _ ⟨sb, 4, none⟩ _ (by simp))).trans (Chg.set _ ⟨sb, 5, none⟩ _ (by simp))))
    have HA5 := hid (HA.out.box HSb.out (HA3.out.2.trans U4.out) C5.out)
    clear C5 B3 B4 U4 HA3
    generalize ((((((w4.setCell ⟨sb, 0, none⟩ (.int .i64 0)).setCell ⟨sb, 1, none⟩ (.int .i64 0)).setCell ⟨sb, 2, none⟩ (.int .i64 0)).setCell ⟨sb, 3, none⟩ (.slice none 0 0)).setCell ⟨sb, 4, none⟩ (.slice none 0 0)).setCell ⟨sb, 5, none⟩ (.slice none 0 0)) = w5 at *
    go_wp2
    go_ret2
    exact .inr ⟨by rw [HE.out]; exact HEn.out, by rw [HE.out]; rfl, HA5.out.1, CMv.ofOld HA5.out.2⟩
  ·have d1 := HD.out rfl
   have d2 : decide (8 ≤ la1 - ls) = false := by simpa using d1
   clear HD HBo fz
   go_upto_region 6 with fail
   clear z0 z1 z2 z3 z4 z5 x0 x1 x2 x3 x4 x5 f0 f1 B2 U2 C3 d1 d2
   generalize (w2.setCell ⟨sb, 0, none⟩ (.int .i64 s.ss)).setCell ⟨sb, 1, none⟩ (.int .i64 la1) = w3 at *
   obtain ⟨⟨z0, z1, z2, z3, z4, z5⟩, fz⟩ := box6 B3.out
   have f0 := fz 0
   have f1 := fz 1
   have f2 := fz 2
   have f3 := fz 3
   have f4 := fz 4
   have f5 := fz 5
   clear fz
   by_cases hz : kk = 0
   ·have HCC := hid (HC.out w3 HA3.out.2 hz)
    have HE0 := hid (show addK s x = 0 from by rw [HE.out, hz])
    clear HC HCn HE hz
    go_upto_region 7 with (go_at_call 22; refine HCC.out.mono ?_; rintro e w4 ⟨p1, p2, p3, q1, q2, q3, m1, m2, m3, rfl, o4, u4⟩; have O4 := hid o4; have U4 := hid u4; have z0 := u4.keep z0; have z1 := u4.keep z1; have z2 := u4.keep z2; have z3 := u4.keep z3; have z4 := u4.keep z4; have z5 := u4.keep z5; have B4 := hid (u4.block B3.out); obtain ⟨-, fz⟩ := box6 B4.out; have f0 := fz 0; have f1 := fz 1; have f2 := fz 2; have f3 := fz 3; have f4 := fz 4; have f5 := fz 5; clear fz o4 u4)
    clear z0 z1 z2 z3 z4 z5 f0 f1 f2 f3 f4 f5 HCC
    have C5 := hid (show Chg [sb] w4 ((((((w4.setCell ⟨sb, 0, none⟩ (.int .i64 s.ss)).setCell ⟨sb, 1, none⟩ (.int .i64 la1)).setCell ⟨sb, 2, none⟩ (.int .i64 x.s3)).setCell ⟨sb, 3, none⟩ (.slice p1 m1 q1)).setCell ⟨sb, 4, none⟩ (.slice p2 m2 q2)).setCell ⟨sb, 5, none⟩ (.slice p3 m3 q3)) from ((((((Chg.set w4 ⟨sb, 0, none⟩ _ (by simp)).trans (Chg.set _ ⟨sb, 1, none⟩ _ (by simp))).trans (Chg.set _ ⟨sb, 2, none⟩ _ (by simp))).trans (Chg.set _ ⟨sb, 3, none⟩ _ (by simp))).trans (Chg.set _ ⟨sb, 4, none⟩ _ (by simp))).trans (Chg.set _ ⟨sb, 5, none⟩ _ (by simp))))
    have B5 := hid (show ((((((w4.setCell ⟨sb, 0, none⟩ (.int .i64 s.ss)).setCell ⟨sb, 1, none⟩ (.int .i64 la1)).setCell ⟨sb, 2, none⟩ (.int .i64 x.s3)).setCell ⟨sb, 3, none⟩ (.slice p1 m1 q1)).setCell ⟨sb, 4, none⟩ (.slice p2 m2 q2)).setCell ⟨sb, 5, none⟩ (.slice p3 m3 q3)).heap[sb]? = some (.cells #[.int .i64 s.ss, .int .i64 la1, .int .i64 x.s3, .slice p1 m1 q1, .slice p2 m2 q2, .slice p3 m3 q3] 33 (0, 0)) from (Go.Joins.block_setCell (Go.Joins.block_setCell (Go.Joins.block_setCell (Go.Joins.block_setCell (Go.Joins.block_setCell (Go.Joins.block_setCell B4.out (.int .i64 s.ss) (i := 0)) (.int .i64 la1) (i := 1)) (.int .i64 x.s3) (i := 2)) (.slice p1 m1 q1) (i := 3)) (.slice p2 m2 q2) (i := 4)) (.slice p3 m3 q3) (i := 5)))
    have HA5 := hid (HA.out.box HSb.out (HA3.out.2.trans U4.out) C5.out)
    have O5 := hid (SOk.chg O4.out.2 C5.out (fun g z => by simp; intro y; have := (O4.out.2.lt g z).1; have := heap_lt B3.out; omega))
    have HF3 := hid HA3.out.2.size
    have HF := hid (show base ≤ w3.heap.size ∧ ∀ g, (g = cb ∨ g = mb ∨ rv.ownBlock = some g) → g < w3.heap.size from ⟨Nat.le_trans HA3.out.1.lo.1 (Nat.le_of_lt (heap_lt HA3.out.1.blk)), fun g z => (HA3.out.1.lt g (mem_blk3.2 z)).2⟩)
    have HVl := hid O4.out.1
    have HNm := hid (show sb ≠ mb ∧ sb ≠ cb from ⟨fun e => by have := HA.out.map.lt; have := HSb.out; omega, fun e => by have := heap_lt HA.out.blk; have := HSb.out; omega⟩)
    generalize w3.heap.size = B0 at *
    clear O4 C5 B3 B4 U4 HA3
    generalize ((((((w4.setCell ⟨sb, 0, none⟩ (.int .i64 s.ss)).setCell ⟨sb, 1, none⟩ (.int .i64 la1)).setCell ⟨sb, 2, none⟩ (.int .i64 x.s3)).setCell ⟨sb, 3, none⟩ (.slice p1 m1 q1)).setCell ⟨sb, 4, none⟩ (.slice p2 m2 q2)).setCell ⟨sb, 5, none⟩ (.slice p3 m3 q3)) = w5 at *
    obtain ⟨ez, ec, w6, w7, r1, r2, hm7, c6, c7⟩ := ((HA5.out.1.old ((Old.refl w5).drew)).map.ent HK64.out HNe.out (.agg #[.int .i64 s.ss, .int .i64 la1, .int .i64 x.s3, .slice p1 m1 q1, .slice p2 m2 q2, .slice p3 m3 q3]))
    have HR1 := hid r1
    have HR2 := hid r2
    have C6 := hid c6
    have C7 := hid c7
    have HA7 := hid ((HA5.out.1.old ((Old.refl w5).drew)).more (k := la1) (O5.out.old ((Old.refl w5).drew)) HF.out.1 HF.out.2 (by rw [HVl.out]; exact hm7) c7)
    have HA8 := hid (HA7.out.setL la1)
    have S5 := hid (show SB6 sb (.int .i64 s.ss) (.int .i64 la1) (.int .i64 x.s3) (.slice p1 m1 q1) (.slice p2 m2 q2) (.slice p3 m3 q3) w5.drew ∧ w5.drew.cell? ⟨cb, 4, none⟩ = some (.map (some mb)) from ⟨(box6 (((Old.refl w5).drew).block B5.out)).1, (box6 (((Old.refl w5).drew).block HA5.out.1.blk)).1.2.2.2.2.1⟩)
    have S6 := hid (show SB6 sb (.int .i64 s.ss) (.int .i64 la1) (.int .i64 x.s3) (.slice p1 m1 q1) (.slice p2 m2 q2) (.slice p3 m3 q3) w6 ∧ w6.cell? ⟨cb, 4, none⟩ = some (.map (some mb)) from ⟨(box6 (C6.out.heapAt (((Old.refl w5).drew).block B5.out) (by simp; exact HNm.out.1))).1, C6.out.cell S5.out.2 (by simp; exact HA7.out.ne.1)⟩)
    have B7 := hid (C7.out.heapAt (((Old.refl w5).drew).block B5.out) (by simp; exact HNm.out.1))
    have S7 := hid (show SB6 sb (.int .i64 s.ss) (.int .i64 la1) (.int .i64 x.s3) (.slice p1 m1 q1) (.slice p2 m2 q2) (.slice p3 m3 q3) w7 ∧ w7.cell? ⟨cb, 4, none⟩ = some (.map (some mb)) from ⟨(box6 B7.out).1, (box6 HA7.out.blk).1.2.2.2.2.1⟩)
    have S8 := hid (show SB6 sb (.int .i64 s.ss) (.int .i64 la1) (.int .i64 x.s3) (.slice p1 m1 q1) (.slice p2 m2 q2) (.slice p3 m3 q3) (w7.setCell ⟨cb, 3, none⟩ (.int .i64 la1)) ∧ (w7.setCell ⟨cb, 3, none⟩ (.int .i64 la1)).cell? ⟨cb, 4, none⟩ = some (.map (some mb)) from ⟨(box6 (HA8.out.2.heapAt B7.out (by simp; exact HNm.out.2))).1, (box6 HA8.out.1.blk).1.2.2.2.2.1⟩)
    have HL3 := hid (box6 HA7.out.blk)
    have HFin := hid (show AdPost base cb mb mv rv s x w (.returned (.tuple #[.int .i64 la1, .int .i64 0])) (w7.setCell ⟨cb, 3, none⟩ (.int .i64 la1)) from .inl ⟨HE0.out, p1, p2, p3, q1, q2, q3, by rw [HL1.out], by unfold addC; rw [HL1.out]; exact HA8.out.1, (CMv.ofOld HA5.out.2.drew).trans ⟨(C7.out.mono fun k q _ => mem_blk3.2 (.inr (.inl (by simpa using q)))).trans (HA8.out.2.mono fun k q _ => mem_blk3.2 (.inl (by simpa using q))), fun g e => .inl e⟩, fun g z => Nat.le_trans HF3.out (O5.out.lt g z).1⟩)
    clear HF3 r1 r2 hm7 c6 c7 HA5 O5 HF HVl HNm B5 B7 HA7 HA8 HE0 C6 C7
    go_upto_region 9 with fail
    focus
     refine wp_region_noPanic ?_
     refine wp_region_held_drew (S := fun wz => SB6 sb (.int .i64 s.ss) (.int .i64 la1) (.int .i64 x.s3) (.slice p1 m1 q1) (.slice p2 m2 q2) (.slice p3 m3 q3) wz ∧ wz.cell? ⟨cb, 4, none⟩ = some (.map (some mb))) (by kernel_rfl) ?_ (fun hHeld => ?_)
     ·exact S5.out
     try simp only [Act.put, puA, puB, puC]
     clear hHeld
     all_goals
      refine atA [false, false, false, false, false, false, false, false, false, false, false, false, false, false] ?_
      refine tkA (i := 0) (oi := oKl90) S5.out ?_
      try simp only [Act.put, puA, puB, puC]
      refine tkA (i := 1) (oi := oKl91) S5.out ?_
      try simp only [Act.put, puA, puB, puC]
      refine tkA (i := 2) (oi := oKl92) S5.out ?_
      try simp only [Act.put, puA, puB, puC]
      refine tkA (i := 3) (oi := oKl93) S5.out ?_
      try simp only [Act.put, puA, puB, puC]
      refine tkA (i := 4) (oi := oKl94) S5.out ?_
      try simp only [Act.put, puA, puB, puC]
      refine tkA (i := 5) (oi := oKl95) S5.out ?_
      try simp only [Act.put, puA, puB, puC]
      refine tkA (i := 6) (oi := oKl96) S5.out ?_
      try simp only [Act.put, puA, puB, puC]
      refine tkA (i := 7) (oi := oKl97) S5.out ?_
      try simp only [Act.put, puA, puB, puC]
      refine rdA [8] ?_
      refine AllReadyH.cons (o := oKl98) rfl (fun K hK => ?_) AllReadyH.nil
      refine stepMapEnt ?_ (.tmp 45) (.tmp 46) ?_ mb la1 _ ?_ ?_ w6 HR1.out ?_
      iterate 4 rfl
      refine hK.out _ _ S6.out (fun _ => ?_)
      clear hK K
      try simp only [Act.put, puA, puB, puC]
     all_goals
      refine atA [true, true, true, true, true, true, true, true, true, false, false, false, false, false] ?_
      refine tkA (i := 9) (oi := oKl99) S6.out ?_
      try simp only [Act.put, puA, puB, puC]
      refine rdA [10] ?_
      refine AllReadyH.cons (o := oKl910) rfl (fun K hK => ?_) AllReadyH.nil
      refine stepEntSt ?_ (.tmp 45) (.tmp 51) (.tmp 48) ?_ mb ec _ ?_ ?_ ?_ w7 HR2.out ?_
      iterate 5 rfl
      refine hK.out _ _ S7.out (fun _ => ?_)
      clear hK K
      try simp only [Act.put, puA, puB, puC]
     all_goals
      refine atA [true, true, true, true, true, true, true, true, true, true, true, false, false, false] ?_
      refine tkA (i := 11) (oi := oKl911) S7.out ?_
      try simp only [Act.put, puA, puB, puC]
      refine tkA (i := 12) (oi := oKl912) S7.out ?_
      try simp only [Act.put, puA, puB, puC]
      refine rdA [13] ?_
      refine AllReadyH.cons (o := oKl913) rfl (fun K hK => ?_) AllReadyH.nil
      refine stepStN ?_ (.tmp 53) (.tmp 49) ?_ cb 3 la1 _ ?_ ?_ HL3.out.1.2.2.2.1 (HL3.out.2 3) ?_
      iterate 4 rfl
      refine hK.out _ _ S8.out (fun _ => ?_)
      clear hK K
      try simp only [Act.put, puA, puB, puC]
     all_goals
      refine atA [true, true, true, true, true, true, true, true, true, true, true, true, true, true] ?_
      refine wpAnyH_done (by kernel_rfl) ?_ _
      refine NoPanic.normal ?_
    go_wp2
    go_ret2
    exact HFin.out
   ·have HCC := hid (HCn.out w3 HA3.out.2 hz)
    have d5 : (kk != 0) = true := by simp [hz]
    have HEn := hid hz
    clear HC HCn hz
    go_upto_region 7 with (go_at_call 22; refine HCC.out.mono ?_; rintro e w4 ⟨rfl, u4⟩; have U4 := hid u4; have z0 := u4.keep z0; have z1 := u4.keep z1; have z2 := u4.keep z2; have z3 := u4.keep z3; have z4 := u4.keep z4; have z5 := u4.keep z5; have B4 := hid (u4.block B3.out); obtain ⟨-, fz⟩ := box6 B4.out; have f0 := fz 0; have f1 := fz 1; have f2 := fz 2; have f3 := fz 3; have f4 := fz 4; have f5 := fz 5; clear fz u4)
    clear z0 z1 z2 z3 z4 z5 f0 f1 f2 f3 f4 f5 HCC
    have C5 := hid (show Chg [sb] w4 ((((((w4.setCell ⟨sb, 0, none⟩ (.int .i64 0)).setCell ⟨sb, 1, none⟩ (.int .i64 0)).setCell ⟨sb, 2, none⟩ (.int .i64 0)).setCell ⟨sb, 3, none⟩ (.slice none 0 0)).setCell ⟨sb, 4, none⟩ (.slice none 0 0)).setCell ⟨sb, 5, none⟩ (.slice none 0 0)) from ((((((Chg.set w4 ⟨sb, 0, none⟩ _ (by simp)).trans (Chg.set _ ⟨sb, 1, none⟩ _ (by simp))).trans (Chg.set _ ⟨sb, 2, none⟩ _ (by simp))).trans (Chg.set _ ⟨sb, 3, none⟩ _ (by simp))).trans (Chg.set _ ⟨sb, 4, none⟩ _ (by simp))).trans (Chg.set _ ⟨sb, 5, none⟩ _ (by simp))))
    have HA5 := hid (HA.out.box HSb.out (HA3.out.2.trans U4.out) C5.out)
    clear C5 B3 B4 U4 HA3
    generalize ((((((w4.setCell ⟨sb, 0, none⟩ (.int .i64 0)).setCell ⟨sb, 1, none⟩ (.int .i64 0)).setCell ⟨sb, 2, none⟩ (.int .i64 0)).setCell ⟨sb, 3, none⟩ (.slice none 0 0)).setCell ⟨sb, 4, none⟩ (.slice none 0 0)).setCell ⟨sb, 5, none⟩ (.slice none 0 0)) = w5 at *
    go_wp2
    go_ret2
    exact .inr ⟨by rw [HE.out]; exact HEn.out, by rw [HE.out]; rfl, HA5.out.1, CMv.ofOld HA5.out.2⟩
end Go.Proofs.YthjfkmjeppdcnaaGreat
