/- preds: find and At at every table; conditions: the lengths fit. -/
import Derived.Test.YtgeinnaljlajoaaGreatCxF
import Derived.Test.YtgeinnaljlajoaaGreatCxC
import Derived.Test.YtgeinnaljlajoaaGreatCxB
import Derived.Deep.MidRow
import Derived.Test.YtgeinnaljlajoaaGreatSqa
namespace Go.Proofs.YtgeinnaljlajoaaGreat.Py
open Go.RowKit Go.Lib
set_option linter.unusedVariables false
set_option linter.unusedSimpArgs false
set_option maxRecDepth 20000
def Okp (x : It) : Prop := Fl.IsForm x.a x.b false ∧ x.p = false ∧ x.q = false ∧ 1 ≤ x.n ∧ x.n ≤ 1099511627776
def Good (L : List It) : Prop := Asc L ∧ ∀ x ∈ L, Okp x
theorem Good.at {L : List It} (h : Good L) (i : Nat) (hi : i < L.length) : Okp (atI L i) := by
 rw [atI_get L i hi]; exact h.2 _ (List.getElem_mem hi)
def skc (a b : Nat) (p q : Bool) : Nat := if Fl.csE a b p q = true then 0 else 18446744073709551616 * Fl.code (Fl.csU a b p q) + Fl.code (Fl.csV a b p q)
def cmpP (a b : Nat) (p q : Bool) (x : It) : Int := Fl.fc (Fl.csU a b p q) (Fl.csV a b p q) (Fl.csE a b p q) x.a x.b false
theorem cmpP_kc (a b : Nat) (ha : Fl.W a) (hb : Fl.W b) (p q : Bool) (x : It) (hx : Okp x) : (0 < cmpP a b p q x ↔ kc x < skc a b p q) ∧ (cmpP a b p q x = 0 ↔ kc x = skc a b p q) := by
 have hf := hx.1
 have c1 := Fl.code_le x.a hf.1
 have c2 := Fl.code_le x.b hf.2.1
 have n1 := Fl.code_pos x.a hf.1 (hf.2.2.2 rfl).2.2.1
 have d1 := Fl.code_le (Fl.csU a b p q) (Fl.csU_W a b p q ha)
 have d2 := Fl.code_le (Fl.csV a b p q) (Fl.csV_W a b p q hb)
 unfold cmpP skc Fl.fc kc
 generalize Fl.code x.a = ca at *
 generalize Fl.code x.b = cb at *
 generalize Fl.code (Fl.csU a b p q) = cu at *
 generalize Fl.code (Fl.csV a b p q) = cv at *
 cases Fl.csE a b p q
 ·simp only [Bool.false_eq_true, if_false]
  by_cases h1 : cu < ca
  ·rw [if_pos h1]; omega
  ·rw [if_neg h1]
   by_cases h2 : ca < cu
   ·rw [if_pos h2]; omega
   ·rw [if_neg h2]
    by_cases h3 : cv < cb
    ·rw [if_pos h3]; omega
    ·rw [if_neg h3]
     by_cases h4 : cb < cv
     ·rw [if_pos h4]; omega
     ·rw [if_neg h4]; omega
 ·simp only [if_true, Bool.false_eq_true, if_false]
  omega
def there (c : Nat) (L : List It) : Bool := decide (pos c L < L.length) && decide (kc (atI L (pos c L)) = c)
theorem SpAt.old {m a b : Nat} {p q : Bool} {w w' : World} (u : Old w w') (h : SpAt m a b p q w) : SpAt m a b p q w' := ⟨u.keep h.1, u.keep h.2.1, u.keep h.2.2.1, u.keep h.2.2.2⟩
abbrev F1 (kb a b : Nat) (p q : Bool) (tb t g n cap i : Nat) (x : It) (w : World) : Prop := SpAt kb a b p q w ∧ w.cell? ⟨tb, 0, none⟩ = some (.pointer (some ⟨t, 0, none⟩)) ∧ w.cell? ⟨t, 1, none⟩ = some (.slice (some ⟨g, 0, none⟩) n cap) ∧ w.cell? ⟨g, i * 5, none⟩ = some (.float .f64 x.a) ∧ w.cell? ⟨g, i * 5 + 1, none⟩ = some (.float .f64 x.b) ∧ w.cell? ⟨g, i * 5 + 2, none⟩ = some (.bool x.p) ∧ w.cell? ⟨g, i * 5 + 3, none⟩ = some (.bool x.q)
theorem F1.old {kb a b : Nat} {p q : Bool} {tb t g n cap i : Nat} {x : It} {w w' : World} (u : Old w w') (h : F1 kb a b p q tb t g n cap i x w) : F1 kb a b p q tb t g n cap i x w' := ⟨SpAt.old u h.1, u.keep h.2.1, u.keep h.2.2.1, u.keep h.2.2.2.1, u.keep h.2.2.2.2.1, u.keep h.2.2.2.2.2.1, u.keep h.2.2.2.2.2.2⟩
theorem cmpS_old (a b : Nat) (ha : Fl.W a) (hb : Fl.W b) (p q : Bool) (x : It) (hx : Okp x) (w : World) : Calls Tryz.prog 135 #[.agg #[.float .f64 a, .float .f64 b, .bool p, .bool q], .agg #[.float .f64 x.a, .float .f64 x.b, .bool x.p, .bool x.q]] w fun e w' => e = .returned (.int .i64 (cmpP a b p q x)) ∧ Old w w' := by
 obtain ⟨hf, h1, h2, _⟩ := hx
 rw [h1, h2]
 exact (cmp_at (Fl.cs_isForm a b p q ha hb) hf a b x.a x.b p q false false (fun w => canonS_any a b ha hb p q w) (fun w => canon_form x.a x.b false hf w) w).mono fun e w' h => ⟨h.1, h.2.old⟩
attribute [local go_sem] run_bits run_frombits run_store_float
set_option maxHeartbeats 1000000 in
theorem find1_any (base b kb tb : Nat) (most : Int) (v : Value) (L : List It) (x y : Nat) (p q : Bool) (i : Nat) (hx : Fl.W x) (hy : Fl.W y) (w : World) (h : TabAt base w b most v L) (hL : L.length ≤ 1000000) (hi : i < L.length) (hG : Okp (atI L i)) (h1 : SpAt kb x y p q w) (h2 : w.cell? ⟨tb, 0, none⟩ = some (.pointer (some ⟨b, 0, none⟩))) :
    Calls Tryz.prog 134 #[.int .i64 (i : Nat), .pointer (some ⟨kb, 0, none⟩), .pointer (some ⟨tb, 0, none⟩)] w fun e w' => e = .returned (.int .i64 (cmpP x y p q (atI L i))) ∧ Old w w' := by
 obtain ⟨hb, h0, hv, hf, ho, hne⟩ := h
 obtain ⟨g, cap, rfl, hgb, hgl, hit, hfz⟩ := ho.shape (by omega)
 obtain ⟨c0, c1, c2, c3, c4⟩ := hit i hi
 have l1 : (0 : Int) ≤ (i : Int) := by omega
 have l2 : (i : Int) < ((L.length : Nat) : Int) := by omega
 have hbN : L.length ≤ 9223372036854775807 := by omega
 have HS := hid (show F1 kb x y p q tb b g L.length cap i (atI L i) w from ⟨h1, h2, hv, c0, c1, c2, c3⟩)
 have HC := hid (fun W => cmpS_old x y hx hy p q (atI L i) hG W)
 clear ho hit hfz h0 hf c0 c1 c2 c3 c4 h1 h2 hv hG
 go_enter Tryz.func134, Tryz.ntmps134
 go_upto_region 1 with fail
 go_region_held3 (F1 kb x y p q tb b g L.length cap i (atI L i)) (first | assumption | exact HS.out | exact F1.old ((Old.refl w).drew) HS.out | (refine F1.old ?_ HS.out; assumption)) (first | (go_at_call 135; refine (HC.out _).mono ?_; rintro e w1 ⟨rfl, u1⟩; have U1 : Old w w1 := ((Old.refl w).drew).trans u1))
 all_goals go_wp2
 all_goals go_ret
 all_goals exact ⟨rfl, U1⟩
set_option maxHeartbeats 1000000 in
theorem find_t (base b : Nat) (most : Int) (v : Value) (L : List It) (x y : Nat) (p q : Bool) (hx : Fl.W x) (hy : Fl.W y) (w : World) (h : TabAt base w b most v L) (hG : Good L) (hL : L.length ≤ 1000000) :
    Calls Tryz.prog 118 #[.pointer (some ⟨b, 0, none⟩), .agg #[.float .f64 x, .float .f64 y, .bool p, .bool q]] w fun e w' => e = .returned (.tuple #[.int .i64 (pos (skc x y p q) L : Nat), .bool (there (skc x y p q) L)]) ∧ Old w w' := by
 have hO : Old w ((w.alloc (.cells #[.pointer (some ⟨b, 0, none⟩)] 53)).alloc (.cells #[.float .f64 x, .float .f64 y, .bool p, .bool q] 74)) := ((Old.refl w).alloc _).alloc _
 have e1 : ((w.alloc (.cells #[.pointer (some ⟨b, 0, none⟩)] 53)).alloc (.cells #[.float .f64 x, .float .f64 y, .bool p, .bool q] 74)).cell? ⟨w.heap.size, 0, none⟩ = some (.pointer (some ⟨b, 0, none⟩)) := by simp
 have e2 : SpAt (w.heap.size + 1) x y p q ((w.alloc (.cells #[.pointer (some ⟨b, 0, none⟩)] 53)).alloc (.cells #[.float .f64 x, .float .f64 y, .bool p, .bool q] 74)) := by simp [SpAt]
 have HO := hid hO
 have E1 := hid e1
 have E2 := hid e2
 have HT := hid (h.old hO)
 clear hO e1 e2 h
 have hN : L.length ≤ 4611686018427387903 := by omega
 go_enter Tryz.func118, Tryz.ntmps118
 go_upto_region 1 with fail
 generalize ((w.alloc (.cells #[.pointer (some ⟨b, 0, none⟩)] 53)).alloc (.cells #[.float .f64 x, .float .f64 y, .bool p, .bool q] 74)) = w2 at *
 have HF := hid (find_v L.length (fun i => cmpP x y p q (atI L i)) (pos (skc x y p q) L) (there (skc x y p q) L) (.pointer (some ⟨w.heap.size + 1, 0, none⟩)) (.pointer (some ⟨w.heap.size, 0, none⟩)) w2 hN (pos_le _ _)
  (fun i hi => (cmpP_kc x y hx hy p q (atI L i) (hG.at i (by have := pos_le (skc x y p q) L; omega))).1.2 (pos_lt _ L i hi))
  (fun i h1 h2 => by
   have := pos_ge _ L hG.1 i h1 h2
   have q1 := (cmpP_kc x y hx hy p q (atI L i) (hG.at i h2)).1
   show cmpP x y p q (atI L i) ≤ 0
   by_cases e : 0 < cmpP x y p q (atI L i)
   ·have := q1.1 e; omega
   ·omega)
  (by
   unfold there
   by_cases hp : pos (skc x y p q) L < L.length
   ·have q1 := (cmpP_kc x y hx hy p q (atI L (pos (skc x y p q) L)) (hG.at _ hp)).2
    simp only [hp, decide_true, Bool.true_and]
    congr 1
    exact propext q1.symm
   ·simp [hp])
  (fun i hi W hW => find1_any base b (w.heap.size + 1) w.heap.size most v L x y p q i hx hy W (HT.out.old hW) hL hi (hG.at i hi) (SpAt.old hW E2.out) (hW.keep E1.out)))
 obtain ⟨hb, h0, hv, hf, ho, hne⟩ := HT.out
 obtain ⟨a, c, hva⟩ := ho.len
 subst hva
 have d1 := E1.out
 go_wp2_with (go_at_call 128; refine HF.out.mono ?_; rintro e w3 ⟨rfl, u3⟩; have U3 := hid u3; clear u3)
 exact bodyPost_ret (v := .tuple #[.int .i64 (pos (skc x y p q) L : Nat), .bool (there (skc x y p q) L)]) (by simp [results, Tryz.results118, go_sem]) rfl ⟨rfl, HO.out.trans U3.out⟩
def hasB (a b : Nat) (p q : Bool) (k : Nat) : Bool := Fl.hasF (Fl.csU a b p q) (Fl.csV a b p q) (Fl.csE a b p q) k
def overT (k : Nat) (L : List It) : Nat → Int
 | 0 => 0
 | j + 1 => if hasB (atI L j).a (atI L j).b (atI L j).p (atI L j).q k = true then max (overT k L j) (atI L j).n else overT k L j
theorem has_old (a b k : Nat) (ha : Fl.W a) (hb : Fl.W b) (hk : Fl.W k) (p q : Bool) (w : World) : Calls Tryz.prog 113 #[.agg #[.float .f64 a, .float .f64 b, .bool p, .bool q], .float .f64 k] w fun e w' => e = .returned (.bool (hasB a b p q k)) ∧ Old w w' := (has_any a b k ha hb hk p q w).mono fun e w' h => ⟨h.1, h.2.old⟩
set_option maxHeartbeats 2000000 in
theorem at_any (base b : Nat) (most : Int) (v : Value) (L : List It) (key : Nat) (hk : Fl.W key) (w : World) (h : TabAt base w b most v L) (hG : Good L) (hL : L.length ≤ 1000000) :
    Calls Tryz.prog 86 #[.pointer (some ⟨b, 0, none⟩), .float .f64 key] w fun e w' => e = .returned (.int .i64 (overT key L L.length)) ∧ Old w w' := by
 have HT := hid h
 have HG := hid hG
 clear h hG
 obtain ⟨hb, h0, hv, hf, ho, hne⟩ := HT.out
 obtain ⟨a, c, hva⟩ := ho.len
 subst hva
 have HSh := hid (fun (e : 0 < L.length) => ho.shape e)
 clear ho h0 hf
 have hbN : L.length ≤ 9223372036854775807 := by omega
 generalize hN : L.length = N at *
 go_enter Tryz.func86, Tryz.ntmps86
 go_wp2
 go_loopw [5, 13] (fun r i wr => ∃ k : Nat, k ≤ N ∧ i = .int .i64 (k : Nat) ∧ r = .int .i64 (overT key L k) ∧ Old w wr) (fun r i _ => N - (intOf i).toNat)
 case atStart => exact ⟨0, Nat.zero_le _, rfl, rfl, Old.refl _⟩
 case round =>
  obtain ⟨k, hk', rfl, rfl, hu⟩ := hrel
  have HU := hid hu
  clear hu
  by_cases hlt : k < N
  ·obtain ⟨g, cap, he, hgb, hgl, hi, hfz⟩ := HSh.out (by omega)
   simp only [Value.slice.injEq] at he
   obtain ⟨rfl, _, rfl⟩ := he
   obtain ⟨c0, c1, c2, c3, c4⟩ := (hi k hlt).old HU.out
   have l1 : (0 : Int) ≤ (k : Int) := by omega
   have l2 : (k : Int) < (N : Int) := by omega
   clear hi hfz
   have hgk := HG.out.at k (by omega)
   go_upto_region 5 with fail
   have B4 := hid (item_new wr (atI L k) _ rfl)
   have U4 := hid ((Old.refl wr).alloc (.cells (itc (atI L k)).toArray 156))
   have hwe : wr.alloc (.cells #[.float .f64 (atI L k).a, .float .f64 (atI L k).b, .bool (atI L k).p, .bool (atI L k).q, .int .i64 (atI L k).n] 156) = wr.alloc (.cells (itc (atI L k)).toArray 156) := rfl
   rw [hwe]
   clear hwe c0 c1 c2 c3 c4
   generalize wr.alloc (.cells (itc (atI L k)).toArray 156) = w4 at *
   obtain ⟨b0, b1, b2, b3, b4⟩ := B4.out
   have HST := hid (show overT key L (k + 1) = if hasB (atI L k).a (atI L k).b (atI L k).p (atI L k).q key = true then max (overT key L k) (atI L k).n else overT key L k from rfl)
   generalize hr : overT key L k = r at *
   have HC := hid (fun W => has_old (atI L k).a (atI L k).b key hgk.1.1 hgk.1.2.1 hk (atI L k).p (atI L k).q W)
   clear hgk
   cases hh : hasB (atI L k).a (atI L k).b (atI L k).p (atI L k).q key
   ·rw [hh] at HC HST
    have HST2 := hid (HST.out.trans (if_neg (by simp)))
    clear HST hh hr
    go_wp2_with (go_at_call 113; refine (HC.out _).mono ?_; rintro e w5 ⟨rfl, u5⟩; have U5 := hid u5; clear u5)
    go_roundw
    case rel => exact ⟨k + 1, hlt, by go_num, by rw [HST2.out], (HU.out.trans U4.out).trans U5.out⟩
    case measure => simp [intOf]; omega
   ·rw [hh] at HC HST
    have HST2 := hid (HST.out.trans (if_pos rfl))
    clear HST hh hr
    go_upto_region 6 with (go_at_call 113; refine (HC.out _).mono ?_; rintro e w5 ⟨rfl, u5⟩; have U5 := hid u5; clear u5)
    have b4' := U5.out.keep b4
    go_wp2
    go_roundw
    case rel => exact ⟨k + 1, hlt, by go_num, by rw [HST2.out]; congr 1; omega, (HU.out.trans U4.out).trans U5.out⟩
    case measure => simp [intOf]; omega
  ·obtain rfl : k = N := by omega
   go_wp2
   go_ret
   exact ⟨rfl, HU.out⟩
end Go.Proofs.YtgeinnaljlajoaaGreat.Py
namespace Go.Proofs.YtgeinnaljlajoaaGreat.Py
open Go.RowKit Go.Lib
set_option linter.unusedVariables false
set_option linter.unusedSimpArgs false
set_option maxRecDepth 20000
theorem stepCall1 {P : Program} {ops : Array Oper} {o : Oper} {a : Act} {w : World} {K : Act → World → Prop} {Q : Exit → Act → World → Prop} {E : Prop} (hg : o.guard = none) (F : FuncId) (x : Operand) (ts : Array TypeId)
    (hop : o.op = Op.call { callee := Callee.value (Operand.func F), args := #[x], argTypes := ts }) (u : Value) (hx : a.eval x = u) (hF : a.eval (Operand.func F) = .func (.func F) #[] #[])
    (henter : (callFunc F #[u]).run P w = .ok (.enter F #[u]) w)
    (hc : Calls P F #[u] w fun e w' => ∃ r, e = .returned r ∧ K (a.put o.dst r) w') :
    if Region.wanted o (yielded ops a.tmps) = true then Oper.wp P o a w K Q else E := by
 have hw : Region.wanted o (yielded ops a.tmps) = true := by simp [Region.wanted, hg]
 rw [if_pos hw]
 unfold Oper.wp
 simp [execOp, hop, resolve, invoke, hx, hF, Deferred.ofValue]
 rw [henter]
 refine hc.mono ?_
 rintro e w' ⟨r, rfl, hk⟩
 exact hk
theorem stepCall2 {P : Program} {ops : Array Oper} {o : Oper} {a : Act} {w : World} {K : Act → World → Prop} {Q : Exit → Act → World → Prop} {E : Prop} (hg : o.guard = none) (F : FuncId) (x y : Operand) (ts : Array TypeId)
    (hop : o.op = Op.call { callee := Callee.value (Operand.func F), args := #[x, y], argTypes := ts }) (u v : Value) (hx : a.eval x = u) (hy : a.eval y = v) (hF : a.eval (Operand.func F) = .func (.func F) #[] #[])
    (henter : (callFunc F #[u, v]).run P w = .ok (.enter F #[u, v]) w)
    (hc : Calls P F #[u, v] w fun e w' => ∃ r, e = .returned r ∧ K (a.put o.dst r) w') :
    if Region.wanted o (yielded ops a.tmps) = true then Oper.wp P o a w K Q else E := by
 have hw : Region.wanted o (yielded ops a.tmps) = true := by simp [Region.wanted, hg]
 rw [if_pos hw]
 unfold Oper.wp
 simp [execOp, hop, resolve, invoke, hx, hy, hF, Deferred.ofValue]
 rw [henter]
 refine hc.mono ?_
 rintro e w' ⟨r, rfl, hk⟩
 exact hk
theorem stepCall3 {P : Program} {ops : Array Oper} {o : Oper} {a : Act} {w : World} {K : Act → World → Prop} {Q : Exit → Act → World → Prop} {E : Prop} (hg : o.guard = none) (F : FuncId) (x y z : Operand) (ts : Array TypeId)
    (hop : o.op = Op.call { callee := Callee.value (Operand.func F), args := #[x, y, z], argTypes := ts }) (u v t : Value) (hx : a.eval x = u) (hy : a.eval y = v) (hz : a.eval z = t) (hF : a.eval (Operand.func F) = .func (.func F) #[] #[])
    (henter : (callFunc F #[u, v, t]).run P w = .ok (.enter F #[u, v, t]) w)
    (hc : Calls P F #[u, v, t] w fun e w' => ∃ r, e = .returned r ∧ K (a.put o.dst r) w') :
    if Region.wanted o (yielded ops a.tmps) = true then Oper.wp P o a w K Q else E := by
 have hw : Region.wanted o (yielded ops a.tmps) = true := by simp [Region.wanted, hg]
 rw [if_pos hw]
 unfold Oper.wp
 simp [execOp, hop, resolve, invoke, hx, hy, hz, hF, Deferred.ofValue]
 rw [henter]
 refine hc.mono ?_
 rintro e w' ⟨r, rfl, hk⟩
 exact hk
set_option maxHeartbeats 400000 in
theorem stepLoadS {ops : Array Oper} {o : Oper} {a : Act} {w : World} {K : Act → World → Prop} {Q : Exit → Act → World → Prop} {E : Prop} (hg : o.guard = none) (x : Operand) (hop : o.op = Op.load 124 x) (b off : Nat) (p : Option Addr) (n c : Nat)
    (hx : a.eval x = .pointer (some ⟨b, off, none⟩)) (hc : w.cell? ⟨b, off, none⟩ = some (.slice p n c)) (hK : K (a.put o.dst (.slice p n c)) w) :
    if Region.wanted o (yielded ops a.tmps) = true then Oper.wp Tryz.prog o a w K Q else E := by
 have hw : Region.wanted o (yielded ops a.tmps) = true := by simp [Region.wanted, hg]
 rw [if_pos hw]
 obtain ⟨d, q, t, ps, af, gd⟩ := o
 subst hop
 unfold Oper.wp execOp
 simp only [hx]
 go_simp
 exact hK
set_option maxHeartbeats 400000 in
theorem stepLoadN {ops : Array Oper} {o : Oper} {a : Act} {w : World} {K : Act → World → Prop} {Q : Exit → Act → World → Prop} {E : Prop} (hg : o.guard = none) (x : Operand) (hop : o.op = Op.load 2 x) (b off : Nat) (v : Int)
    (hx : a.eval x = .pointer (some ⟨b, off, none⟩)) (hc : w.cell? ⟨b, off, none⟩ = some (.int .i64 v)) (hK : K (a.put o.dst (.int .i64 v)) w) :
    if Region.wanted o (yielded ops a.tmps) = true then Oper.wp Tryz.prog o a w K Q else E := by
 have hw : Region.wanted o (yielded ops a.tmps) = true := by simp [Region.wanted, hg]
 rw [if_pos hw]
 obtain ⟨d, q, t, ps, af, gd⟩ := o
 subst hop
 unfold Oper.wp execOp
 simp only [hx]
 go_simp
 exact hK
set_option maxHeartbeats 400000 in
theorem stepStoreN {ops : Array Oper} {o : Oper} {a : Act} {w : World} {K : Act → World → Prop} {Q : Exit → Act → World → Prop} {E : Prop} (hg : o.guard = none) (x y : Operand) (hop : o.op = Op.store 2 x y) (m off : Nat) (v : Int)
    (hx : a.eval x = .pointer (some ⟨m, off, none⟩)) (hy : a.eval y = .int .i64 v) {z : Value} (hz : w.cell? ⟨m, off, none⟩ = some z) (hf : w.frozen? ⟨m, off, none⟩ = false)
    (hK : K (a.put o.dst undef) (w.setCell ⟨m, off, none⟩ (.int .i64 v))) :
    if Region.wanted o (yielded ops a.tmps) = true then Oper.wp Tryz.prog o a w K Q else E := by
 have hw : Region.wanted o (yielded ops a.tmps) = true := by simp [Region.wanted, hg]
 rw [if_pos hw]
 obtain ⟨d, q, t, ps, af, gd⟩ := o
 subst hop
 unfold Oper.wp execOp
 simp only [hx, hy]
 go_simp
 exact hK
set_option maxHeartbeats 400000 in
theorem stepStoreS {ops : Array Oper} {o : Oper} {a : Act} {w : World} {K : Act → World → Prop} {Q : Exit → Act → World → Prop} {E : Prop} (hg : o.guard = none) (x y : Operand) (hop : o.op = Op.store 124 x y) (m off : Nat) (p : Option Addr) (n c : Nat)
    (hx : a.eval x = .pointer (some ⟨m, off, none⟩)) (hy : a.eval y = .slice p n c) {z : Value} (hz : w.cell? ⟨m, off, none⟩ = some z) (hf : w.frozen? ⟨m, off, none⟩ = false)
    (hK : K (a.put o.dst undef) (w.setCell ⟨m, off, none⟩ (.slice p n c))) :
    if Region.wanted o (yielded ops a.tmps) = true then Oper.wp Tryz.prog o a w K Q else E := by
 have hw : Region.wanted o (yielded ops a.tmps) = true := by simp [Region.wanted, hg]
 rw [if_pos hw]
 obtain ⟨d, q, t, ps, af, gd⟩ := o
 subst hop
 unfold Oper.wp execOp
 simp only [hx, hy]
 go_simp
 exact hK
set_option maxHeartbeats 400000 in
theorem stepBuildI {ops : Array Oper} {o : Oper} {a : Act} {w : World} {K : Act → World → Prop} {Q : Exit → Act → World → Prop} {E : Prop} (hg : o.guard = none) (y : Operand) (hop : o.op = Op.buildSlice 124 1 #[(0, y)]) (x : It)
    (hx : a.eval y = .agg #[.float .f64 x.a, .float .f64 x.b, .bool x.p, .bool x.q, .int .i64 x.n])
    (hK : ∀ m w', m = w.heap.size → w' = w.alloc (.cells (itc x).toArray 156) → K (a.put o.dst (.slice (some ⟨m, 0, none⟩) 1 1)) w') :
    if Region.wanted o (yielded ops a.tmps) = true then Oper.wp Tryz.prog o a w K Q else E := by
 have hw : Region.wanted o (yielded ops a.tmps) = true := by simp [Region.wanted, hg]
 rw [if_pos hw]
 obtain ⟨d, p, t, ps, af, gd⟩ := o
 subst hop
 unfold Oper.wp execOp
 simp only [List.map_toArray, List.map_cons, List.map_nil, hx]
 go_simp
 exact hK _ _ rfl rfl
theorem wantCall1 {P : Program} {ops : Array Oper} {o : Oper} {a : Act} {w : World} {K : Act → World → Prop} {Q : Exit → Act → World → Prop} {E : Prop} (hw : Region.wanted o (yielded ops a.tmps) = true) (F : FuncId) (x : Operand) (ts : Array TypeId)
    (hop : o.op = Op.call { callee := Callee.value (Operand.func F), args := #[x], argTypes := ts }) (v : Value) (hx : a.eval x = v) (hF : a.eval (Operand.func F) = .func (.func F) #[] #[])
    (henter : (callFunc F #[v]).run P w = .ok (.enter F #[v]) w)
    (hc : Calls P F #[v] w fun e w' => ∃ r, e = .returned r ∧ K (a.put o.dst r) w') :
    if Region.wanted o (yielded ops a.tmps) = true then Oper.wp P o a w K Q else E := by
 rw [if_pos hw]
 unfold Oper.wp
 simp [execOp, hop, resolve, invoke, hx, hF, Deferred.ofValue]
 rw [henter]
 refine hc.mono ?_
 rintro e w' ⟨r, rfl, hk⟩
 exact hk
theorem wantCall2 {P : Program} {ops : Array Oper} {o : Oper} {a : Act} {w : World} {K : Act → World → Prop} {Q : Exit → Act → World → Prop} {E : Prop} (hw : Region.wanted o (yielded ops a.tmps) = true) (F : FuncId) (x y : Operand) (ts : Array TypeId)
    (hop : o.op = Op.call { callee := Callee.value (Operand.func F), args := #[x, y], argTypes := ts }) (u v : Value) (hx : a.eval x = u) (hy : a.eval y = v) (hF : a.eval (Operand.func F) = .func (.func F) #[] #[])
    (henter : (callFunc F #[u, v]).run P w = .ok (.enter F #[u, v]) w)
    (hc : Calls P F #[u, v] w fun e w' => ∃ r, e = .returned r ∧ K (a.put o.dst r) w') :
    if Region.wanted o (yielded ops a.tmps) = true then Oper.wp P o a w K Q else E := by
 rw [if_pos hw]
 unfold Oper.wp
 simp [execOp, hop, resolve, invoke, hx, hy, hF, Deferred.ofValue]
 rw [henter]
 refine hc.mono ?_
 rintro e w' ⟨r, rfl, hk⟩
 exact hk
theorem ent_ins (args : Array Value) (w : World) : (callFunc 119 args).run Tryz.prog w = .ok (.enter 119 args) w := by kernel_rfl
theorem itcs_set (m : Int) : ∀ (L : List It) (p : Nat), p < L.length → itcs (L.set p (withN (atI L p) m)) = (itcs L).set (p * 5 + (5 - 1)) (.int .i64 m)
 | [], p, h => by simp at h
 | y :: t, 0, _ => by
  rw [List.set_cons_zero, itcs_cons, itcs_cons, atI_zero, Nat.zero_mul, Nat.zero_add, List.set_append_left _ _ (by rw [itc_len]; decide)]
  rfl
 | y :: t, p + 1, h => by
  rw [List.set_cons_succ, itcs_cons, itcs_cons, atI_succ, itcs_set m t p (by simpa using h), List.set_append_right _ _ (by rw [itc_len]; omega), itc_len]
  congr 2
  omega
theorem Own.setN {base : Nat} {w : World} {g n cap p : Nat} {L : List It} (h : Own base w (.slice (some ⟨g, 0, none⟩) n cap) L) (hp : p < L.length) (m : Int) : Own base (w.setCell ⟨g, p * 5 + (5 - 1), none⟩ (.int .i64 m)) (.slice (some ⟨g, 0, none⟩) n cap) (L.set p (withN (atI L p) m)) := by
 rcases h.2 with ⟨e, _⟩ | ⟨g', cap', cur, e, hb, hg, hnc, hcm, hcs, htk⟩
 ·cases e
 ·simp only [Value.slice.injEq, Option.some.injEq, Addr.mk.injEq] at e
  obtain ⟨⟨rfl, _, _⟩, rfl, rfl⟩ := e
  rw [setCell_eq_setRow w g _ cur _ _ _ hg]
  have hl : (L.set p (withN (atI L p) m)).length = L.length := List.length_set ..
  have hr : RowIs (w.setRow g (cur.setIfInBounds (p * 5 + (5 - 1)) (.int .i64 m))) g L.length cap (cur.setIfInBounds (p * 5 + (5 - 1)) (.int .i64 m)) (L.set p (withN (atI L p) m)) := by
   refine ⟨setRow_heap w g cur _ _ _ hg, hl.symm, hnc, hcm, by simp [hcs], ?_⟩
   rw [itcs_set m L p hp, ← htk, Array.toList_setIfInBounds, List.take_set]
  exact hr.own hb
end Go.Proofs.YtgeinnaljlajoaaGreat.Py
namespace Go.Proofs.YtgeinnaljlajoaaGreat.Py
abbrev oTyh0 : Oper := { dst := some 41, op := .move (.tmp 0), type := 53, pos := "preds.go:41", after := #[], guard := none }
abbrev oTyh1 : Oper := { dst := some 42, op := .nilCheck (.tmp 41), type := 0, pos := "preds.go:41", after := #[⟨0, .data⟩], guard := none }
abbrev oTyh2 : Oper := { dst := some 43, op := .fieldAddr 126 (.tmp 42) 1, type := 0, pos := "preds.go:41", after := #[⟨1, .data⟩], guard := none }
abbrev oTyh3 : Oper := { dst := some 44, op := .load 124 (.tmp 43), type := 124, pos := "preds.go:41", after := #[⟨2, .data⟩], guard := none }
abbrev oTyh4 : Oper := { dst := some 45, op := .move (.tmp 7), type := 3, pos := "preds.go:41", after := #[], guard := none }
abbrev oTyh5 : Oper := { dst := some 46, op := .move (.tmp 0), type := 53, pos := "preds.go:41", after := #[], guard := none }
abbrev oTyh6 : Oper := { dst := some 47, op := .nilCheck (.tmp 46), type := 0, pos := "preds.go:41", after := #[⟨5, .data⟩], guard := none }
abbrev oTyh7 : Oper := { dst := some 48, op := .fieldAddr 126 (.tmp 47) 1, type := 0, pos := "preds.go:41", after := #[⟨6, .data⟩], guard := none }
abbrev oTyh8 : Oper := { dst := some 49, op := .load 124 (.tmp 48), type := 124, pos := "preds.go:41", after := #[⟨7, .data⟩], guard := none }
abbrev oTyh9 : Oper := { dst := some 50, op := .move (.tmp 7), type := 3, pos := "preds.go:41", after := #[], guard := none }
abbrev oTyh10 : Oper := { dst := some 51, op := .indexAddr 124 (.tmp 49) (.tmp 50), type := 0, pos := "preds.go:41", after := #[⟨8, .data⟩, ⟨9, .data⟩], guard := none }
abbrev oTyh11 : Oper := { dst := some 52, op := .fieldAddr 156 (.tmp 51) 1, type := 0, pos := "preds.go:41", after := #[⟨10, .data⟩], guard := none }
abbrev oTyh12 : Oper := { dst := some 54, op := .move (.tmp 2), type := 2, pos := "preds.go:41", after := #[], guard := none }
abbrev oTyh13 : Oper := { dst := some 53, op := .load 2 (.tmp 52), type := 2, pos := "preds.go:41", after := #[⟨11, .data⟩], guard := none }
abbrev oTyh14 : Oper := { dst := some 55, op := .call { callee := Callee.builtin Builtin.max, args := #[.tmp 53, .tmp 54], argTypes := #[2, 2] }, type := 2, pos := "preds.go:41", after := #[⟨12, .data⟩, ⟨13, .data⟩], guard := none }
abbrev oTyh15 : Oper := { dst := some 56, op := .indexAddr 124 (.tmp 44) (.tmp 45), type := 0, pos := "preds.go:41", after := #[⟨3, .data⟩, ⟨4, .data⟩, ⟨0, .phase⟩, ⟨1, .phase⟩, ⟨2, .phase⟩, ⟨3, .phase⟩, ⟨4, .phase⟩, ⟨5, .phase⟩, ⟨6, .phase⟩, ⟨7, .phase⟩, ⟨8, .phase⟩, ⟨9, .phase⟩, ⟨10, .phase⟩, ⟨11, .phase⟩, ⟨12, .phase⟩, ⟨13, .phase⟩, ⟨14, .phase⟩], guard := none }
abbrev oTyh16 : Oper := { dst := some 57, op := .fieldAddr 156 (.tmp 56) 1, type := 0, pos := "preds.go:41", after := #[⟨15, .data⟩, ⟨0, .phase⟩, ⟨1, .phase⟩, ⟨2, .phase⟩, ⟨3, .phase⟩, ⟨4, .phase⟩, ⟨5, .phase⟩, ⟨6, .phase⟩, ⟨7, .phase⟩, ⟨8, .phase⟩, ⟨9, .phase⟩, ⟨10, .phase⟩, ⟨11, .phase⟩, ⟨12, .phase⟩, ⟨13, .phase⟩, ⟨14, .phase⟩], guard := none }
abbrev oTyh17 : Oper := { dst := none, op := .store 2 (.tmp 57) (.tmp 55), type := 0, pos := "preds.go:41", after := #[⟨16, .data⟩, ⟨14, .data⟩, ⟨0, .phase⟩, ⟨1, .phase⟩, ⟨2, .phase⟩, ⟨3, .phase⟩, ⟨4, .phase⟩, ⟨5, .phase⟩, ⟨6, .phase⟩, ⟨7, .phase⟩, ⟨8, .phase⟩, ⟨9, .phase⟩, ⟨10, .phase⟩, ⟨11, .phase⟩, ⟨12, .phase⟩, ⟨13, .phase⟩, ⟨14, .phase⟩], guard := none }
abbrev oTyh18 : Oper := { dst := some 15, op := .move (.tmp 0), type := 53, pos := "preds.go:45", after := #[], guard := none }
abbrev oTyh19 : Oper := { dst := some 16, op := .move (.tmp 0), type := 53, pos := "preds.go:45", after := #[], guard := none }
abbrev oTyh20 : Oper := { dst := some 17, op := .nilCheck (.tmp 16), type := 0, pos := "preds.go:45", after := #[⟨1, .data⟩], guard := none }
abbrev oTyh21 : Oper := { dst := some 18, op := .fieldAddr 126 (.tmp 17) 1, type := 0, pos := "preds.go:45", after := #[⟨2, .data⟩], guard := none }
abbrev oTyh22 : Oper := { dst := some 20, op := .move (.tmp 7), type := 3, pos := "preds.go:45", after := #[], guard := none }
abbrev oTyh23 : Oper := { dst := some 21, op := .load 74 (.tmp 4), type := 74, pos := "preds.go:45", after := #[], guard := none }
abbrev oTyh24 : Oper := { dst := some 23, op := .move (.tmp 2), type := 2, pos := "preds.go:45", after := #[], guard := none }
abbrev oTyh25 : Oper := { dst := some 19, op := .load 124 (.tmp 18), type := 124, pos := "preds.go:45", after := #[⟨3, .data⟩], guard := none }
abbrev oTyh26 : Oper := { dst := some 22, op := .call { callee := Callee.value (.func 101), args := #[.tmp 21], argTypes := #[74] }, type := 74, pos := "preds.go:45", after := #[⟨6, .data⟩], guard := none }
abbrev oTyh27 : Oper := { dst := some 24, op := .build 156 #[(0, .tmp 22), (1, .tmp 23)], type := 156, pos := "preds.go:45", after := #[⟨7, .data⟩, ⟨8, .data⟩], guard := none }
abbrev oTyh28 : Oper := { dst := some 25, op := .buildSlice 124 1 #[(0, .tmp 24)], type := 124, pos := "preds.go:45", after := #[⟨9, .data⟩], guard := none }
abbrev oTyh29 : Oper := { dst := some 26, op := .call { callee := Callee.value (.func 119), args := #[.tmp 19, .tmp 20, .tmp 25], argTypes := #[124, 3, 124] }, type := 124, pos := "preds.go:45", after := #[⟨4, .data⟩, ⟨5, .data⟩, ⟨10, .data⟩, ⟨7, .chain⟩], guard := none }
abbrev oTyh30 : Oper := { dst := some 27, op := .nilCheck (.tmp 15), type := 0, pos := "preds.go:45", after := #[⟨0, .data⟩, ⟨0, .phase⟩, ⟨1, .phase⟩, ⟨2, .phase⟩, ⟨3, .phase⟩, ⟨4, .phase⟩, ⟨5, .phase⟩, ⟨6, .phase⟩, ⟨7, .phase⟩, ⟨8, .phase⟩, ⟨9, .phase⟩, ⟨10, .phase⟩, ⟨11, .phase⟩], guard := none }
abbrev oTyh31 : Oper := { dst := some 28, op := .fieldAddr 126 (.tmp 27) 1, type := 0, pos := "preds.go:45", after := #[⟨12, .data⟩, ⟨0, .phase⟩, ⟨1, .phase⟩, ⟨2, .phase⟩, ⟨3, .phase⟩, ⟨4, .phase⟩, ⟨5, .phase⟩, ⟨6, .phase⟩, ⟨7, .phase⟩, ⟨8, .phase⟩, ⟨9, .phase⟩, ⟨10, .phase⟩, ⟨11, .phase⟩], guard := none }
abbrev oTyh32 : Oper := { dst := none, op := .store 124 (.tmp 28) (.tmp 26), type := 0, pos := "preds.go:45", after := #[⟨13, .data⟩, ⟨11, .data⟩, ⟨11, .chain⟩, ⟨0, .phase⟩, ⟨1, .phase⟩, ⟨2, .phase⟩, ⟨3, .phase⟩, ⟨4, .phase⟩, ⟨5, .phase⟩, ⟨6, .phase⟩, ⟨7, .phase⟩, ⟨8, .phase⟩, ⟨9, .phase⟩, ⟨10, .phase⟩, ⟨11, .phase⟩], guard := none }
open Go.RowKit Go.Lib
set_option linter.unusedVariables false
set_option linter.unusedSimpArgs false
set_option maxRecDepth 20000
def PutPost (base b : Nat) (most : Int) (v : Value) (code : Int) (L' : List It) (w : World) (e : Ending) (w' : World) : Prop := ∃ v', e = .returned (.int .i64 code) ∧ TabAt base w' b most v' L' ∧ Chg (blks b v) w w' ∧ ∀ g, v'.ownBlock = some g → v.ownBlock = some g ∨ w.heap.size ≤ g
theorem putPost_same {base b : Nat} {most : Int} {v : Value} {code : Int} {L : List It} {w w' : World} (h : TabAt base w b most v L) (u : Old w w') : PutPost base b most v code L w (.returned (.int .i64 code)) w' := ⟨v, rfl, h.old u, Chg.ofOld u, fun g hg => .inl hg⟩
theorem newRow (w : World) (m : Nat) (x : World) (y : It) (hm : m = w.heap.size) (hx : x = w.alloc (.cells (itc y).toArray 156)) : Old w x ∧ x.heap[m]? = some (.cells (itc y).toArray 156 (0, 0)) ∧ w.heap.size ≤ m := by
 subst hm hx
 exact ⟨(Old.refl w).alloc _, alloc_heap w _ _ rfl, Nat.le_refl _⟩
theorem ent_canonP (args : Array Value) (w : World) : (callFunc 101 args).run Tryz.prog w = .ok (.enter 101 args) w := by kernel_rfl
theorem kc_new (x y : Nat) (p q : Bool) (n : Int) (hE : Fl.csE x y p q = false) : kc ⟨Fl.csU x y p q, Fl.csV x y p q, false, false, n⟩ = skc x y p q := by unfold kc skc; rw [hE]; rfl
theorem empty_old (a b : Nat) (ha : Fl.W a) (hb : Fl.W b) (p q : Bool) (w : World) : Calls Tryz.prog 73 #[.agg #[.float .f64 a, .float .f64 b, .bool p, .bool q]] w fun e w' => e = .returned (.bool (Fl.csE a b p q)) ∧ Old w w' := (empty_any a b ha hb p q w).mono fun e w' h => ⟨h.1, h.2.old⟩
attribute [local go_sem] run_bits run_frombits run_store_float
set_option maxHeartbeats 1000000 in
theorem put_empty (base b : Nat) (most n : Int) (v : Value) (L : List It) (x y : Nat) (p q : Bool) (hx : Fl.W x) (hy : Fl.W y) (w : World) (h : TabAt base w b most v L) (hG : Good L) (hL : L.length ≤ 1000000) (hE : Fl.csE x y p q = true) :
    Calls Tryz.prog 92 #[.pointer (some ⟨b, 0, none⟩), .agg #[.float .f64 x, .float .f64 y, .bool p, .bool q], .int .i64 n] w fun e w' => PutPost base b most v 41 L w e w' := by
 have hV := hid ((Old.refl w).alloc (.cells #[.float .f64 x, .float .f64 y, .bool p, .bool q] 74))
 have HSp := hid (show SpAt w.heap.size x y p q (w.alloc (.cells #[.float .f64 x, .float .f64 y, .bool p, .bool q] 74)) by simp [SpAt])
 have HT1 := hid (h.old hV.out)
 have HF := hid (find_t base b most v L x y p q hx hy _ HT1.out hG hL)
 have HEm := hid (fun W => empty_old x y hx hy p q W)
 rw [hE] at HEm
 have HE := hid (fun w' (u : Old w w') => putPost_same (code := 41) h u)
 clear h hG hE HT1
 generalize pos (skc x y p q) L = k at *
 generalize there (skc x y p q) L = r at *
 go_enter Tryz.func92, Tryz.ntmps92
 go_upto_region 1 with fail
 generalize w.alloc (.cells #[.float .f64 x, .float .f64 y, .bool p, .bool q] 74) = w1 at *
 obtain ⟨s0, s1, s2, s3⟩ := HSp.out
 go_wp2_with (first | (go_at_call 118; refine HF.out.mono ?_; rintro e w3 ⟨rfl, u3⟩; have U3 := hid (hV.out.trans u3); have SP3 := hid (SpAt.old u3 HSp.out); obtain ⟨r0, r1, r2, r3⟩ := SP3.out; clear u3) | (go_at_call 73; refine (HEm.out _).mono ?_; rintro e w4 ⟨rfl, u4⟩; have U4 := hid (U3.out.trans u4); have SP4 := hid (SpAt.old u4 SP3.out); clear u4))
 exact bodyPost_ret (v := .int .i64 41) (by simp [results, Tryz.results92, go_sem]) rfl (HE.out _ U4.out)
set_option maxHeartbeats 1000000 in
theorem put_num (base b : Nat) (most n : Int) (v : Value) (L : List It) (x y : Nat) (p q : Bool) (hx : Fl.W x) (hy : Fl.W y) (w : World) (h : TabAt base w b most v L) (hG : Good L) (hL : L.length ≤ 1000000) (hE : Fl.csE x y p q = false) (hb : n < 1 ∨ 1099511627776 < n) :
    Calls Tryz.prog 92 #[.pointer (some ⟨b, 0, none⟩), .agg #[.float .f64 x, .float .f64 y, .bool p, .bool q], .int .i64 n] w fun e w' => PutPost base b most v 43 L w e w' := by
 have hV := hid ((Old.refl w).alloc (.cells #[.float .f64 x, .float .f64 y, .bool p, .bool q] 74))
 have HSp := hid (show SpAt w.heap.size x y p q (w.alloc (.cells #[.float .f64 x, .float .f64 y, .bool p, .bool q] 74)) by simp [SpAt])
 have HT1 := hid (h.old hV.out)
 have HF := hid (find_t base b most v L x y p q hx hy _ HT1.out hG hL)
 have HEm := hid (fun W => empty_old x y hx hy p q W)
 rw [hE] at HEm
 have HE := hid (fun w' (u : Old w w') => putPost_same (code := 43) h u)
 clear h hG hE HT1
 generalize pos (skc x y p q) L = k at *
 generalize there (skc x y p q) L = r at *
 have hb2 : n < 1 ∨ ¬ n < 1 ∧ 1099511627776 < n := by omega
 clear hb
 go_enter Tryz.func92, Tryz.ntmps92
 go_upto_region 1 with fail
 generalize w.alloc (.cells #[.float .f64 x, .float .f64 y, .bool p, .bool q] 74) = w1 at *
 obtain ⟨s0, s1, s2, s3⟩ := HSp.out
 rcases hb2 with hb | ⟨hb1, hb⟩
 all_goals go_wp2_with (first | (go_at_call 118; refine HF.out.mono ?_; rintro e w3 ⟨rfl, u3⟩; have U3 := hid (hV.out.trans u3); have SP3 := hid (SpAt.old u3 HSp.out); obtain ⟨r0, r1, r2, r3⟩ := SP3.out; clear u3) | (go_at_call 73; refine (HEm.out _).mono ?_; rintro e w4 ⟨rfl, u4⟩; have U4 := hid (U3.out.trans u4); have SP4 := hid (SpAt.old u4 SP3.out); clear u4))
 all_goals exact bodyPost_ret (v := .int .i64 43) (by simp [results, Tryz.results92, go_sem]) rfl (HE.out _ U4.out)
set_option maxHeartbeats 4000000 in
theorem put_there (base b : Nat) (most n : Int) (v : Value) (L : List It) (x y : Nat) (p q : Bool) (hx : Fl.W x) (hy : Fl.W y) (w : World) (h : TabAt base w b most v L) (hG : Good L) (hL : L.length ≤ 1000000) (hE : Fl.csE x y p q = false) (h1 : ¬ n < 1) (h2 : ¬ 1099511627776 < n) (ht : there (skc x y p q) L = true) :
    Calls Tryz.prog 92 #[.pointer (some ⟨b, 0, none⟩), .agg #[.float .f64 x, .float .f64 y, .bool p, .bool q], .int .i64 n] w fun e w' => PutPost base b most v 0 (putL ⟨Fl.csU x y p q, Fl.csV x y p q, false, false, n⟩ L) w e w' := by
 have hV := hid ((Old.refl w).alloc (.cells #[.float .f64 x, .float .f64 y, .bool p, .bool q] 74))
 have HSp := hid (show SpAt w.heap.size x y p q (w.alloc (.cells #[.float .f64 x, .float .f64 y, .bool p, .bool q] 74)) by simp [SpAt])
 have HT1 := hid (h.old hV.out)
 have HF := hid (find_t base b most v L x y p q hx hy _ HT1.out hG hL)
 have HEm := hid (fun W => empty_old x y hx hy p q W)
 rw [hE] at HEm
 rw [ht] at HF
 have hpl : pos (skc x y p q) L < L.length := by simp [there] at ht; exact ht.1
 have hkp : kc (atI L (pos (skc x y p q) L)) = skc x y p q := by simp [there] at ht; exact ht.2
 have hput := put_set ⟨Fl.csU x y p q, Fl.csV x y p q, false, false, n⟩ L hG.1 (by rw [kc_new x y p q n hE]; exact hpl) (by rw [kc_new x y p q n hE]; exact hkp)
 rw [kc_new x y p q n hE] at hput
 have HP := hid hput
 have HT := hid h
 clear hput hkp ht h hG hE HT1
 generalize pos (skc x y p q) L = k at *
 obtain ⟨g, cap, hvs, hgb, hgl, hit, hfz⟩ := HT.out.2.2.2.2.1.shape (by omega)
 subst hvs
 have hi := hit k hpl
 have hgne : g ≠ b := fun e => HT.out.2.2.2.2.2 (by rw [e]; rfl)
 have hfp := hfz (k * 5 + 4)
 clear hit hfz
 have HI := hid (And.intro hi hfp)
 clear hi hfp
 have l1 : (0 : Int) ≤ (k : Int) := by omega
 have l2 : (k : Int) < ((L.length : Nat) : Int) := by omega
 have hbN : L.length ≤ 9223372036854775807 := by omega
 have HE0 := hid (fun (w3 : World) (val : Int) (u : Old w w3) (hv : val = max (atI L k).n n) => show PutPost base b most (.slice (some ⟨g, 0, none⟩) L.length cap) 0 (putL ⟨Fl.csU x y p q, Fl.csV x y p q, false, false, n⟩ L) w (.returned (.int .i64 0)) (w3.drew.setCell ⟨g, k * 5 + 4, none⟩ (.int .i64 val)) from by
  rw [HP.out, hv]
  have t3 := HT.out.old u.drew
  have hC : Chg [g] w3.drew (w3.drew.setCell ⟨g, k * 5 + 4, none⟩ (.int .i64 (max (atI L k).n n))) := Chg.set _ _ _ (by simp)
  have hbg : b ∉ [g] := by simp; exact fun e => hgne e.symm
  refine ⟨_, rfl, ⟨t3.1, hC.cell t3.2.1 hbg, hC.cell t3.2.2.1 hbg, hC.keepF t3.2.2.1 t3.2.2.2.1 hbg, t3.2.2.2.2.1.setN hpl _, t3.2.2.2.2.2⟩, (Chg.ofOld u.drew).trans (hC.mono fun k hk _ => by simp at hk; subst hk; simp [blks, Value.ownBlock]), fun k hk => .inl hk⟩)
 generalize hN : L.length = N at *
 go_enter Tryz.func92, Tryz.ntmps92
 go_upto_region 1 with fail
 generalize w.alloc (.cells #[.float .f64 x, .float .f64 y, .bool p, .bool q] 74) = w1 at *
 obtain ⟨s0, s1, s2, s3⟩ := HSp.out
 go_upto_region 8 with (first | (go_at_call 118; refine HF.out.mono ?_; rintro e w3 ⟨rfl, u3⟩; have U3 := hid (hV.out.trans u3); have SP3 := hid (SpAt.old u3 HSp.out); obtain ⟨r0, r1, r2, r3⟩ := SP3.out; clear u3) | (go_at_call 73; refine (HEm.out _).mono ?_; rintro e w4 ⟨rfl, u4⟩; have U4 := hid (U3.out.trans u4); have SP4 := hid (SpAt.old u4 SP3.out); clear u4))
 obtain ⟨tb, t0, hS, tf, tw, tn⟩ := HT.out.old U4.out
 obtain ⟨⟨c0, c1, c2, c3, c4⟩, cf⟩ := And.intro (HI.out.1.old U4.out) (U4.out.keepF HI.out.1.2.2.2.2 HI.out.2)
 clear tw tn t0 tf tb c0 c1 c2 c3 s0 s1 s2 s3 r0 r1 r2 r3
 generalize hq : (atI L k).n = u at *
 rcases (show u < n ∨ n ≤ u by omega) with hlt | hge
 ·have HE := hid (HE0.out w4 n U4.out (by omega))
  have hS2 : (w4.drew.setCell ⟨g, k * 5 + 4, none⟩ (.int .i64 n)).cell? ⟨b, 1, none⟩ = some (.slice (some ⟨g, 0, none⟩) N cap) := by rw [World.cell?_setCell_other _ _ _ _ (by intro e; first | exact hgne (congrArg Addr.block e) | exact hgne (congrArg Addr.block e).symm)]; exact hS
  clear HE0
  focus
   refine wp_region_noPanic ?_
   refine wp_region_held_drew (S := fun W => W.cell? ⟨b, 1, none⟩ = some (.slice (some ⟨g, 0, none⟩) N cap)) (by kernel_rfl) ?_ (fun hHeld => ?_)
   ·exact hS
   try simp only [Act.put, puA, puB, puC]
   clear hHeld
   all_goals
    refine atA [false, false, false, false, false, false, false, false, false, false, false, false, false, false, false, false, false, false] ?_
    refine tkA (i := 0) (oi := oTyh0) hS ?_
    try simp only [Act.put, puA, puB, puC]
    refine tkA (i := 1) (oi := oTyh1) hS ?_
    try simp only [Act.put, puA, puB, puC]
    refine tkA (i := 2) (oi := oTyh2) hS ?_
    try simp only [Act.put, puA, puB, puC]
    refine tkA (i := 3) (oi := oTyh3) hS ?_
    try simp only [Act.put, puA, puB, puC]
    refine tkA (i := 4) (oi := oTyh4) hS ?_
    try simp only [Act.put, puA, puB, puC]
    refine tkA (i := 5) (oi := oTyh5) hS ?_
    try simp only [Act.put, puA, puB, puC]
    refine tkA (i := 6) (oi := oTyh6) hS ?_
    try simp only [Act.put, puA, puB, puC]
    refine tkA (i := 7) (oi := oTyh7) hS ?_
    try simp only [Act.put, puA, puB, puC]
    refine tkA (i := 8) (oi := oTyh8) hS ?_
    try simp only [Act.put, puA, puB, puC]
    refine tkA (i := 9) (oi := oTyh9) hS ?_
    try simp only [Act.put, puA, puB, puC]
    refine tkA (i := 10) (oi := oTyh10) hS ?_
    try simp only [Act.put, puA, puB, puC]
    refine tkA (i := 11) (oi := oTyh11) hS ?_
    try simp only [Act.put, puA, puB, puC]
    refine tkA (i := 13) (oi := oTyh12) hS ?_
    try simp only [Act.put, puA, puB, puC]
    refine rdA [12] ?_
    refine AllReadyH.cons (o := oTyh13) rfl (fun K hK => ?_) AllReadyH.nil
    refine stepLoadN ?_ (.tmp 52) ?_ g (k * 5 + 4) u ?_ c4 ?_
    iterate 3 rfl
    refine hK.out _ _ hS (fun _ => ?_)
    clear hK K
    try simp only [Act.put, puA, puB, puC]
   all_goals
    refine atA [true, true, true, true, true, true, true, true, true, true, true, true, true, true, false, false, false, false] ?_
    refine tkA (i := 14) (oi := oTyh14) hS ?_
    try simp only [Act.put, puA, puB, puC]
    refine tkA (i := 15) (oi := oTyh15) hS ?_
    try simp only [Act.put, puA, puB, puC]
    refine tkA (i := 16) (oi := oTyh16) hS ?_
    try simp only [Act.put, puA, puB, puC]
    refine rdA [17] ?_
    refine AllReadyH.cons (o := oTyh17) rfl (fun K hK => ?_) AllReadyH.nil
    refine stepStoreN ?_ (.tmp 57) (.tmp 55) ?_ g (k * 5 + 4) n ?_ ?_ c4 cf ?_
    iterate 4 rfl
    refine hK.out _ _ hS2 (fun _ => ?_)
    clear hK K
    try simp only [Act.put, puA, puB, puC]
   all_goals
    refine atA [true, true, true, true, true, true, true, true, true, true, true, true, true, true, true, true, true, true] ?_
    refine wpAnyH_done (by kernel_rfl) ?_ _
    refine NoPanic.normal ?_
    go_wp2
    exact bodyPost_ret (v := .int .i64 0) (by simp [results, Tryz.results92, go_sem]) rfl HE.out
 ·have hge2 : ¬ u < n := by omega
  have HE := hid (HE0.out w4 u U4.out (by omega))
  have hS2 : (w4.drew.setCell ⟨g, k * 5 + 4, none⟩ (.int .i64 u)).cell? ⟨b, 1, none⟩ = some (.slice (some ⟨g, 0, none⟩) N cap) := by rw [World.cell?_setCell_other _ _ _ _ (by intro e; first | exact hgne (congrArg Addr.block e) | exact hgne (congrArg Addr.block e).symm)]; exact hS
  clear HE0
  focus
   refine wp_region_noPanic ?_
   refine wp_region_held_drew (S := fun W => W.cell? ⟨b, 1, none⟩ = some (.slice (some ⟨g, 0, none⟩) N cap)) (by kernel_rfl) ?_ (fun hHeld => ?_)
   ·exact hS
   try simp only [Act.put, puA, puB, puC]
   clear hHeld
   all_goals
    refine atA [false, false, false, false, false, false, false, false, false, false, false, false, false, false, false, false, false, false] ?_
    refine tkA (i := 0) (oi := oTyh0) hS ?_
    try simp only [Act.put, puA, puB, puC]
    refine tkA (i := 1) (oi := oTyh1) hS ?_
    try simp only [Act.put, puA, puB, puC]
    refine tkA (i := 2) (oi := oTyh2) hS ?_
    try simp only [Act.put, puA, puB, puC]
    refine tkA (i := 3) (oi := oTyh3) hS ?_
    try simp only [Act.put, puA, puB, puC]
    refine tkA (i := 4) (oi := oTyh4) hS ?_
    try simp only [Act.put, puA, puB, puC]
    refine tkA (i := 5) (oi := oTyh5) hS ?_
    try simp only [Act.put, puA, puB, puC]
    refine tkA (i := 6) (oi := oTyh6) hS ?_
    try simp only [Act.put, puA, puB, puC]
    refine tkA (i := 7) (oi := oTyh7) hS ?_
    try simp only [Act.put, puA, puB, puC]
    refine tkA (i := 8) (oi := oTyh8) hS ?_
    try simp only [Act.put, puA, puB, puC]
    refine tkA (i := 9) (oi := oTyh9) hS ?_
    try simp only [Act.put, puA, puB, puC]
    refine tkA (i := 10) (oi := oTyh10) hS ?_
    try simp only [Act.put, puA, puB, puC]
    refine tkA (i := 11) (oi := oTyh11) hS ?_
    try simp only [Act.put, puA, puB, puC]
    refine tkA (i := 13) (oi := oTyh12) hS ?_
    try simp only [Act.put, puA, puB, puC]
    refine rdA [12] ?_
    refine AllReadyH.cons (o := oTyh13) rfl (fun K hK => ?_) AllReadyH.nil
    refine stepLoadN ?_ (.tmp 52) ?_ g (k * 5 + 4) u ?_ c4 ?_
    iterate 3 rfl
    refine hK.out _ _ hS (fun _ => ?_)
    clear hK K
    try simp only [Act.put, puA, puB, puC]
   all_goals
    refine atA [true, true, true, true, true, true, true, true, true, true, true, true, true, true, false, false, false, false] ?_
    refine tkA (i := 14) (oi := oTyh14) hS ?_
    try simp only [Act.put, puA, puB, puC]
    refine tkA (i := 15) (oi := oTyh15) hS ?_
    try simp only [Act.put, puA, puB, puC]
    refine tkA (i := 16) (oi := oTyh16) hS ?_
    try simp only [Act.put, puA, puB, puC]
    refine rdA [17] ?_
    refine AllReadyH.cons (o := oTyh17) rfl (fun K hK => ?_) AllReadyH.nil
    refine stepStoreN ?_ (.tmp 57) (.tmp 55) ?_ g (k * 5 + 4) u ?_ ?_ c4 cf ?_
    iterate 4 rfl
    refine hK.out _ _ hS2 (fun _ => ?_)
    clear hK K
    try simp only [Act.put, puA, puB, puC]
   all_goals
    refine atA [true, true, true, true, true, true, true, true, true, true, true, true, true, true, true, true, true, true] ?_
    refine wpAnyH_done (by kernel_rfl) ?_ _
    refine NoPanic.normal ?_
    go_wp2
    exact bodyPost_ret (v := .int .i64 0) (by simp [results, Tryz.results92, go_sem]) rfl HE.out
set_option maxHeartbeats 4000000 in
theorem put_full (base b : Nat) (most n : Int) (v : Value) (L : List It) (x y : Nat) (p q : Bool) (hx : Fl.W x) (hy : Fl.W y) (w : World) (h : TabAt base w b most v L) (hG : Good L) (hL : L.length ≤ 1000000) (hE : Fl.csE x y p q = false) (h1 : ¬ n < 1) (h2 : ¬ 1099511627776 < n) (ht : there (skc x y p q) L = false) (hm : most ≤ (L.length : Int)) :
    Calls Tryz.prog 92 #[.pointer (some ⟨b, 0, none⟩), .agg #[.float .f64 x, .float .f64 y, .bool p, .bool q], .int .i64 n] w fun e w' => PutPost base b most v 3 L w e w' := by
 have hV := hid ((Old.refl w).alloc (.cells #[.float .f64 x, .float .f64 y, .bool p, .bool q] 74))
 have HSp := hid (show SpAt w.heap.size x y p q (w.alloc (.cells #[.float .f64 x, .float .f64 y, .bool p, .bool q] 74)) by simp [SpAt])
 have HT1 := hid (h.old hV.out)
 have HF := hid (find_t base b most v L x y p q hx hy _ HT1.out hG hL)
 have HEm := hid (fun W => empty_old x y hx hy p q W)
 rw [hE] at HEm
 rw [ht] at HF
 have HE := hid (fun w' (u : Old w w') => putPost_same (code := 3) h u)
 have HT := hid h
 obtain ⟨a, c, hv⟩ := h.2.2.2.2.1.len
 subst hv
 clear h hG ht hE HT1
 generalize pos (skc x y p q) L = k at *
 generalize hN : L.length = N at *
 go_enter Tryz.func92, Tryz.ntmps92
 go_upto_region 1 with fail
 generalize w.alloc (.cells #[.float .f64 x, .float .f64 y, .bool p, .bool q] 74) = w1 at *
 obtain ⟨s0, s1, s2, s3⟩ := HSp.out
 go_upto_region 9 with (first | (go_at_call 118; refine HF.out.mono ?_; rintro e w3 ⟨rfl, u3⟩; have U3 := hid (hV.out.trans u3); have SP3 := hid (SpAt.old u3 HSp.out); obtain ⟨r0, r1, r2, r3⟩ := SP3.out; clear u3) | (go_at_call 73; refine (HEm.out _).mono ?_; rintro e w4 ⟨rfl, u4⟩; have U4 := hid (U3.out.trans u4); have SP4 := hid (SpAt.old u4 SP3.out); clear u4))
 obtain ⟨tb, t0, hS, tf, tw, tn⟩ := HT.out.old U4.out
 clear tw tn tf tb s0 s1 s2 s3 r0 r1 r2 r3
 have hle : decide ((most : Int) ≤ (N : Int)) = true := by simpa using hm
 go_quiet (fail)
 go_wp2
 exact bodyPost_ret (v := .int .i64 3) (by simp [results, Tryz.results92, go_sem]) rfl (HE.out _ (U4.out.drewN _))
set_option maxHeartbeats 8000000 in
theorem put_new (base b : Nat) (most n : Int) (v : Value) (L : List It) (x y : Nat) (p q : Bool) (hx : Fl.W x) (hy : Fl.W y) (w : World) (h : TabAt base w b most v L) (hG : Good L) (hL : L.length ≤ 1000000) (hE : Fl.csE x y p q = false) (h1 : ¬ n < 1) (h2 : ¬ 1099511627776 < n) (ht : there (skc x y p q) L = false) (hm : (L.length : Int) < most) :
    Calls Tryz.prog 92 #[.pointer (some ⟨b, 0, none⟩), .agg #[.float .f64 x, .float .f64 y, .bool p, .bool q], .int .i64 n] w fun e w' => PutPost base b most v 0 (putL ⟨Fl.csU x y p q, Fl.csV x y p q, false, false, n⟩ L) w e w' := by
 have hV := hid ((Old.refl w).alloc (.cells #[.float .f64 x, .float .f64 y, .bool p, .bool q] 74))
 have HSp := hid (show SpAt w.heap.size x y p q (w.alloc (.cells #[.float .f64 x, .float .f64 y, .bool p, .bool q] 74)) by simp [SpAt])
 have HT1 := hid (h.old hV.out)
 have HF := hid (find_t base b most v L x y p q hx hy _ HT1.out hG hL)
 have HEm := hid (fun W => empty_old x y hx hy p q W)
 rw [hE] at HEm
 rw [ht] at HF
 have hput := put_ins ⟨Fl.csU x y p q, Fl.csV x y p q, false, false, n⟩ L hG.1 (by rw [kc_new x y p q n hE]; intro e; simp [there, e.1, e.2] at ht)
 rw [kc_new x y p q n hE] at hput
 have hpl := pos_le (skc x y p q) L
 have hbase : base ≤ w.heap.size := by have := h.1; have := h.lt; omega
 have HT := hid h
 obtain ⟨a, c, hv⟩ := h.2.2.2.2.1.len
 have HP := hid hput
 have HCn := hid (fun W => (canonS_any x y hx hy p q W).mono fun e w' hh => (⟨hh.1, hh.2.old⟩ : _ ∧ Old W w'))
 rw [hE] at HCn
 clear ht hput hE HT1
 generalize pos (skc x y p q) L = k at *
 have HIns := hid (fun (W : World) (m : Nat) (u : Old w W) (hm' : W.heap[m]? = some (.cells (itc ⟨Fl.csU x y p q, Fl.csV x y p q, false, false, n⟩).toArray 156 (0, 0))) (hmg : w.heap.size ≤ m) => insert_any base v L k ⟨Fl.csU x y p q, Fl.csV x y p q, false, false, n⟩ m W hL hpl (h.2.2.2.2.1.old u) hm' (fun e => by have := (h.2.2.2.2.1.lt _ e).2; omega) (Nat.le_trans hbase u.size))
 have HFin := hid (fun (x' y' : World) (v' : Value) (u : Old w x') (o : Own base y' v' (L.take k ++ ⟨Fl.csU x y p q, Fl.csV x y p q, false, false, n⟩ :: L.drop k)) (cg : Chg v.ownBlock.toList x' y') (hn' : ∀ g, v'.ownBlock = some g → v.ownBlock = some g ∨ x'.heap.size ≤ g) => show y'.cell? ⟨b, 1, none⟩ = some v ∧ y'.frozen? ⟨b, 1, none⟩ = false ∧ PutPost base b most v 0 (putL ⟨Fl.csU x y p q, Fl.csV x y p q, false, false, n⟩ L) w (.returned (.int .i64 0)) (y'.setCell ⟨b, 1, none⟩ v') from by
  have tx := h.old u
  have hb : b ∉ v.ownBlock.toList := fun e => h.2.2.2.2.2 (by simpa [Option.mem_toList] using e)
  obtain ⟨s1, s2⟩ := tx.store cg o hn'
  refine ⟨cg.cell tx.2.2.1 hb, cg.keepF tx.2.2.1 tx.2.2.2.1 hb, ?_⟩
  rw [HP.out]
  exact ⟨v', rfl, s1, (Chg.ofOld u).trans s2, fun k hk => by rcases hn' k hk with q | q; exact .inl q; exact .inr (Nat.le_trans u.size q)⟩)
 have HOwn := hid (fun g (e : v.ownBlock = some g) => (h.2.2.2.2.1.lt g e).2)
 have hblt := h.lt
 subst hv
 clear h hG
 generalize hN : L.length = N at *
 go_enter Tryz.func92, Tryz.ntmps92
 go_upto_region 1 with fail
 generalize w.alloc (.cells #[.float .f64 x, .float .f64 y, .bool p, .bool q] 74) = w1 at *
 obtain ⟨s0, s1, s2, s3⟩ := HSp.out
 go_upto_region 9 with (first | (go_at_call 118; refine HF.out.mono ?_; rintro e w3 ⟨rfl, u3⟩; have U3 := hid (hV.out.trans u3); have SP3 := hid (SpAt.old u3 HSp.out); obtain ⟨r0, r1, r2, r3⟩ := SP3.out; clear u3) | (go_at_call 73; refine (HEm.out _).mono ?_; rintro e w4 ⟨rfl, u4⟩; have U4 := hid (U3.out.trans u4); have SP4 := hid (SpAt.old u4 SP3.out); clear u4))
 obtain ⟨tb, t0, hv, tf, tw, tn⟩ := HT.out.old U4.out
 clear tw tn tf tb s0 s1 s2 s3 r0 r1 r2 r3
 have hle : decide ((most : Int) ≤ (N : Int)) = false := by simpa using hm
 go_quiet (fail)
 have U6 := hid (U4.out.drewN nq)
 have SP6 := hid (SpAt.old ((Old.refl w4).drewN nq) SP4.out)
 have hv6 : (w4.drewN nq).cell? ⟨b, 1, none⟩ = some (.slice a N c) := hv
 generalize w4.drewN nq = w6 at *
 generalize hsb : w.heap.size = sb at *
 have hsbb : sb ≠ b := by omega
 have HSpC := hid (fun (x' y' : World) (u : Old w6 x') (cg : Chg (Value.slice a N c).ownBlock.toList x' y') => show SpAt sb x y p q y' from by
  have t := SpAt.old u SP6.out
  have hn : sb ∉ (Value.slice a N c).ownBlock.toList := fun e => by have := HOwn.out sb (by simpa [Option.mem_toList] using e); omega
  exact ⟨cg.cell t.1 hn, cg.cell t.2.1 hn, cg.cell t.2.2.1 hn, cg.cell t.2.2.2 hn⟩)
 clear hv t0 U3 U4 HT HF HP SP3 SP4 hle
 rw [← hsb] at HIns
 go_upto_region 2 with fail
 focus
  refine wp_region_noPanic ?_
  refine wp_region_held_drew (S := SpAt sb x y p q) (by kernel_rfl) ?_ (fun hHeld => ?_)
  ·exact SpAt.old ((Old.refl w6).drew) SP6.out
  try simp only [Act.put, puA, puB, puC]
  clear hHeld
  all_goals
   refine atA [false, false, false, false, false, false, false, false, false, false, false, false, false, false, false] ?_
   refine tkA (i := 0) (oi := oTyh18) (SpAt.old ((Old.refl w6).drew) SP6.out) ?_
   try simp only [Act.put, puA, puB, puC]
   refine tkA (i := 1) (oi := oTyh19) (SpAt.old ((Old.refl w6).drew) SP6.out) ?_
   try simp only [Act.put, puA, puB, puC]
   refine tkA (i := 2) (oi := oTyh20) (SpAt.old ((Old.refl w6).drew) SP6.out) ?_
   try simp only [Act.put, puA, puB, puC]
   refine tkA (i := 3) (oi := oTyh21) (SpAt.old ((Old.refl w6).drew) SP6.out) ?_
   try simp only [Act.put, puA, puB, puC]
   refine tkA (i := 5) (oi := oTyh22) (SpAt.old ((Old.refl w6).drew) SP6.out) ?_
   try simp only [Act.put, puA, puB, puC]
   refine tkA (i := 6) (oi := oTyh23) (SpAt.old ((Old.refl w6).drew) SP6.out) ?_
   try simp only [Act.put, puA, puB, puC]
   refine tkA (i := 8) (oi := oTyh24) (SpAt.old ((Old.refl w6).drew) SP6.out) ?_
   try simp only [Act.put, puA, puB, puC]
   refine rdA [4, 7] ?_
   refine AllReadyH.cons (o := oTyh25) rfl (fun K hK => ?_) (AllReadyH.cons (o := oTyh26) rfl (fun K hK => ?_) AllReadyH.nil)
   refine stepLoadS ?_ (.tmp 18) ?_ b 1 a N c ?_ (((Old.refl w6).drew).keep hv6) ?_
   iterate 3 rfl
   refine hK.out _ _ (SpAt.old ((Old.refl w6).drew) SP6.out) (fun _ => ?_)
   clear hK K
   try simp only [Act.put, puA, puB, puC]
   rotate_left
   refine stepCall1 ?_ 101 (.tmp 21) #[74] ?_ (.agg #[.float .f64 x, .float .f64 y, .bool p, .bool q]) ?_ ?_ (ent_canonP _ _) ?_
   iterate 4 rfl
   refine (HCn.out _).mono ?_
   rintro e y300n ⟨rfl, b300n⟩
   refine ⟨_, rfl, ?_⟩
   have U300n : Old w6 y300n := ((Old.refl w6).drew).trans b300n
   refine hK.out _ _ (SpAt.old U300n SP6.out) (fun _ => ?_)
   clear hK K
   try simp only [Act.put, puA, puB, puC]
   have UU_300 := U300n
   obtain ⟨yw_300, rfl⟩ : ∃ z, z = y300n := ⟨_, rfl⟩
   rotate_left
  all_goals first
   |refine atA [true, true, true, true, true, true, true, false, true, false, false, false, false, false, false] ?_
    refine rdA [7] ?_
    refine AllReadyH.cons (o := oTyh26) rfl (fun K hK => ?_) AllReadyH.nil
    refine stepCall1 ?_ 101 (.tmp 21) #[74] ?_ (.agg #[.float .f64 x, .float .f64 y, .bool p, .bool q]) ?_ ?_ (ent_canonP _ _) ?_
    iterate 4 rfl
    refine (HCn.out _).mono ?_
    rintro e y300n ⟨rfl, b300n⟩
    refine ⟨_, rfl, ?_⟩
    have U300n : Old w6 y300n := ((Old.refl w6).drew).trans b300n
    refine hK.out _ _ (SpAt.old U300n SP6.out) (fun _ => ?_)
    clear hK K
    try simp only [Act.put, puA, puB, puC]
    have UU_300 := U300n
    obtain ⟨yw_300, rfl⟩ : ∃ z, z = y300n := ⟨_, rfl⟩
   |refine atA [true, true, true, true, false, true, true, true, true, false, false, false, false, false, false] ?_
    refine tkA (i := 9) (oi := oTyh27) (SpAt.old UU_300 SP6.out) ?_
    try simp only [Act.put, puA, puB, puC]
    refine rdA [4, 10] ?_
    refine AllReadyH.cons (o := oTyh25) rfl (fun K hK => ?_) (AllReadyH.cons (o := oTyh28) rfl (fun K hK => ?_) AllReadyH.nil)
    refine stepLoadS ?_ (.tmp 18) ?_ b 1 a N c ?_ (UU_300.keep hv6) ?_
    iterate 3 rfl
    refine hK.out _ _ (SpAt.old UU_300 SP6.out) (fun _ => ?_)
    clear hK K
    try simp only [Act.put, puA, puB, puC]
    rotate_left
    refine stepBuildI ?_ (.tmp 24) ?_ ⟨Fl.csU x y p q, Fl.csV x y p q, false, false, n⟩ ?_ ?_
    iterate 3 rfl
    intro m300n x300n hm300n hx300n
    have HX300n := hid (newRow yw_300 m300n x300n ⟨Fl.csU x y p q, Fl.csV x y p q, false, false, n⟩ hm300n hx300n)
    clear hm300n hx300n
    have U300n : Old w6 x300n := UU_300.trans HX300n.out.1
    have M300n : w6.heap.size ≤ m300n := Nat.le_trans UU_300.size HX300n.out.2.2
    refine hK.out _ _ (SpAt.old U300n SP6.out) (fun _ => ?_)
    clear hK K
    try simp only [Act.put, puA, puB, puC]
    have HXH_300 := HX300n
    have MM_300 := M300n
    have UU_300 := U300n
    obtain ⟨mm_300, rfl⟩ : ∃ z, z = m300n := ⟨_, rfl⟩
    obtain ⟨xx_300, rfl⟩ : ∃ z, z = x300n := ⟨_, rfl⟩
    rotate_left
  all_goals first
   |refine atA [true, true, true, true, true, true, true, true, true, false, false, false, false, false, false] ?_
    refine tkA (i := 9) (oi := oTyh27) (SpAt.old UU_300 SP6.out) ?_
    try simp only [Act.put, puA, puB, puC]
    refine rdA [10] ?_
    refine AllReadyH.cons (o := oTyh28) rfl (fun K hK => ?_) AllReadyH.nil
    refine stepBuildI ?_ (.tmp 24) ?_ ⟨Fl.csU x y p q, Fl.csV x y p q, false, false, n⟩ ?_ ?_
    iterate 3 rfl
    intro m300n x300n hm300n hx300n
    have HX300n := hid (newRow yw_300 m300n x300n ⟨Fl.csU x y p q, Fl.csV x y p q, false, false, n⟩ hm300n hx300n)
    clear hm300n hx300n
    have U300n : Old w6 x300n := UU_300.trans HX300n.out.1
    have M300n : w6.heap.size ≤ m300n := Nat.le_trans UU_300.size HX300n.out.2.2
    refine hK.out _ _ (SpAt.old U300n SP6.out) (fun _ => ?_)
    clear hK K
    try simp only [Act.put, puA, puB, puC]
    have HXH_300 := HX300n
    have MM_300 := M300n
    have UU_300 := U300n
    obtain ⟨mm_300, rfl⟩ : ∃ z, z = m300n := ⟨_, rfl⟩
    obtain ⟨xx_300, rfl⟩ : ∃ z, z = x300n := ⟨_, rfl⟩
   |refine atA [true, true, true, true, true, true, true, true, true, true, false, false, false, false, false] ?_
    refine rdA [10] ?_
    refine AllReadyH.cons (o := oTyh28) rfl (fun K hK => ?_) AllReadyH.nil
    refine stepBuildI ?_ (.tmp 24) ?_ ⟨Fl.csU x y p q, Fl.csV x y p q, false, false, n⟩ ?_ ?_
    iterate 3 rfl
    intro m300n x300n hm300n hx300n
    have HX300n := hid (newRow yw_300 m300n x300n ⟨Fl.csU x y p q, Fl.csV x y p q, false, false, n⟩ hm300n hx300n)
    clear hm300n hx300n
    have U300n : Old w6 x300n := UU_300.trans HX300n.out.1
    have M300n : w6.heap.size ≤ m300n := Nat.le_trans UU_300.size HX300n.out.2.2
    refine hK.out _ _ (SpAt.old U300n SP6.out) (fun _ => ?_)
    clear hK K
    try simp only [Act.put, puA, puB, puC]
    have HXH_300 := HX300n
    have MM_300 := M300n
    have UU_300 := U300n
    obtain ⟨mm_300, rfl⟩ : ∃ z, z = m300n := ⟨_, rfl⟩
    obtain ⟨xx_300, rfl⟩ : ∃ z, z = x300n := ⟨_, rfl⟩
   |refine atA [true, true, true, true, false, true, true, true, true, true, true, false, false, false, false] ?_
    refine rdA [4] ?_
    refine AllReadyH.cons (o := oTyh25) rfl (fun K hK => ?_) AllReadyH.nil
    refine stepLoadS ?_ (.tmp 18) ?_ b 1 a N c ?_ (UU_300.keep hv6) ?_
    iterate 3 rfl
    refine hK.out _ _ (SpAt.old UU_300 SP6.out) (fun _ => ?_)
    clear hK K
    try simp only [Act.put, puA, puB, puC]
  all_goals
   refine atA [true, true, true, true, true, true, true, true, true, true, true, false, false, false, false] ?_
   refine rdA [11] ?_
   refine AllReadyH.cons (o := oTyh29) rfl (fun K hK => ?_) AllReadyH.nil
   refine stepCall3 ?_ 119 (.tmp 19) (.tmp 20) (.tmp 25) #[124, 3, 124] ?_ (.slice a N c) (.int .i64 (k : Nat)) (.slice (some ⟨mm_300, 0, none⟩) 1 1) ?_ ?_ ?_ ?_ (ent_ins _ _) ?_
   iterate 6 rfl
   refine (HIns.out xx_300 mm_300 (U6.out.trans UU_300) HXH_300.out.2.1 (Nat.le_trans U6.out.size MM_300)).mono ?_
   rintro e y300n ⟨v300n, rfl, o300n, c300n, n300n⟩
   obtain ⟨a300n, k300n, hv300n⟩ := o300n.len
   subst hv300n
   have ST300n := hid (HFin.out xx_300 y300n _ (U6.out.trans UU_300) o300n c300n n300n)
   have q300n := ST300n.out.1
   have r300n := ST300n.out.2.1
   have sp300n : SpAt sb x y p q y300n := HSpC.out xx_300 y300n UU_300 c300n
   refine ⟨_, rfl, ?_⟩
   refine hK.out _ _ sp300n (fun _ => ?_)
   clear hK K
   try simp only [Act.put, puA, puB, puC]
   have spsp_300 := sp300n
  all_goals
   refine atA [true, true, true, true, true, true, true, true, true, true, true, true, false, false, false] ?_
   refine tkA (i := 12) (oi := oTyh30) spsp_300 ?_
   try simp only [Act.put, puA, puB, puC]
   refine tkA (i := 13) (oi := oTyh31) spsp_300 ?_
   try simp only [Act.put, puA, puB, puC]
   refine rdA [14] ?_
   refine AllReadyH.cons (o := oTyh32) rfl (fun K hK => ?_) AllReadyH.nil
   refine stepStoreS ?_ (.tmp 28) (.tmp 26) ?_ b 1 a300n (L.take k ++ ⟨Fl.csU x y p q, Fl.csV x y p q, false, false, n⟩ :: L.drop k).length k300n ?_ ?_ q300n r300n ?_
   iterate 4 rfl
   refine hK.out _ _ (SpAt.farC hsbb sp300n 1 _) (fun _ => ?_)
   clear hK K
   try simp only [Act.put, puA, puB, puC]
   have spsp_300 := sp300n
  all_goals
   refine atA [true, true, true, true, true, true, true, true, true, true, true, true, true, true, true] ?_
   refine wpAnyH_done (by kernel_rfl) ?_ _
   refine NoPanic.normal ?_
   go_wp2
   exact bodyPost_ret (v := .int .i64 0) (by simp [results, Tryz.results92, go_sem]) rfl ST300n.out.2.2
def putR (x y : Nat) (p q : Bool) (n most : Int) (L : List It) : Int × List It := if Fl.csE x y p q = true then (41, L) else if n < 1 ∨ 1099511627776 < n then (43, L) else if there (skc x y p q) L = true then (0, putL ⟨Fl.csU x y p q, Fl.csV x y p q, false, false, n⟩ L) else if most ≤ (L.length : Int) then (3, L) else (0, putL ⟨Fl.csU x y p q, Fl.csV x y p q, false, false, n⟩ L)
theorem put_any (base b : Nat) (most n : Int) (v : Value) (L : List It) (x y : Nat) (p q : Bool) (hx : Fl.W x) (hy : Fl.W y) (w : World) (h : TabAt base w b most v L) (hG : Good L) (hL : L.length ≤ 1000000) :
    Calls Tryz.prog 92 #[.pointer (some ⟨b, 0, none⟩), .agg #[.float .f64 x, .float .f64 y, .bool p, .bool q], .int .i64 n] w fun e w' => PutPost base b most v (putR x y p q n most L).1 (putR x y p q n most L).2 w e w' := by
 unfold putR
 by_cases hn : Fl.csE x y p q = true
 ·rw [if_pos hn]; exact put_empty base b most n v L x y p q hx hy w h hG hL hn
 ·rw [if_neg hn]
  have hn2 : Fl.csE x y p q = false := by simpa using hn
  by_cases hb : n < 1 ∨ 1099511627776 < n
  ·rw [if_pos hb]; exact put_num base b most n v L x y p q hx hy w h hG hL hn2 hb
  ·rw [if_neg hb]
   have b1 : ¬ n < 1 := fun e => hb (.inl e)
   have b2 : ¬ 1099511627776 < n := fun e => hb (.inr e)
   by_cases ht : there (skc x y p q) L = true
   ·rw [if_pos ht]; exact put_there base b most n v L x y p q hx hy w h hG hL hn2 b1 b2 ht
   ·rw [if_neg ht]
    have ht2 : there (skc x y p q) L = false := by simpa using ht
    by_cases hm : most ≤ (L.length : Int)
    ·rw [if_pos hm]; exact put_full base b most n v L x y p q hx hy w h hG hL hn2 b1 b2 ht2 hm
    ·rw [if_neg hm]; exact put_new base b most n v L x y p q hx hy w h hG hL hn2 b1 b2 ht2 (by omega)
end Go.Proofs.YtgeinnaljlajoaaGreat.Py
