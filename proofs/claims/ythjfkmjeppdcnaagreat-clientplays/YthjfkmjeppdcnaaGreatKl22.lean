/- The document's Add of layer 21; conditions: its client lies in memory, the submission lies in old memory. -/
import Derived.Test.YthjfkmjeppdcnaaGreatSqa
import Derived.Test.YthjfkmjeppdcnaaGreatKl21
namespace Go.Proofs.YthjfkmjeppdcnaaGreat
abbrev oKl220 : Oper := { dst := some 60, op := .move (.tmp 9), type := 53, pos := "ref.go:62", after := #[], guard := none }
abbrev oKl221 : Oper := { dst := some 61, op := .fieldAddr 33 (.tmp 3) 1, type := 0, pos := "ref.go:62", after := #[], guard := none }
abbrev oKl222 : Oper := { dst := some 62, op := .load 2 (.tmp 61), type := 2, pos := "ref.go:62", after := #[⟨1, .data⟩], guard := none }
abbrev oKl223 : Oper := { dst := some 63, op := .load 33 (.tmp 7), type := 33, pos := "ref.go:62", after := #[], guard := none }
abbrev oKl224 : Oper := { dst := some 64, op := .call { callee := Callee.value (.func 30), args := #[.tmp 63], argTypes := #[33] }, type := 34, pos := "ref.go:62", after := #[⟨3, .data⟩], guard := none }
abbrev oKl225 : Oper := { dst := some 65, op := .build 63 #[(0, .tmp 62), (1, .tmp 64)], type := 63, pos := "ref.go:62", after := #[⟨2, .data⟩, ⟨4, .data⟩], guard := none }
abbrev oKl226 : Oper := { dst := some 66, op := .buildSlice 53 1 #[(0, .tmp 65)], type := 53, pos := "ref.go:62", after := #[⟨5, .data⟩], guard := none }
abbrev oKl227 : Oper := { dst := some 67, op := .call { callee := Callee.builtin Builtin.append, args := #[.tmp 60, .tmp 66], argTypes := #[53, 53] }, type := 53, pos := "ref.go:62", after := #[⟨0, .data⟩, ⟨6, .data⟩, ⟨4, .chain⟩], guard := none }
abbrev oKl228 : Oper := { dst := some 68, op := .fieldAddr 56 (.tmp 2) 4, type := 0, pos := "ref.go:62", after := #[⟨0, .phase⟩, ⟨1, .phase⟩, ⟨2, .phase⟩, ⟨3, .phase⟩, ⟨4, .phase⟩, ⟨5, .phase⟩, ⟨6, .phase⟩, ⟨7, .phase⟩], guard := none }
abbrev oKl229 : Oper := { dst := none, op := .store 53 (.tmp 68) (.tmp 67), type := 0, pos := "ref.go:62", after := #[⟨8, .data⟩, ⟨7, .data⟩, ⟨7, .chain⟩, ⟨0, .phase⟩, ⟨1, .phase⟩, ⟨2, .phase⟩, ⟨3, .phase⟩, ⟨4, .phase⟩, ⟨5, .phase⟩, ⟨6, .phase⟩, ⟨7, .phase⟩], guard := none }
abbrev oKl2210 : Oper := { dst := some 72, op := .load 56 (.tmp 2), type := 56, pos := "ref.go:64", after := #[], guard := none }
abbrev oKl2211 : Oper := { dst := some 73, op := .fieldAddr 33 (.tmp 3) 1, type := 0, pos := "ref.go:64", after := #[⟨3, .gcOnly Departure.lateStores⟩], guard := none }
abbrev oKl2212 : Oper := { dst := some 74, op := .load 2 (.tmp 73), type := 2, pos := "ref.go:64", after := #[⟨1, .data⟩, ⟨3, .gcOnly Departure.lateStores⟩], guard := none }
abbrev oKl2213 : Oper := { dst := none, op := .store 56 (.tmp 4) (.tmp 72), type := 0, pos := "ref.go:64", after := #[⟨0, .data⟩, ⟨0, .phase⟩, ⟨1, .textOnly Departure.lateStores⟩, ⟨2, .textOnly Departure.lateStores⟩], guard := none }
abbrev oKl2214 : Oper := { dst := some 5, op := .assign (.tmp 74), type := 2, pos := "ref.go:64", after := #[⟨2, .data⟩, ⟨3, .chain⟩, ⟨0, .phase⟩, ⟨1, .phase⟩, ⟨2, .phase⟩, ⟨3, .phase⟩], guard := none }
abbrev oKl2215 : Oper := { dst := some 6, op := .assign (.const (.int IntKind.i64 0)), type := 3, pos := "ref.go:64", after := #[⟨4, .chain⟩, ⟨0, .phase⟩, ⟨1, .phase⟩, ⟨2, .phase⟩, ⟨3, .phase⟩, ⟨4, .phase⟩], guard := none }
open Go.RowKit Go.Lib
set_option linter.unusedVariables false
set_option linter.unusedSimpArgs false
set_option maxRecDepth 20000
attribute [local go_sem] run_bits run_frombits run_store_float eqF
theorem take_oneD (L : List Dt) (j : Nat) (h : j < L.length) : L.take (j + 1) = L.take j ++ [L[j]] := by
 rw [List.take_succ_eq_append_getElem h]
set_option maxHeartbeats 400000 in
theorem stepLdN' {ops : Array Oper} {o : Oper} {a : Act} {w : World} {K : Act → World → Prop} {Q : Exit → Act → World → Prop} {E : Prop} (hg : o.guard = none) (x : Operand) (hop : o.op = Op.load 2 x) (b j : Nat) (v : Int)
    (hx : a.eval x = .pointer (some ⟨b, j, none⟩)) (hc : w.cell? ⟨b, j, none⟩ = some (.int .i64 v)) (hK : K (a.put o.dst (.int .i64 v)) w) :
    if Region.wanted o (yielded ops a.tmps) = true then Oper.wp Tryz.prog o a w K Q else E := by
 have hw : Region.wanted o (yielded ops a.tmps) = true := by simp [Region.wanted, hg]
 rw [if_pos hw]
 obtain ⟨d, p', t, ps, af, gd⟩ := o
 subst hop
 unfold Oper.wp execOp
 simp only [hx]
 go_simp
 exact hK
set_option maxHeartbeats 400000 in
theorem stepBuildD {ops : Array Oper} {o : Oper} {a : Act} {w : World} {K : Act → World → Prop} {Q : Exit → Act → World → Prop} {E : Prop} (hg : o.guard = none) (x : Operand) (hop : o.op = Op.buildSlice 53 1 #[(0, x)]) (q : Int) (p : Option Addr) (n c : Nat)
    (hx : a.eval x = .agg #[.int .i64 q, .slice p n c])
    (hK : ∀ m w', m = w.heap.size → w' = w.alloc (.cells #[.int .i64 q, .slice p n c] 63) → K (a.put o.dst (.slice (some ⟨m, 0, none⟩) 1 1)) w') :
    if Region.wanted o (yielded ops a.tmps) = true then Oper.wp Tryz.prog o a w K Q else E := by
 have hw : Region.wanted o (yielded ops a.tmps) = true := by simp [Region.wanted, hg]
 rw [if_pos hw]
 obtain ⟨d, p', t, ps, af, gd⟩ := o
 subst hop
 unfold Oper.wp execOp
 simp only [List.map_toArray, List.map_cons, List.map_nil, hx]
 go_simp
 exact hK _ _ rfl rfl
set_option maxHeartbeats 400000 in
theorem stepStD {ops : Array Oper} {o : Oper} {a : Act} {w : World} {K : Act → World → Prop} {Q : Exit → Act → World → Prop} {E : Prop} (hg : o.guard = none) (x y : Operand) (hop : o.op = Op.store 53 x y) (b j : Nat) (p : Option Addr) (n c : Nat) (u : Value)
    (hx : a.eval x = .pointer (some ⟨b, j, none⟩)) (hy : a.eval y = .slice p n c) (hc : w.cell? ⟨b, j, none⟩ = some u) (hf : w.frozen? ⟨b, j, none⟩ = false)
    (hK : K (a.put o.dst undef) (w.setCell ⟨b, j, none⟩ (.slice p n c))) :
    if Region.wanted o (yielded ops a.tmps) = true then Oper.wp Tryz.prog o a w K Q else E := by
 have hw : Region.wanted o (yielded ops a.tmps) = true := by simp [Region.wanted, hg]
 rw [if_pos hw]
 obtain ⟨d, p', t, ps, af, gd⟩ := o
 subst hop
 unfold Oper.wp execOp
 simp only [hx, hy]
 go_simp
 exact hK
theorem step_appD {ops : Array Oper} {o : Oper} {a : Act} {w : World} {K : Act → World → Prop} {Q : Exit → Act → World → Prop} {E : Prop} (hgd : o.guard = none) (s x : Operand)
    (ho : o.op = .call { callee := .builtin .append, args := #[s, x], argTypes := #[53, 53] }) (base : Nat) (v : Value) (L : List Dt) (g : Nat) (d : Dt)
    (hs : a.eval s = v) (hx : a.eval x = .slice (some ⟨g, 0, none⟩) 1 1) (hown : OwnD base w v L) (hc : w.heap[g]? = some (.cells #[.int .i64 d.q, .slice d.a d.n d.c] 63 (0, 0))) (hb : L.length ≤ 1048576) (hbase : base ≤ w.heap.size)
    (h : ∀ v' w', OwnD base w' v' (L ++ [d]) → w.grownBy w' v.ownBlock → (v'.ownBlock = v.ownBlock ∨ v'.ownBlock = some w.heap.size) → K (a.put o.dst v') w') :
    if Region.wanted o (yielded ops a.tmps) = true then Oper.wp Tryz.prog o a w K Q else E :=
 Ci.step_lift1 hgd (wp_appD hgd s x ho base v L g d hs hx hown hc hb hbase fun v' w' h1 h2 h3 => by
  unfold wpList
  exact ⟨rfl, h v' w' h1 h2 h3⟩)
abbrev S13 (sb : Nat) (la : Int) (xb : Nat) (s3 : Int) (p1 p2 p3 : Option Addr) (m1 m2 m3 q1 q2 q3 : Nat) (ss : Int) (w : World) : Prop := w.cell? ⟨sb, 1, none⟩ = some (.int .i64 (la + 1)) ∧ w.cell? ⟨xb, 0, none⟩ = some (.int .i64 ss) ∧ w.cell? ⟨xb, 1, none⟩ = some (.int .i64 (la + 1)) ∧ w.cell? ⟨xb, 2, none⟩ = some (.int .i64 s3) ∧ w.cell? ⟨xb, 3, none⟩ = some (.slice p1 m1 q1) ∧ w.cell? ⟨xb, 4, none⟩ = some (.slice p2 m2 q2) ∧ w.cell? ⟨xb, 5, none⟩ = some (.slice p3 m3 q3)
theorem s13 {sb : Nat} {la : Int} {xb : Nat} {s3 : Int} {p1 p2 p3 : Option Addr} {m1 m2 m3 q1 q2 q3 : Nat} {ss : Int} {w : World} {u0 u2 u3 u4 u5 : Value} (h : w.heap[sb]? = some (.cells #[u0, .int .i64 (la + 1), u2, u3, u4, u5] 33 (0, 0))) (k : w.heap[xb]? = some (.cells #[.int .i64 ss, .int .i64 (la + 1), .int .i64 s3, .slice p1 m1 q1, .slice p2 m2 q2, .slice p3 m3 q3] 33 (0, 0))) : S13 sb la xb s3 p1 p2 p3 m1 m2 m3 q1 q2 q3 ss w := by
 obtain ⟨⟨a0, a1, a2, a3, a4, a5⟩, -⟩ := box6 k
 exact ⟨(box6 h).1.2.1, a0, a1, a2, a3, a4, a5⟩
abbrev S15 (cb sb : Nat) (la ss tg : Int) (ma pa ra : Option Addr) (mn pn rn mc pc rc : Nat) (w : World) : Prop := w.cell? ⟨cb, 0, none⟩ = some (.int .i64 ss) ∧ w.cell? ⟨cb, 1, none⟩ = some (.int .i64 (la + 1)) ∧ w.cell? ⟨cb, 2, none⟩ = some (.slice ma mn mc) ∧ w.cell? ⟨cb, 3, none⟩ = some (.int .i64 tg) ∧ w.cell? ⟨cb, 4, none⟩ = some (.slice pa pn pc) ∧ w.cell? ⟨cb, 5, none⟩ = some (.slice ra rn rc) ∧ w.cell? ⟨sb, 1, none⟩ = some (.int .i64 (la + 1))
theorem s15 {cb sb : Nat} {la ss tg : Int} {ma pa ra : Option Addr} {mn pn rn mc pc rc : Nat} {w : World} {u0 u2 u3 u4 u5 : Value} (h : w.heap[cb]? = some (.cells #[.int .i64 ss, .int .i64 (la + 1), .slice ma mn mc, .int .i64 tg, .slice pa pn pc, .slice ra rn rc] 56 (0, 0))) (k : w.heap[sb]? = some (.cells #[u0, .int .i64 (la + 1), u2, u3, u4, u5] 33 (0, 0))) : S15 cb sb la ss tg ma pa ra mn pn rn mc pc rc w := by
 obtain ⟨⟨a0, a1, a2, a3, a4, a5⟩, -⟩ := box6 h
 exact ⟨a0, a1, a2, a3, a4, a5, (box6 k).1.2.1⟩
theorem own_low {base b2 : Nat} {w : World} {v : Value} {L : List Dt} (h : OwnD base w v L) (hb : b2 ≤ base) : OwnD b2 w v L := by
 refine ⟨h.1, ?_⟩
 rcases h.2 with e | ⟨g, cap, cur, e, hb', r⟩
 ·exact .inl e
 ·exact .inr ⟨g, cap, cur, e, Nat.le_trans hb hb', r⟩
theorem infoClT : (Tryz.prog.info? 56).map (·.size) = some 6 := by kernel_rfl
set_option maxHeartbeats 400000 in
theorem stepStCl {ops : Array Oper} {o : Oper} {a : Act} {w : World} {K : Act → World → Prop} {Q : Exit → Act → World → Prop} {E : Prop} (hg : o.guard = none) (x y : Operand) (hop : o.op = Op.store 56 x y) (m : Nat) (r1 r2 r3 : Int) (a1 a2 a3 : Option Addr) (n1 n2 n3 c1 c2 c3 : Nat) (u0 u1 u2 u3 u4 u5 : Value)
    (hx : a.eval x = .pointer (some ⟨m, 0, none⟩)) (hy : a.eval y = .agg #[.int .i64 r1, .int .i64 r2, .slice a1 n1 c1, .int .i64 r3, .slice a2 n2 c2, .slice a3 n3 c3]) (hc : w.heap[m]? = some (.cells #[u0, u1, u2, u3, u4, u5] 56 (0, 0)))
    (hK : K (a.put o.dst undef) (w.setCells m 0 [.int .i64 r1, .int .i64 r2, .slice a1 n1 c1, .int .i64 r3, .slice a2 n2 c2, .slice a3 n3 c3])) :
    if Region.wanted o (yielded ops a.tmps) = true then Oper.wp Tryz.prog o a w K Q else E := by
 have hw : Region.wanted o (yielded ops a.tmps) = true := by simp [Region.wanted, hg]
 rw [if_pos hw]
 have ht : w.there m 0 6 := by
  obtain ⟨⟨z0, z1, z2, z3, z4, z5⟩, zf⟩ := box6 hc
  intro j hj
  refine ⟨?_, by rw [Nat.zero_add]; exact zf j⟩
  rw [Nat.zero_add]
  match j, hj with
  | 0, _ => rw [z0]; rfl
  | 1, _ => rw [z1]; rfl
  | 2, _ => rw [z2]; rfl
  | 3, _ => rw [z3]; rfl
  | 4, _ => rw [z4]; rfl
  | 5, _ => rw [z5]; rfl
 exact wp_store_mid _ x y hop m 0 _ hx hy ht infoClT (by simp [Value.oneCell']) hK
theorem three_new (w : World) (A B C : Obj) : ((((w.alloc A).alloc B).alloc C).heap[w.heap.size]? = some A) ∧ ((((w.alloc A).alloc B).alloc C).heap[w.heap.size + 1]? = some B) ∧ ((((w.alloc A).alloc B).alloc C).heap[w.heap.size + 1 + 1]? = some C) ∧ Old w (((w.alloc A).alloc B).alloc C) ∧ (((w.alloc A).alloc B).alloc C).heap.size = w.heap.size + 1 + 1 + 1 := by
 have e1 : (w.alloc A).heap.size = w.heap.size + 1 := by simp
 have e2 : ((w.alloc A).alloc B).heap.size = w.heap.size + 1 + 1 := by simp
 refine ⟨(((Old.refl _).alloc B).alloc C).block (alloc_at w A), ?_, ?_, (((Old.refl w).alloc A).alloc B).alloc C, by simp⟩
 ·rw [← e1]; exact ((Old.refl _).alloc C).block (alloc_at _ B)
 ·rw [← e2]; exact alloc_at _ C
def dlo : List Dt → Int
 | [] => 0
 | d :: _ => d.q
def ySb (ss la : Int) (x : Sb) : Sb := { x with s1 := ss, s2 := la + 1 }
def raK (ss la : Int) (D : List Dt) (x : Sb) : Int := if 0 < D.length ∧ 8 ≤ la + 1 - dlo D then 3 else canK (ySb ss la x)
set_option maxHeartbeats 8000000 in
theorem rAdd_any (ss la tg : Int) (base : Nat) (ma oa ra : Option Addr) (mn on rn mc oc rc : Nat) (D : List Dt) (x : Sb) (w : World) (hD : OwnD base w (.slice oa on oc) D) (hn : on = D.length) (h8 : on ≤ 8) (hla : 0 ≤ la ∧ la ≤ 1099511627776) (hlo : 0 < D.length → 1 ≤ dlo D ∧ dlo D ≤ la) (hx : x.Ok w) :
    Calls Tryz.prog 16 #[.agg #[.int .i64 ss, .int .i64 la, .slice ma mn mc, .int .i64 tg, .slice oa on oc, .slice ra rn rc], .agg #[.int .i64 x.s1, .int .i64 x.s2, .int .i64 x.s3, .slice x.a1 x.n1 x.c1, .slice x.a2 x.n2 x.c2, .slice x.a3 x.n3 x.c3]] w fun e w' =>
     (raK ss la D x ≠ 0 ∧ e = .returned (.tuple #[.agg #[.int .i64 ss, .int .i64 la, .slice ma mn mc, .int .i64 tg, .slice oa on oc, .slice ra rn rc], .int .i64 0, .int .i64 (raK ss la D x)]) ∧ Old w w') ∨
     (raK ss la D x = 0 ∧ ∃ ov d, e = .returned (.tuple #[.agg #[.int .i64 ss, .int .i64 (la + 1), .slice ma mn mc, .int .i64 tg, ov, .slice ra rn rc], .int .i64 (la + 1), .int .i64 0]) ∧ OwnD w.heap.size w' ov (D ++ [d]) ∧ d.q = la + 1 ∧ d.B = (mkC (ySb ss la x) none none none 0 0 0).enc ∧ (∃ b, w.heap.size ≤ b ∧ Pk.OwnL b w' d.v d.B) ∧ Old w w') := by
 have HX := hid hx
 have HD := hid hD
 have HN := hid hn
 have HK := hid (show raK ss la D x = if 0 < D.length ∧ 8 ≤ la + 1 - dlo D then 3 else canK (ySb ss la x) from rfl)
 have w0 : IntKind.i64.wrap (la + 1) = la + 1 := IntWalk.i64_in _ (by omega)
 have h3 : on = 0 ∨ (∃ g, oa = some ⟨g, 0, none⟩ ∧ 0 < on ∧ w.cell? ⟨g, 0, none⟩ = some (.int .i64 (dlo D)) ∧ 1 ≤ dlo D ∧ dlo D ≤ la) := by
  by_cases h : on = 0
  ·exact .inl h
  ·obtain ⟨g, cap, e, c0, -⟩ := hD.at 0 (by omega)
   simp only [Value.slice.injEq] at e
   obtain ⟨rfl, -, -⟩ := e
   have hl := hlo (by omega)
   refine .inr ⟨g, rfl, by omega, ?_, hl⟩
   cases D with
   | nil => simp at hn; omega
   | cons d t => simpa [dlo] using c0
 clear hn hD hx hlo
 go_enter Tryz.func16, Tryz.ntmps16
 go_upto_region 1 with fail
 have F0 := hid (three_new w (.cells #[.int .i64 ss, .int .i64 la, .slice ma mn mc, .int .i64 tg, .slice oa on oc, .slice ra rn rc] 56) (.cells #[.int .i64 x.s1, .int .i64 x.s2, .int .i64 x.s3, .slice x.a1 x.n1 x.c1, .slice x.a2 x.n2 x.c2, .slice x.a3 x.n3 x.c3] 33) (.cells #[.int .i64 0, .int .i64 0, .slice none 0 0, .int .i64 0, .slice none 0 0, .slice none 0 0] 56))
 generalize ((w.alloc (.cells #[.int .i64 ss, .int .i64 la, .slice ma mn mc, .int .i64 tg, .slice oa on oc, .slice ra rn rc] 56)).alloc (.cells #[.int .i64 x.s1, .int .i64 x.s2, .int .i64 x.s3, .slice x.a1 x.n1 x.c1, .slice x.a2 x.n2 x.c2, .slice x.a3 x.n3 x.c3] 33)).alloc (.cells #[.int .i64 0, .int .i64 0, .slice none 0 0, .int .i64 0, .slice none 0 0, .slice none 0 0] 56) = w3 at *
 obtain ⟨sb, hsb⟩ : ∃ sb, w.heap.size + 1 = sb := ⟨_, rfl⟩
 rw [hsb] at F0 ⊢
 obtain ⟨rb, hrb⟩ : ∃ rb, sb + 1 = rb := ⟨_, rfl⟩
 rw [hrb] at F0 ⊢
 obtain ⟨cb, hcb⟩ : ∃ cb, w.heap.size = cb := ⟨_, rfl⟩
 rw [hcb] at F0 ⊢
 have HSz := hid (show w.heap.size = cb ∧ cb + 1 = sb ∧ sb + 1 = rb ∧ w3.heap.size = rb + 1 from ⟨hcb, by omega, hrb, F0.out.2.2.2.2⟩)
 clear hsb hrb hcb
 obtain ⟨⟨y0, y1, y2, y3, y4, y5⟩, yf⟩ := box6 F0.out.1
 rcases h3 with h0 | ⟨g, e0, hpos, hc, hl1, hl2⟩
 ·have HB := hid (show raK ss la D x = canK (ySb ss la x) from by rw [HK.out, if_neg (fun q => by have := HN.out; omega)])
  have d0 : decide ((on : Int) > 0) = false := decide_eq_false (by omega)
  have d0b : decide ((0 : Int) < (on : Int)) = false := decide_eq_false (by omega)
  have d0c : ¬ 0 < on := by omega
  clear HK h0
  go_quiet (fail)
  clear d0 d0b d0c
  have G := hid (show (w3.drewN nq).heap[cb]? = some (.cells #[.int .i64 ss, .int .i64 la, .slice ma mn mc, .int .i64 tg, .slice oa on oc, .slice ra rn rc] 56 (0, 0)) ∧ (w3.drewN nq).heap[sb]? = some (.cells #[.int .i64 x.s1, .int .i64 x.s2, .int .i64 x.s3, .slice x.a1 x.n1 x.c1, .slice x.a2 x.n2 x.c2, .slice x.a3 x.n3 x.c3] 33 (0, 0)) ∧ (w3.drewN nq).heap[rb]? = some (.cells #[.int .i64 0, .int .i64 0, .slice none 0 0, .int .i64 0, .slice none 0 0, .slice none 0 0] 56 (0, 0)) ∧ Old w (w3.drewN nq) from ⟨((Old.refl w3).drewN nq).block F0.out.1, ((Old.refl w3).drewN nq).block F0.out.2.1, ((Old.refl w3).drewN nq).block F0.out.2.2.1, F0.out.2.2.2.1.drewN nq⟩)
  clear y0 y1 y2 y3 y4 y5 yf F0
  generalize w3.drewN nq = w4 at *
  obtain ⟨⟨y0, y1, y2, y3, y4, y5⟩, -⟩ := box6 G.out.1
  obtain ⟨⟨z0, z1, z2, z3, z4, z5⟩, zf⟩ := box6 G.out.2.1
  have f0 := zf 0
  have f1 := zf 1
  have hsc : ¬ sb = cb := by have := HSz.out; omega
  have hsc2 : ¬ cb = sb := by have := HSz.out; omega
  go_upto_region 5 with fail
  have C5 := hid (show Chg [sb] w4 ((w4.setCell ⟨sb, 0, none⟩ (.int .i64 ss)).setCell ⟨sb, 1, none⟩ (.int .i64 (la + 1))) from ((Chg.set w4 ⟨sb, 0, none⟩ _ (by simp)).trans (Chg.set _ ⟨sb, 1, none⟩ _ (by simp))))
  have G5 := hid (show ((w4.setCell ⟨sb, 0, none⟩ (.int .i64 ss)).setCell ⟨sb, 1, none⟩ (.int .i64 (la + 1))).heap[cb]? = some (.cells #[.int .i64 ss, .int .i64 la, .slice ma mn mc, .int .i64 tg, .slice oa on oc, .slice ra rn rc] 56 (0, 0)) ∧ ((w4.setCell ⟨sb, 0, none⟩ (.int .i64 ss)).setCell ⟨sb, 1, none⟩ (.int .i64 (la + 1))).heap[sb]? = some (.cells #[.int .i64 ss, .int .i64 (la + 1), .int .i64 x.s3, .slice x.a1 x.n1 x.c1, .slice x.a2 x.n2 x.c2, .slice x.a3 x.n3 x.c3] 33 (0, 0)) ∧ ((w4.setCell ⟨sb, 0, none⟩ (.int .i64 ss)).setCell ⟨sb, 1, none⟩ (.int .i64 (la + 1))).heap[rb]? = some (.cells #[.int .i64 0, .int .i64 0, .slice none 0 0, .int .i64 0, .slice none 0 0, .slice none 0 0] 56 (0, 0)) ∧ Old w ((w4.setCell ⟨sb, 0, none⟩ (.int .i64 ss)).setCell ⟨sb, 1, none⟩ (.int .i64 (la + 1))) from ⟨C5.out.heapAt G.out.1 (by simp; exact hsc2), (Go.Joins.block_setCell (Go.Joins.block_setCell G.out.2.1 (.int .i64 ss) (i := 0)) (.int .i64 (la + 1)) (i := 1)), C5.out.heapAt G.out.2.2.1 (by simp; have := HSz.out; omega), G.out.2.2.2.below (C5.out.below w.heap.size (fun k q => by simp at q; have := HSz.out; omega) G.out.2.2.2.size)⟩)
  clear y0 y1 y2 y3 y4 y5 z0 z1 z2 z3 z4 z5 zf f0 f1 hsc hsc2 G C5
  generalize ((w4.setCell ⟨sb, 0, none⟩ (.int .i64 ss)).setCell ⟨sb, 1, none⟩ (.int .i64 (la + 1))) = w5 at *
  obtain ⟨kk, hkk⟩ : ∃ kk, canK (ySb ss la x) = kk := ⟨_, rfl⟩
  rw [hkk] at HB
  have HOk := hid (show (ySb ss la x).Ok w5 from by have k := HX.out.old G5.out.2.2.2; exact ⟨k.h1, k.h2, k.h3, k.b1, k.b2, k.b3⟩)
  obtain ⟨⟨z0, z1, z2, z3, z4, z5⟩, -⟩ := box6 G5.out.2.1
  by_cases hz : kk = 0
  ·have HC := hid (show Calls Tryz.prog 29 #[.agg #[.int .i64 ss, .int .i64 (la + 1), .int .i64 x.s3, .slice x.a1 x.n1 x.c1, .slice x.a2 x.n2 x.c2, .slice x.a3 x.n3 x.c3]] w5 fun e w' => ∃ p1 p2 p3 q1 q2 q3 m1 m2 m3, e = .returned (.tuple #[.agg #[.int .i64 ss, .int .i64 (la + 1), .int .i64 x.s3, .slice p1 m1 q1, .slice p2 m2 q2, .slice p3 m3 q3], .int .i64 0]) ∧ (∀ W, Old w' W → Calls Tryz.prog 30 #[.agg #[.int .i64 ss, .int .i64 (la + 1), .int .i64 x.s3, .slice p1 m1 q1, .slice p2 m2 q2, .slice p3 m3 q3]] W fun e W' => ∃ a c, e = .returned (.slice a (mkC (ySb ss la x) none none none 0 0 0).enc.length c) ∧ Pk.OwnL W.heap.size W' (.slice a (mkC (ySb ss la x) none none none 0 0 0).enc.length c) (mkC (ySb ss la x) none none none 0 0 0).enc ∧ Old W W') ∧ Old w5 w' from by
     refine (rcanonO_ok (ySb ss la x) w5 HOk.out (hkk.trans hz)).mono ?_
     rintro e w' ⟨p1, p2, p3, q1, q2, q3, rfl, o, u⟩
     exact ⟨p1, p2, p3, q1, q2, q3, _, _, _, rfl, fun W U => rbytesO (mkC (ySb ss la x) p1 p2 p3 q1 q2 q3) W (o.old U) (mk_chk (ySb ss la x) HOk.out.ws' (hkk.trans hz) _ _ _ _ _ _), u⟩)
   have HE0 := hid (show raK ss la D x = 0 from by rw [HB.out, hz])
   subst hz
   clear HB hkk HOk
   go_upto_region 6 with (go_at_call 29; refine HC.out.mono ?_; rintro e w6 ⟨p1, p2, p3, q1, q2, q3, m1, m2, m3, rfl, by6, u6⟩; have HBy := hid by6; have U6 := hid u6; clear by6 u6)
   clear z0 z1 z2 z3 z4 z5 HC
   have G7 := hid (show ((w6.alloc (.cells #[.int .i64 ss, .int .i64 (la + 1), .int .i64 x.s3, .slice p1 m1 q1, .slice p2 m2 q2, .slice p3 m3 q3] 33)).heap[cb]? = some (.cells #[.int .i64 ss, .int .i64 la, .slice ma mn mc, .int .i64 tg, .slice oa on oc, .slice ra rn rc] 56 (0, 0)) ∧ (w6.alloc (.cells #[.int .i64 ss, .int .i64 (la + 1), .int .i64 x.s3, .slice p1 m1 q1, .slice p2 m2 q2, .slice p3 m3 q3] 33)).heap[sb]? = some (.cells #[.int .i64 ss, .int .i64 (la + 1), .int .i64 x.s3, .slice x.a1 x.n1 x.c1, .slice x.a2 x.n2 x.c2, .slice x.a3 x.n3 x.c3] 33 (0, 0)) ∧ (w6.alloc (.cells #[.int .i64 ss, .int .i64 (la + 1), .int .i64 x.s3, .slice p1 m1 q1, .slice p2 m2 q2, .slice p3 m3 q3] 33)).heap[rb]? = some (.cells #[.int .i64 0, .int .i64 0, .slice none 0 0, .int .i64 0, .slice none 0 0, .slice none 0 0] 56 (0, 0)) ∧ Old w (w6.alloc (.cells #[.int .i64 ss, .int .i64 (la + 1), .int .i64 x.s3, .slice p1 m1 q1, .slice p2 m2 q2, .slice p3 m3 q3] 33))) ∧ (w6.alloc (.cells #[.int .i64 ss, .int .i64 (la + 1), .int .i64 x.s3, .slice p1 m1 q1, .slice p2 m2 q2, .slice p3 m3 q3] 33)).heap[w6.heap.size]? = some (.cells #[.int .i64 ss, .int .i64 (la + 1), .int .i64 x.s3, .slice p1 m1 q1, .slice p2 m2 q2, .slice p3 m3 q3] 33 (0, 0)) from ⟨⟨(U6.out.trans ((Old.refl w6).alloc _)).block G5.out.1, (U6.out.trans ((Old.refl w6).alloc _)).block G5.out.2.1, (U6.out.trans ((Old.refl w6).alloc _)).block G5.out.2.2.1, G5.out.2.2.2.trans (U6.out.trans ((Old.refl w6).alloc _))⟩, alloc_at w6 _⟩)
   have HBy7 := hid (fun (W : World) (u : Old (w6.alloc (.cells #[.int .i64 ss, .int .i64 (la + 1), .int .i64 x.s3, .slice p1 m1 q1, .slice p2 m2 q2, .slice p3 m3 q3] 33)) W) => HBy.out W (((Old.refl w6).alloc _).trans u))
   have HXb := hid (show rb < w6.heap.size from Nat.lt_of_lt_of_le (heap_lt G5.out.2.2.1) U6.out.size)
   clear G5 U6 HBy
   generalize w6.alloc (.cells #[.int .i64 ss, .int .i64 (la + 1), .int .i64 x.s3, .slice p1 m1 q1, .slice p2 m2 q2, .slice p3 m3 q3] 33) = w7 at *
   generalize w6.heap.size = xb at *
   obtain ⟨ne, hne⟩ : ∃ ne, (mkC (ySb ss la x) none none none 0 0 0).enc.length = ne := ⟨_, rfl⟩
   obtain ⟨EE, hEE⟩ : ∃ EE, (mkC (ySb ss la x) none none none 0 0 0).enc = EE := ⟨_, rfl⟩
   rw [hne, hEE] at HBy7
   have HEE := hid hEE
   clear hne hEE
   go_upto_region 9 with fail
   have HE8 := hid (show OwnD w7.heap.size (w7.alloc (.cells #[] 63)) (.slice (some ⟨w7.heap.size, 0, none⟩) 0 0) (D.take 0) ∧ Old w7 (w7.alloc (.cells #[] 63)) from ⟨OwnD.empty (Nat.le_refl _) rfl, (Old.refl w7).alloc _⟩)
   generalize w7.alloc (.cells #[] 63) = w8 at *
   obtain ⟨r8, hr8⟩ : ∃ r8, w7.heap.size = r8 := ⟨_, rfl⟩
   have HR8 := hid hr8
   rw [hr8] at HE8 ⊢
   clear hr8
   go_wp2
   go_loopw [9, 10] (fun ov iv wx => ∃ k : Nat, k ≤ on ∧ iv = .int .i64 (k : Nat) ∧ Hid (OwnD r8 wx ov (D.take k) ∧ Old w7 wx)) (fun _ i _ => on - (intOf i).toNat)
   case atStart => exact ⟨0, Nat.zero_le _, rfl, HE8⟩
   case round =>
    clear HE8
    obtain ⟨k, hk, rfl, HI⟩ := hrel
    obtain ⟨va, vc, hvv⟩ := HI.out.1.len
    have hlk : (D.take k).length = k := by rw [List.length_take]; have := HN.out; omega
    rw [hlk] at hvv
    subst hvv
    have HOD := hid HI.out.1
    have U8 := hid HI.out.2
    clear HI hlk
    by_cases hlt : k < on
    ·have hkD : k < D.length := by rw [← HN.out]; exact hlt
     obtain ⟨g9, cap9, e9, i0, i1⟩ := HD.out.at k hkD
     simp only [Value.slice.injEq] at e9
     have HTk := hid (take_oneD D k hkD)
     generalize D[k] = d at *
     obtain ⟨dq, da, dn, dc, dB⟩ := d
     dsimp only at i0 i1
     have j0 := (G7.out.1.2.2.2.trans U8.out).keep i0
     have j1 := (G7.out.1.2.2.2.trans U8.out).keep i1
     have he9 : oa = some ⟨g9, 0, none⟩ := e9.1
     obtain ⟨⟨y0, y1, y2, y3, y4, y5⟩, -⟩ := box6 (U8.out.block G7.out.1.1)
     rw [he9] at y4
     have l1' : (0 : Int) ≤ (k : Int) := by omega
     have l2' : (k : Int) < (on : Int) := by omega
     have O9 := hid (show OwnD r8 (wr.alloc (.cells #[.int .i64 dq, .slice da dn dc] 63)) (.slice va k vc) (D.take k) from own_old HOD.out ((Old.refl wr).alloc _))
     have U9 := hid (U8.out.trans ((Old.refl wr).alloc (.cells #[.int .i64 dq, .slice da dn dc] 63)))
     have hal := alloc_at wr (.cells #[.int .i64 dq, .slice da dn dc] 63)
     clear i0 i1 e9 he9 hkD
     go_wp2_with (at_builtin; refine wp_appD rfl _ _ rfl r8 (.slice va k vc) (D.take k) wr.heap.size ⟨dq, da, dn, dc, dB⟩ rfl rfl O9.out hal (by rw [List.length_take]; omega) (by rw [← HR8.out]; exact U9.out.size) ?_; intro v' wA h1 h2 h3; have OA := hid h1; have UA := hid (Old.below U9.out (Below.grown (Below.refl _ _) h2 U9.out.size (fun g e => by rw [HR8.out]; exact (World.ownsRow.lt O9.out g e).1))); clear h1 h2 h3)
     go_roundw
     case rel => exact ⟨k + 1, by omega, by go_num, hid ⟨by rw [HTk.out]; exact OA.out, UA.out⟩⟩
     case measure => simp [intOf]; omega
    ·have hko : k = on := by omega
     subst hko
     have R9 := hid (show OwnD r8 wr (.slice va k vc) D from by have := HOD.out; rw [List.take_of_length_le (by rw [← HN.out]; exact Nat.le_refl _)] at this; exact this)
     clear hlt hk HOD
     have GW := hid (show (wr.drew.heap[cb]? = some (.cells #[.int .i64 ss, .int .i64 la, .slice ma mn mc, .int .i64 tg, .slice oa k oc, .slice ra rn rc] 56 (0, 0)) ∧ wr.drew.heap[sb]? = some (.cells #[.int .i64 ss, .int .i64 (la + 1), .int .i64 x.s3, .slice x.a1 x.n1 x.c1, .slice x.a2 x.n2 x.c2, .slice x.a3 x.n3 x.c3] 33 (0, 0)) ∧ wr.drew.heap[rb]? = some (.cells #[.int .i64 0, .int .i64 0, .slice none 0 0, .int .i64 0, .slice none 0 0, .slice none 0 0] 56 (0, 0)) ∧ wr.drew.heap[xb]? = some (.cells #[.int .i64 ss, .int .i64 (la + 1), .int .i64 x.s3, .slice p1 m1 q1, .slice p2 m2 q2, .slice p3 m3 q3] 33 (0, 0))) ∧ Old w7 wr.drew ∧ OwnD r8 wr.drew (.slice va k vc) D from ⟨⟨(U8.out.drew).block G7.out.1.1, (U8.out.drew).block G7.out.1.2.1, (U8.out.drew).block G7.out.1.2.2.1, (U8.out.drew).block G7.out.2⟩, U8.out.drew, own_old R9.out ((Old.refl wr).drew)⟩)
     have HOw := hid (show Old w wr.drew from G7.out.1.2.2.2.trans U8.out.drew)
     have HBz := hid (show cb < r8 ∧ sb < r8 ∧ rb < r8 ∧ xb < r8 from by have := HR8.out; exact ⟨this ▸ heap_lt G7.out.1.1, this ▸ heap_lt G7.out.1.2.1, this ▸ heap_lt G7.out.1.2.2.1, this ▸ heap_lt G7.out.2⟩)
     have HRn := hid (show ∀ z, (Value.slice va k vc).ownBlock = some z → r8 ≤ z ∧ z < wr.drew.heap.size from fun z e => World.ownsRow.lt GW.out.2.2 z e)
     have hD8 := HN.out
     have HD8 := hid hD8
     clear hD8
     have S0 := hid (show S13 sb la xb x.s3 p1 p2 p3 m1 m2 m3 q1 q2 q3 ss wr.drew from s13 GW.out.1.2.1 GW.out.1.2.2.2)
     obtain ⟨⟨y0, y1, y2, y3, y4, y5⟩, -⟩ := box6 (U8.out.block G7.out.1.1)
     clear G7 U8 R9
     go_upto_region 13 with fail
     clear y0 y1 y2 y3 y4 y5
     focus
      refine wp_region_noPanic ?_
      refine wp_region_held_drew (S := S13 sb la xb x.s3 p1 p2 p3 m1 m2 m3 q1 q2 q3 ss) (by kernel_rfl) ?_ (fun hHeld => ?_)
      ·exact S0.out
      try simp only [Act.put, puA, puB, puC]
      clear hHeld
      all_goals
       refine atA [false, false, false, false, false, false, false, false, false, false] ?_
       refine tkA (i := 0) (oi := oKl220) (s13 ((Old.refl wr.drew).block GW.out.1.2.1) ((Old.refl wr.drew).block GW.out.1.2.2.2)) ?_
       try simp only [Act.put, puA, puB, puC]
       refine tkA (i := 1) (oi := oKl221) (s13 ((Old.refl wr.drew).block GW.out.1.2.1) ((Old.refl wr.drew).block GW.out.1.2.2.2)) ?_
       try simp only [Act.put, puA, puB, puC]
       refine tkA (i := 2) (oi := oKl222) (s13 ((Old.refl wr.drew).block GW.out.1.2.1) ((Old.refl wr.drew).block GW.out.1.2.2.2)) ?_
       try simp only [Act.put, puA, puB, puC]
       refine tkA (i := 3) (oi := oKl223) (s13 ((Old.refl wr.drew).block GW.out.1.2.1) ((Old.refl wr.drew).block GW.out.1.2.2.2)) ?_
       try simp only [Act.put, puA, puB, puC]
       refine rdA [4] ?_
       refine AllReadyH.cons (o := oKl224) rfl (fun K hK => ?_) AllReadyH.nil
       refine stepCall1 ?_ 30 (.tmp 63) #[33] ?_ (.agg #[.int .i64 ss, .int .i64 (la + 1), .int .i64 x.s3, .slice p1 m1 q1, .slice p2 m2 q2, .slice p3 m3 q3]) ?_ ?_ ((enters_of Tryz.func30 (by kernel_rfl) rfl) _ _) ?_
       iterate 4 rfl
       refine (HBy7.out _ (GW.out.2.1.trans (Old.refl wr.drew))).mono ?_
       rintro o x200n ⟨p200n, d200n, rfl, h200n, u200n⟩
       refine ⟨_, rfl, ?_⟩
       have U200n := (Old.refl wr.drew).trans u200n
       have L200n := fun z e => Nat.le_trans (Old.refl wr.drew).size (OwnL.lt' h200n z e).1
       refine hK.out _ _ (s13 (U200n.block GW.out.1.2.1) (U200n.block GW.out.1.2.2.2)) (fun _ => ?_)
       clear hK K
       try simp only [Act.put, puA, puB, puC]
       have LL_200 := L200n
       have UU_200 := U200n
       obtain ⟨dd_200, rfl⟩ : ∃ z, z = d200n := ⟨_, rfl⟩
       have hh_200 := h200n
       obtain ⟨pp_200, rfl⟩ : ∃ z, z = p200n := ⟨_, rfl⟩
       obtain ⟨xw_200, rfl⟩ : ∃ z, z = x200n := ⟨_, rfl⟩
      all_goals
       refine atA [true, true, true, true, true, false, false, false, false, false] ?_
       refine tkA (i := 5) (oi := oKl225) (s13 (UU_200.block GW.out.1.2.1) (UU_200.block GW.out.1.2.2.2)) ?_
       try simp only [Act.put, puA, puB, puC]
       refine rdA [6] ?_
       refine AllReadyH.cons (o := oKl226) rfl (fun K hK => ?_) AllReadyH.nil
       refine stepBuildD ?_ (.tmp 65) ?_ (la + 1) pp_200 ne dd_200 ?_ ?_
       iterate 3 rfl
       rintro m200n x200n hb200n rfl
       have N200n := hb200n ▸ alloc_at xw_200 (.cells #[.int .i64 (la + 1), .slice pp_200 ne dd_200] 63)
       have U200n := UU_200.alloc (.cells #[.int .i64 (la + 1), .slice pp_200 ne dd_200] 63)
       have h200n := OwnL.old' hh_200 ((Old.refl xw_200).alloc (.cells #[.int .i64 (la + 1), .slice pp_200 ne dd_200] 63))
       clear hb200n
       obtain ⟨y200n, hy200n⟩ : ∃ y, xw_200.alloc (.cells #[.int .i64 (la + 1), .slice pp_200 ne dd_200] 63) = y := ⟨_, rfl⟩
       rw [hy200n] at N200n U200n h200n ⊢
       clear hy200n
       refine hK.out _ _ (s13 (U200n.block GW.out.1.2.1) (U200n.block GW.out.1.2.2.2)) (fun _ => ?_)
       clear hK K
       try simp only [Act.put, puA, puB, puC]
       have NN_200 := N200n
       have UU_200 := U200n
       have hh_200 := h200n
       obtain ⟨mm_200, rfl⟩ : ∃ z, z = m200n := ⟨_, rfl⟩
       obtain ⟨yw_200, rfl⟩ : ∃ z, z = y200n := ⟨_, rfl⟩
      all_goals
       refine atA [true, true, true, true, true, true, true, false, false, false] ?_
       refine rdA [7] ?_
       refine AllReadyH.cons (o := oKl227) rfl (fun K hK => ?_) AllReadyH.nil
       refine step_appD ?_ (.tmp 60) (.tmp 66) ?_ r8 (.slice va k vc) D mm_200 (⟨la + 1, pp_200, ne, dd_200, EE⟩ : Dt) ?_ ?_ (own_old GW.out.2.2 UU_200) NN_200 (by have := HD8.out; omega) (Nat.le_trans (by have := HR8.out; have := GW.out.2.1.size; omega) UU_200.size) ?_
       iterate 4 rfl
       intro v200n x200n h200n g200n n200n
       obtain ⟨p200n, d200n, hv200n⟩ := OwnD.len h200n
       obtain ⟨t200n, hnl200n⟩ : ∃ nl, (D ++ [(⟨la + 1, pp_200, ne, dd_200, EE⟩ : Dt)]).length = nl := ⟨_, rfl⟩
       rw [hnl200n] at hv200n
       rw [hv200n] at h200n
       clear hnl200n
       have C200n := Chg.grownB g200n
       have A200n := C200n.heapAt (UU_200.block GW.out.1.1) (by have := HBz.out; simp only [Option.mem_toList]; intro z; have := (HRn.out _ z).1; omega)
       have B200n := C200n.heapAt (UU_200.block GW.out.1.2.1) (by have := HBz.out; simp only [Option.mem_toList]; intro z; have := (HRn.out _ z).1; omega)
       have R200n := C200n.heapAt (UU_200.block GW.out.1.2.2.1) (by have := HBz.out; simp only [Option.mem_toList]; intro z; have := (HRn.out _ z).1; omega)
       have X200n := C200n.heapAt (UU_200.block GW.out.1.2.2.2) (by have := HBz.out; simp only [Option.mem_toList]; intro z; have := (HRn.out _ z).1; omega)
       have Y200n := OwnL.chg' hh_200 C200n (fun z e q => by simp only [Option.mem_toList] at q; have := LL_200 z e; have := (HRn.out z q).2; omega)
       have O200n : Old w x200n := Old.below (HOw.out.trans UU_200) (C200n.below w.heap.size (fun z q => by simp only [Option.mem_toList] at q; have := (HRn.out z q).1; have := HBz.out.1; have := HSz.out.1; omega) (HOw.out.trans UU_200).size)
       rw [hv200n]
       refine hK.out _ _ (s13 B200n X200n) (fun _ => ?_)
       clear hK K
       try simp only [Act.put, puA, puB, puC]
       have AA_200 := A200n
       have BB_200 := B200n
       have OO_200 := O200n
       have RR_200 := R200n
       have hV_200 := h200n
       have XX_200 := X200n
       have YY_200 := Y200n
       obtain ⟨ppa_200, rfl⟩ : ∃ z, z = p200n := ⟨_, rfl⟩
       obtain ⟨dpc_200, rfl⟩ : ∃ z, z = d200n := ⟨_, rfl⟩
       obtain ⟨tpn_200, rfl⟩ : ∃ z, z = t200n := ⟨_, rfl⟩
       obtain ⟨xw_200, rfl⟩ : ∃ z, z = x200n := ⟨_, rfl⟩
      all_goals
       refine atA [true, true, true, true, true, true, true, true, false, false] ?_
       refine tkA (i := 8) (oi := oKl228) (s13 BB_200 XX_200) ?_
       try simp only [Act.put, puA, puB, puC]
       refine rdA [9] ?_
       refine AllReadyH.cons (o := oKl229) rfl (fun K hK => ?_) AllReadyH.nil
       refine stepStD ?_ (.tmp 68) (.tmp 67) ?_ cb 4 ppa_200 tpn_200 dpc_200 _ ?_ ?_ (box6 AA_200).1.2.2.2.2.1 ((box6 AA_200).2 4) ?_
       iterate 4 rfl
       have C200n : Chg [cb] xw_200 (xw_200.setCell ⟨cb, 4, none⟩ (.slice ppa_200 tpn_200 dpc_200)) := Chg.set xw_200 ⟨cb, 4, none⟩ _ (by simp)
       have A200n := Go.Joins.block_setCell AA_200 (.slice ppa_200 tpn_200 dpc_200) (i := 4)
       have B200n := C200n.heapAt BB_200 (by simp; have := HSz.out; have := HXb.out; omega)
       have R200n := C200n.heapAt RR_200 (by simp; have := HSz.out; have := HXb.out; omega)
       have X200n := C200n.heapAt XX_200 (by simp; have := HSz.out; have := HXb.out; omega)
       have Y200n := OwnL.chg' YY_200 C200n (fun z e q => by simp at q; have := LL_200 z e; have := HBz.out; have := GW.out.2.1.size; have := HR8.out; omega)
       have V200n := own_chg hV_200 C200n (fun z e q => by simp at q; have := (World.ownsRow.lt hV_200 z e).1; have := HBz.out; omega)
       have O200n := OO_200.below (C200n.below w.heap.size (fun z q => by simp at q; have := HSz.out; omega) OO_200.size)
       refine hK.out _ _ (s13 B200n X200n) (fun _ => ?_)
       clear hK K
       try simp only [Act.put, puA, puB, puC]
       have AA_200 := A200n
       have BB_200 := B200n
       have OO_200 := O200n
       have RR_200 := R200n
       have VV_200 := V200n
       have XX_200 := X200n
       have YY_200 := Y200n
      all_goals
       refine atA [true, true, true, true, true, true, true, true, true, true] ?_
       refine wpAnyH_done (by kernel_rfl) ?_ _
       refine NoPanic.normal ?_
       have A13 := hid (show (xw_200.setCell ⟨cb, 4, none⟩ (.slice ppa_200 tpn_200 dpc_200)).heap[cb]? = some (.cells #[.int .i64 ss, .int .i64 la, .slice ma mn mc, .int .i64 tg, .slice ppa_200 tpn_200 dpc_200, .slice ra rn rc] 56 (0, 0)) from AA_200)
       have B13 := hid (show (xw_200.setCell ⟨cb, 4, none⟩ (.slice ppa_200 tpn_200 dpc_200)).heap[sb]? = some (.cells #[.int .i64 ss, .int .i64 (la + 1), .int .i64 x.s3, .slice x.a1 x.n1 x.c1, .slice x.a2 x.n2 x.c2, .slice x.a3 x.n3 x.c3] 33 (0, 0)) from BB_200)
       have R13 := hid (show (xw_200.setCell ⟨cb, 4, none⟩ (.slice ppa_200 tpn_200 dpc_200)).heap[rb]? = some (.cells #[.int .i64 0, .int .i64 0, .slice none 0 0, .int .i64 0, .slice none 0 0, .slice none 0 0] 56 (0, 0)) from RR_200)
       have Y13 := hid YY_200
       have V13 := hid VV_200
       have O13 := hid OO_200
       have L13 := hid LL_200
       generalize (xw_200.setCell ⟨cb, 4, none⟩ (.slice ppa_200 tpn_200 dpc_200)) = w13 at *
       generalize ppa_200 = pa at *
       generalize tpn_200 = pn at *
       generalize dpc_200 = pc at *
       generalize pp_200 = ba at *
       generalize dd_200 = bc at *
     obtain ⟨⟨y0, y1, y2, y3, y4, y5⟩, yf⟩ := box6 A13.out
     obtain ⟨⟨z0, z1, z2, z3, z4, z5⟩, -⟩ := box6 B13.out
     have f1 := yf 1
     go_upto_region 15 with fail
     have C14 := hid (show Chg [cb] w13 (w13.setCell ⟨cb, 1, none⟩ (.int .i64 (la + 1))).drew from (Chg.set w13 ⟨cb, 1, none⟩ _ (by simp)).drew)
     have A14 := hid (show (w13.setCell ⟨cb, 1, none⟩ (.int .i64 (la + 1))).drew.heap[cb]? = some (.cells #[.int .i64 ss, .int .i64 (la + 1), .slice ma mn mc, .int .i64 tg, .slice pa pn pc, .slice ra rn rc] 56 (0, 0)) from Go.Joins.block_setCell A13.out (.int .i64 (la + 1)) (i := 1))
     have B14 := hid (C14.out.heapAt B13.out (by simp; have := HSz.out; omega))
     have R14 := hid (C14.out.heapAt R13.out (by simp; have := HSz.out; omega))
     have Y14 := hid (OwnL.chg' Y13.out C14.out (fun z e q => by simp at q; have := L13.out z e; have := HBz.out; have := GW.out.2.1.size; have := HR8.out; omega))
     have V14 := hid (own_chg V13.out C14.out (fun z e q => by simp at q; have := (World.ownsRow.lt V13.out z e).1; have := HBz.out; omega))
     have O14 := hid (O13.out.below (C14.out.below w.heap.size (fun z q => by simp at q; have := HSz.out; omega) O13.out.size))
     clear y0 y1 y2 y3 y4 y5 yf f1 z0 z1 z2 z3 z4 z5 A13 B13 R13 V13 O13 Y13 C14
     generalize w13.setCell ⟨cb, 1, none⟩ (.int .i64 (la + 1)) = w14 at *
     have S1 := hid (show S15 cb sb la ss tg ma pa ra mn pn rn mc pc rc w14.drew from s15 A14.out B14.out)
     focus
      refine wp_region_noPanic ?_
      refine wp_region_held_drew (S := S15 cb sb la ss tg ma pa ra mn pn rn mc pc rc) (by kernel_rfl) ?_ (fun hHeld => ?_)
      ·exact S1.out
      try simp only [Act.put, puA, puB, puC]
      clear hHeld
      all_goals
       refine atA [false, false, false, false, false, false] ?_
       refine tkA (i := 0) (oi := oKl2210) S1.out ?_
       try simp only [Act.put, puA, puB, puC]
       refine tkA (i := 1) (oi := oKl2211) S1.out ?_
       try simp only [Act.put, puA, puB, puC]
       refine tkA (i := 2) (oi := oKl2212) S1.out ?_
       try simp only [Act.put, puA, puB, puC]
       refine rdA [3] ?_
       refine AllReadyH.cons (o := oKl2213) rfl (fun K hK => ?_) AllReadyH.nil
       refine stepStCl ?_ (.tmp 4) (.tmp 72) ?_ rb ss (la + 1) tg ma pa ra mn pn rn mc pc rc _ _ _ _ _ _ ?_ ?_ R14.out ?_
       iterate 4 rfl
       have C100n : Chg [rb] w14.drew (w14.drew.setCells rb 0 [.int .i64 ss, .int .i64 (la + 1), .slice ma mn mc, .int .i64 tg, .slice pa pn pc, .slice ra rn rc]) := ((((((Chg.set (w14.drew) ⟨rb, 0, none⟩ (.int .i64 ss) (by simp)).trans (Chg.set ((w14.drew).setCell ⟨rb, 0, none⟩ (.int .i64 ss)) ⟨rb, 1, none⟩ (.int .i64 (la + 1)) (by simp))).trans (Chg.set (((w14.drew).setCell ⟨rb, 0, none⟩ (.int .i64 ss)).setCell ⟨rb, 1, none⟩ (.int .i64 (la + 1))) ⟨rb, 2, none⟩ (.slice ma mn mc) (by simp))).trans (Chg.set ((((w14.drew).setCell ⟨rb, 0, none⟩ (.int .i64 ss)).setCell ⟨rb, 1, none⟩ (.int .i64 (la + 1))).setCell ⟨rb, 2, none⟩ (.slice ma mn mc)) ⟨rb, 3, none⟩ (.int .i64 tg) (by simp))).trans (Chg.set (((((w14.drew).setCell ⟨rb, 0, none⟩ (.int .i64 ss)).setCell ⟨rb, 1, none⟩ (.int .i64 (la + 1))).setCell ⟨rb, 2, none⟩ (.slice ma mn mc)).setCell ⟨rb, 3, none⟩ (.int .i64 tg)) ⟨rb, 4, none⟩ (.slice pa pn pc) (by simp))).trans (Chg.set ((((((w14.drew).setCell ⟨rb, 0, none⟩ (.int .i64 ss)).setCell ⟨rb, 1, none⟩ (.int .i64 (la + 1))).setCell ⟨rb, 2, none⟩ (.slice ma mn mc)).setCell ⟨rb, 3, none⟩ (.int .i64 tg)).setCell ⟨rb, 4, none⟩ (.slice pa pn pc)) ⟨rb, 5, none⟩ (.slice ra rn rc) (by simp)))
       have A100n := C100n.heapAt A14.out (by simp; have := HSz.out; omega)
       have B100n := C100n.heapAt B14.out (by simp; have := HSz.out; omega)
       refine hK.out _ _ (s15 A100n B100n) (fun _ => ?_)
       clear hK K
       try simp only [Act.put, puA, puB, puC]
       have CC_100 := C100n
       have AS_100 := A100n
       have BS_100 := B100n
      all_goals
       refine atA [true, true, true, true, false, false] ?_
       refine tkA (i := 4) (oi := oKl2214) (s15 AS_100 BS_100) ?_
       try simp only [Act.put, puA, puB, puC]
       refine tkA (i := 5) (oi := oKl2215) (s15 AS_100 BS_100) ?_
       try simp only [Act.put, puA, puB, puC]
       refine wpAnyH_done (by kernel_rfl) ?_ _
       refine NoPanic.normal ?_
       have C15 := hid CC_100
       have R15 := hid (show (w14.drew.setCells rb 0 [.int .i64 ss, .int .i64 (la + 1), .slice ma mn mc, .int .i64 tg, .slice pa pn pc, .slice ra rn rc]).heap[rb]? = some (.cells #[.int .i64 ss, .int .i64 (la + 1), .slice ma mn mc, .int .i64 tg, .slice pa pn pc, .slice ra rn rc] 56 (0, 0)) from (Go.Joins.block_setCell (Go.Joins.block_setCell (Go.Joins.block_setCell (Go.Joins.block_setCell (Go.Joins.block_setCell (Go.Joins.block_setCell R14.out (.int .i64 ss) (i := 0)) (.int .i64 (la + 1)) (i := 1)) (.slice ma mn mc) (i := 2)) (.int .i64 tg) (i := 3)) (.slice pa pn pc) (i := 4)) (.slice ra rn rc) (i := 5)))
       generalize (w14.drew.setCells rb 0 [.int .i64 ss, .int .i64 (la + 1), .slice ma mn mc, .int .i64 tg, .slice pa pn pc, .slice ra rn rc]) = w15 at *
     obtain ⟨⟨y0, y1, y2, y3, y4, y5⟩, -⟩ := box6 R15.out
     go_wp2
     refine bodyPost_ret (v := .tuple #[.agg #[.int .i64 ss, .int .i64 (la + 1), .slice ma mn mc, .int .i64 tg, .slice pa pn pc, .slice ra rn rc], .int .i64 (la + 1), .int .i64 0]) (by simp [results, Tryz.results16, go_sem, y0, y1, y2, y3, y4, y5]) rfl ?_
     refine .inr ⟨HE0.out, _, ⟨la + 1, ba, ne, bc, EE⟩, rfl, ?_, rfl, HEE.out.symm, ⟨_, ?_, OwnL.chg' Y14.out C15.out ?_⟩, O14.out.below (C15.out.below w.heap.size (fun z q => by simp at q; have := HSz.out; omega) O14.out.size)⟩
     ·refine own_low (own_chg V14.out C15.out (fun z e q => by simp at q; have := (World.ownsRow.lt V14.out z e).1; have := HBz.out; omega)) (by have := HBz.out; have := HSz.out; omega)
     ·exact HOw.out.size
     ·exact fun z e q => by simp at q; have := L13.out z e; have := HBz.out; have := GW.out.2.1.size; have := HR8.out; omega
  ·have HC := hid ((rcanonO_no (ySb ss la x) w5 HOk.out (by rw [hkk]; exact hz)))
   rw [hkk] at HC
   have HRk := hid HB.out
   clear HB hkk HOk
   have hz2 := hz
   go_upto_region 6 with (go_at_call 29; refine HC.out.mono ?_; rintro e w6 ⟨rfl, u6⟩; have U6 := hid u6; clear u6)
   have G7 := hid (show (w6.alloc (.cells #[.int .i64 0, .int .i64 0, .int .i64 0, .slice none 0 0, .slice none 0 0, .slice none 0 0] 33)).heap[cb]? = some (.cells #[.int .i64 ss, .int .i64 la, .slice ma mn mc, .int .i64 tg, .slice oa on oc, .slice ra rn rc] 56 (0, 0)) ∧ (w6.alloc (.cells #[.int .i64 0, .int .i64 0, .int .i64 0, .slice none 0 0, .slice none 0 0, .slice none 0 0] 33)).heap[rb]? = some (.cells #[.int .i64 0, .int .i64 0, .slice none 0 0, .int .i64 0, .slice none 0 0, .slice none 0 0] 56 (0, 0)) ∧ Old w (w6.alloc (.cells #[.int .i64 0, .int .i64 0, .int .i64 0, .slice none 0 0, .slice none 0 0, .slice none 0 0] 33)) from ⟨(U6.out.trans ((Old.refl w6).alloc _)).block G5.out.1, (U6.out.trans ((Old.refl w6).alloc _)).block G5.out.2.2.1, G5.out.2.2.2.trans (U6.out.trans ((Old.refl w6).alloc _))⟩)
   clear z0 z1 z2 z3 z4 z5 HC G5 U6
   generalize w6.alloc (.cells #[.int .i64 0, .int .i64 0, .int .i64 0, .slice none 0 0, .slice none 0 0, .slice none 0 0] 33) = w7 at *
   generalize w6.heap.size = xb at *
   obtain ⟨⟨y0, y1, y2, y3, y4, y5⟩, -⟩ := box6 G7.out.1
   obtain ⟨⟨z0, z1, z2, z3, z4, z5⟩, zf⟩ := box6 G7.out.2.1
   have f0 := zf 0; have f1 := zf 1; have f2 := zf 2; have f3 := zf 3; have f4 := zf 4; have f5 := zf 5
   go_wp2
   have C8 := hid (show Chg [rb] w7 ((((((w7.setCell ⟨rb, 0, none⟩ (.int .i64 ss)).setCell ⟨rb, 1, none⟩ (.int .i64 la)).setCell ⟨rb, 2, none⟩ (.slice ma mn mc)).setCell ⟨rb, 3, none⟩ (.int .i64 tg)).setCell ⟨rb, 4, none⟩ (.slice oa on oc)).setCell ⟨rb, 5, none⟩ (.slice ra rn rc)) from ((((((Chg.set w7 ⟨rb, 0, none⟩ _ (by simp)).trans (Chg.set _ ⟨rb, 1, none⟩ _ (by simp))).trans (Chg.set _ ⟨rb, 2, none⟩ _ (by simp))).trans (Chg.set _ ⟨rb, 3, none⟩ _ (by simp))).trans (Chg.set _ ⟨rb, 4, none⟩ _ (by simp))).trans (Chg.set _ ⟨rb, 5, none⟩ _ (by simp))))
   have R8 := hid (show ((((((w7.setCell ⟨rb, 0, none⟩ (.int .i64 ss)).setCell ⟨rb, 1, none⟩ (.int .i64 la)).setCell ⟨rb, 2, none⟩ (.slice ma mn mc)).setCell ⟨rb, 3, none⟩ (.int .i64 tg)).setCell ⟨rb, 4, none⟩ (.slice oa on oc)).setCell ⟨rb, 5, none⟩ (.slice ra rn rc)).heap[rb]? = some (.cells #[.int .i64 ss, .int .i64 la, .slice ma mn mc, .int .i64 tg, .slice oa on oc, .slice ra rn rc] 56 (0, 0)) from (Go.Joins.block_setCell (Go.Joins.block_setCell (Go.Joins.block_setCell (Go.Joins.block_setCell (Go.Joins.block_setCell (Go.Joins.block_setCell G7.out.2.1 (.int .i64 ss) (i := 0)) (.int .i64 la) (i := 1)) (.slice ma mn mc) (i := 2)) (.int .i64 tg) (i := 3)) (.slice oa on oc) (i := 4)) (.slice ra rn rc) (i := 5)))
   have O8 := hid (G7.out.2.2.below (C8.out.below w.heap.size (fun k q => by simp at q; have := HSz.out; omega) G7.out.2.2.size))
   clear y0 y1 y2 y3 y4 y5 z0 z1 z2 z3 z4 z5 zf f0 f1 f2 f3 f4 f5 C8
   generalize ((((((w7.setCell ⟨rb, 0, none⟩ (.int .i64 ss)).setCell ⟨rb, 1, none⟩ (.int .i64 la)).setCell ⟨rb, 2, none⟩ (.slice ma mn mc)).setCell ⟨rb, 3, none⟩ (.int .i64 tg)).setCell ⟨rb, 4, none⟩ (.slice oa on oc)).setCell ⟨rb, 5, none⟩ (.slice ra rn rc)) = w8 at *
   obtain ⟨⟨y0, y1, y2, y3, y4, y5⟩, -⟩ := box6 R8.out
   refine bodyPost_ret (v := .tuple #[.agg #[.int .i64 ss, .int .i64 la, .slice ma mn mc, .int .i64 tg, .slice oa on oc, .slice ra rn rc], .int .i64 0, .int .i64 kk]) (by simp [results, Tryz.results16, go_sem, y0, y1, y2, y3, y4, y5]) rfl ?_
   exact .inl ⟨by rw [HRk.out]; exact hz, by rw [HRk.out], O8.out⟩
 ·have hc3 := F0.out.2.2.2.1.keep hc
  have y4x := y4
  rw [e0] at y4
  obtain ⟨lo, hlo⟩ : ∃ lo, dlo D = lo := ⟨_, rfl⟩
  rw [hlo] at hc3 hl1 hl2 HK
  have w1 : IntKind.i64.wrap (la + 1 - lo) = la + 1 - lo := IntWalk.i64_in _ (by omega)
  have p1 : (0 : Int) < (on : Int) := by omega
  have p2 : decide ((on : Int) > 0) = true := decide_eq_true (by omega)
  have p3 : decide ((0 : Int) < (on : Int)) = true := decide_eq_true (by omega)
  clear hc hlo e0
  by_cases hbg : 8 ≤ la + 1 - lo
  ·have HB := hid (show raK ss la D x = 3 from by rw [HK.out, if_pos ⟨by have := HN.out; omega, hbg⟩])
   clear HK
   have g1 : decide (la + 1 - lo ≥ 8) = true := decide_eq_true hbg
   have g2 : decide (8 ≤ la + 1 - lo) = true := decide_eq_true hbg
   go_quiet (fail)
   clear w1 p1 p2 p3 g1 g2 y4x hc3 hbg
   have G := hid (show (w3.drewN nq).heap[cb]? = some (.cells #[.int .i64 ss, .int .i64 la, .slice ma mn mc, .int .i64 tg, .slice oa on oc, .slice ra rn rc] 56 (0, 0)) ∧ (w3.drewN nq).heap[rb]? = some (.cells #[.int .i64 0, .int .i64 0, .slice none 0 0, .int .i64 0, .slice none 0 0, .slice none 0 0] 56 (0, 0)) ∧ Old w (w3.drewN nq) from ⟨((Old.refl w3).drewN nq).block F0.out.1, ((Old.refl w3).drewN nq).block F0.out.2.2.1, F0.out.2.2.2.1.drewN nq⟩)
   clear y0 y1 y2 y3 y4 y5 yf F0
   generalize w3.drewN nq = w4 at *
   obtain ⟨⟨y0, y1, y2, y3, y4, y5⟩, -⟩ := box6 G.out.1
   obtain ⟨⟨z0, z1, z2, z3, z4, z5⟩, zf⟩ := box6 G.out.2.1
   have f0 := zf 0; have f1 := zf 1; have f2 := zf 2; have f3 := zf 3; have f4 := zf 4; have f5 := zf 5
   go_wp2
   have C8 := hid (show Chg [rb] w4 ((((((w4.setCell ⟨rb, 0, none⟩ (.int .i64 ss)).setCell ⟨rb, 1, none⟩ (.int .i64 la)).setCell ⟨rb, 2, none⟩ (.slice ma mn mc)).setCell ⟨rb, 3, none⟩ (.int .i64 tg)).setCell ⟨rb, 4, none⟩ (.slice oa on oc)).setCell ⟨rb, 5, none⟩ (.slice ra rn rc)) from ((((((Chg.set w4 ⟨rb, 0, none⟩ _ (by simp)).trans (Chg.set _ ⟨rb, 1, none⟩ _ (by simp))).trans (Chg.set _ ⟨rb, 2, none⟩ _ (by simp))).trans (Chg.set _ ⟨rb, 3, none⟩ _ (by simp))).trans (Chg.set _ ⟨rb, 4, none⟩ _ (by simp))).trans (Chg.set _ ⟨rb, 5, none⟩ _ (by simp))))
   have R8 := hid (show ((((((w4.setCell ⟨rb, 0, none⟩ (.int .i64 ss)).setCell ⟨rb, 1, none⟩ (.int .i64 la)).setCell ⟨rb, 2, none⟩ (.slice ma mn mc)).setCell ⟨rb, 3, none⟩ (.int .i64 tg)).setCell ⟨rb, 4, none⟩ (.slice oa on oc)).setCell ⟨rb, 5, none⟩ (.slice ra rn rc)).heap[rb]? = some (.cells #[.int .i64 ss, .int .i64 la, .slice ma mn mc, .int .i64 tg, .slice oa on oc, .slice ra rn rc] 56 (0, 0)) from (Go.Joins.block_setCell (Go.Joins.block_setCell (Go.Joins.block_setCell (Go.Joins.block_setCell (Go.Joins.block_setCell (Go.Joins.block_setCell G.out.2.1 (.int .i64 ss) (i := 0)) (.int .i64 la) (i := 1)) (.slice ma mn mc) (i := 2)) (.int .i64 tg) (i := 3)) (.slice oa on oc) (i := 4)) (.slice ra rn rc) (i := 5)))
   have O8 := hid (G.out.2.2.below (C8.out.below w.heap.size (fun k q => by simp at q; have := HSz.out; omega) G.out.2.2.size))
   clear y0 y1 y2 y3 y4 y5 z0 z1 z2 z3 z4 z5 zf f0 f1 f2 f3 f4 f5 C8
   generalize ((((((w4.setCell ⟨rb, 0, none⟩ (.int .i64 ss)).setCell ⟨rb, 1, none⟩ (.int .i64 la)).setCell ⟨rb, 2, none⟩ (.slice ma mn mc)).setCell ⟨rb, 3, none⟩ (.int .i64 tg)).setCell ⟨rb, 4, none⟩ (.slice oa on oc)).setCell ⟨rb, 5, none⟩ (.slice ra rn rc)) = w8 at *
   obtain ⟨⟨y0, y1, y2, y3, y4, y5⟩, -⟩ := box6 R8.out
   refine bodyPost_ret (v := .tuple #[.agg #[.int .i64 ss, .int .i64 la, .slice ma mn mc, .int .i64 tg, .slice oa on oc, .slice ra rn rc], .int .i64 0, .int .i64 3]) (by simp [results, Tryz.results16, go_sem, y0, y1, y2, y3, y4, y5]) rfl ?_
   exact .inl ⟨by rw [HB.out]; exact (by decide), by rw [HB.out], O8.out⟩
  ·have HB := hid (show raK ss la D x = canK (ySb ss la x) from by rw [HK.out, if_neg (fun q => hbg q.2)])
   clear HK
   have g1 : decide (la + 1 - lo ≥ 8) = false := decide_eq_false (by omega)
   have g2 : decide (8 ≤ la + 1 - lo) = false := decide_eq_false (by omega)
   go_quiet (fail)
   clear w1 p1 p2 p3 g1 g2 y4x hc3 hbg hl1 hl2 hpos
   have G := hid (show (w3.drewN nq).heap[cb]? = some (.cells #[.int .i64 ss, .int .i64 la, .slice ma mn mc, .int .i64 tg, .slice oa on oc, .slice ra rn rc] 56 (0, 0)) ∧ (w3.drewN nq).heap[sb]? = some (.cells #[.int .i64 x.s1, .int .i64 x.s2, .int .i64 x.s3, .slice x.a1 x.n1 x.c1, .slice x.a2 x.n2 x.c2, .slice x.a3 x.n3 x.c3] 33 (0, 0)) ∧ (w3.drewN nq).heap[rb]? = some (.cells #[.int .i64 0, .int .i64 0, .slice none 0 0, .int .i64 0, .slice none 0 0, .slice none 0 0] 56 (0, 0)) ∧ Old w (w3.drewN nq) from ⟨((Old.refl w3).drewN nq).block F0.out.1, ((Old.refl w3).drewN nq).block F0.out.2.1, ((Old.refl w3).drewN nq).block F0.out.2.2.1, F0.out.2.2.2.1.drewN nq⟩)
   clear y0 y1 y2 y3 y4 y5 yf F0
   generalize w3.drewN nq = w4 at *
   obtain ⟨⟨y0, y1, y2, y3, y4, y5⟩, -⟩ := box6 G.out.1
   obtain ⟨⟨z0, z1, z2, z3, z4, z5⟩, zf⟩ := box6 G.out.2.1
   have f0 := zf 0
   have f1 := zf 1
   have hsc : ¬ sb = cb := by have := HSz.out; omega
   have hsc2 : ¬ cb = sb := by have := HSz.out; omega
   go_upto_region 5 with fail
   have C5 := hid (show Chg [sb] w4 ((w4.setCell ⟨sb, 0, none⟩ (.int .i64 ss)).setCell ⟨sb, 1, none⟩ (.int .i64 (la + 1))) from ((Chg.set w4 ⟨sb, 0, none⟩ _ (by simp)).trans (Chg.set _ ⟨sb, 1, none⟩ _ (by simp))))
   have G5 := hid (show ((w4.setCell ⟨sb, 0, none⟩ (.int .i64 ss)).setCell ⟨sb, 1, none⟩ (.int .i64 (la + 1))).heap[cb]? = some (.cells #[.int .i64 ss, .int .i64 la, .slice ma mn mc, .int .i64 tg, .slice oa on oc, .slice ra rn rc] 56 (0, 0)) ∧ ((w4.setCell ⟨sb, 0, none⟩ (.int .i64 ss)).setCell ⟨sb, 1, none⟩ (.int .i64 (la + 1))).heap[sb]? = some (.cells #[.int .i64 ss, .int .i64 (la + 1), .int .i64 x.s3, .slice x.a1 x.n1 x.c1, .slice x.a2 x.n2 x.c2, .slice x.a3 x.n3 x.c3] 33 (0, 0)) ∧ ((w4.setCell ⟨sb, 0, none⟩ (.int .i64 ss)).setCell ⟨sb, 1, none⟩ (.int .i64 (la + 1))).heap[rb]? = some (.cells #[.int .i64 0, .int .i64 0, .slice none 0 0, .int .i64 0, .slice none 0 0, .slice none 0 0] 56 (0, 0)) ∧ Old w ((w4.setCell ⟨sb, 0, none⟩ (.int .i64 ss)).setCell ⟨sb, 1, none⟩ (.int .i64 (la + 1))) from ⟨C5.out.heapAt G.out.1 (by simp; exact hsc2), (Go.Joins.block_setCell (Go.Joins.block_setCell G.out.2.1 (.int .i64 ss) (i := 0)) (.int .i64 (la + 1)) (i := 1)), C5.out.heapAt G.out.2.2.1 (by simp; have := HSz.out; omega), G.out.2.2.2.below (C5.out.below w.heap.size (fun k q => by simp at q; have := HSz.out; omega) G.out.2.2.2.size)⟩)
   clear y0 y1 y2 y3 y4 y5 z0 z1 z2 z3 z4 z5 zf f0 f1 hsc hsc2 G C5
   generalize ((w4.setCell ⟨sb, 0, none⟩ (.int .i64 ss)).setCell ⟨sb, 1, none⟩ (.int .i64 (la + 1))) = w5 at *
   obtain ⟨kk, hkk⟩ : ∃ kk, canK (ySb ss la x) = kk := ⟨_, rfl⟩
   rw [hkk] at HB
   have HOk := hid (show (ySb ss la x).Ok w5 from by have k := HX.out.old G5.out.2.2.2; exact ⟨k.h1, k.h2, k.h3, k.b1, k.b2, k.b3⟩)
   obtain ⟨⟨z0, z1, z2, z3, z4, z5⟩, -⟩ := box6 G5.out.2.1
   by_cases hz : kk = 0
   ·have HC := hid (show Calls Tryz.prog 29 #[.agg #[.int .i64 ss, .int .i64 (la + 1), .int .i64 x.s3, .slice x.a1 x.n1 x.c1, .slice x.a2 x.n2 x.c2, .slice x.a3 x.n3 x.c3]] w5 fun e w' => ∃ p1 p2 p3 q1 q2 q3 m1 m2 m3, e = .returned (.tuple #[.agg #[.int .i64 ss, .int .i64 (la + 1), .int .i64 x.s3, .slice p1 m1 q1, .slice p2 m2 q2, .slice p3 m3 q3], .int .i64 0]) ∧ (∀ W, Old w' W → Calls Tryz.prog 30 #[.agg #[.int .i64 ss, .int .i64 (la + 1), .int .i64 x.s3, .slice p1 m1 q1, .slice p2 m2 q2, .slice p3 m3 q3]] W fun e W' => ∃ a c, e = .returned (.slice a (mkC (ySb ss la x) none none none 0 0 0).enc.length c) ∧ Pk.OwnL W.heap.size W' (.slice a (mkC (ySb ss la x) none none none 0 0 0).enc.length c) (mkC (ySb ss la x) none none none 0 0 0).enc ∧ Old W W') ∧ Old w5 w' from by
      refine (rcanonO_ok (ySb ss la x) w5 HOk.out (hkk.trans hz)).mono ?_
      rintro e w' ⟨p1, p2, p3, q1, q2, q3, rfl, o, u⟩
      exact ⟨p1, p2, p3, q1, q2, q3, _, _, _, rfl, fun W U => rbytesO (mkC (ySb ss la x) p1 p2 p3 q1 q2 q3) W (o.old U) (mk_chk (ySb ss la x) HOk.out.ws' (hkk.trans hz) _ _ _ _ _ _), u⟩)
    have HE0 := hid (show raK ss la D x = 0 from by rw [HB.out, hz])
    subst hz
    clear HB hkk HOk
    go_upto_region 6 with (go_at_call 29; refine HC.out.mono ?_; rintro e w6 ⟨p1, p2, p3, q1, q2, q3, m1, m2, m3, rfl, by6, u6⟩; have HBy := hid by6; have U6 := hid u6; clear by6 u6)
    clear z0 z1 z2 z3 z4 z5 HC
    have G7 := hid (show ((w6.alloc (.cells #[.int .i64 ss, .int .i64 (la + 1), .int .i64 x.s3, .slice p1 m1 q1, .slice p2 m2 q2, .slice p3 m3 q3] 33)).heap[cb]? = some (.cells #[.int .i64 ss, .int .i64 la, .slice ma mn mc, .int .i64 tg, .slice oa on oc, .slice ra rn rc] 56 (0, 0)) ∧ (w6.alloc (.cells #[.int .i64 ss, .int .i64 (la + 1), .int .i64 x.s3, .slice p1 m1 q1, .slice p2 m2 q2, .slice p3 m3 q3] 33)).heap[sb]? = some (.cells #[.int .i64 ss, .int .i64 (la + 1), .int .i64 x.s3, .slice x.a1 x.n1 x.c1, .slice x.a2 x.n2 x.c2, .slice x.a3 x.n3 x.c3] 33 (0, 0)) ∧ (w6.alloc (.cells #[.int .i64 ss, .int .i64 (la + 1), .int .i64 x.s3, .slice p1 m1 q1, .slice p2 m2 q2, .slice p3 m3 q3] 33)).heap[rb]? = some (.cells #[.int .i64 0, .int .i64 0, .slice none 0 0, .int .i64 0, .slice none 0 0, .slice none 0 0] 56 (0, 0)) ∧ Old w (w6.alloc (.cells #[.int .i64 ss, .int .i64 (la + 1), .int .i64 x.s3, .slice p1 m1 q1, .slice p2 m2 q2, .slice p3 m3 q3] 33))) ∧ (w6.alloc (.cells #[.int .i64 ss, .int .i64 (la + 1), .int .i64 x.s3, .slice p1 m1 q1, .slice p2 m2 q2, .slice p3 m3 q3] 33)).heap[w6.heap.size]? = some (.cells #[.int .i64 ss, .int .i64 (la + 1), .int .i64 x.s3, .slice p1 m1 q1, .slice p2 m2 q2, .slice p3 m3 q3] 33 (0, 0)) from ⟨⟨(U6.out.trans ((Old.refl w6).alloc _)).block G5.out.1, (U6.out.trans ((Old.refl w6).alloc _)).block G5.out.2.1, (U6.out.trans ((Old.refl w6).alloc _)).block G5.out.2.2.1, G5.out.2.2.2.trans (U6.out.trans ((Old.refl w6).alloc _))⟩, alloc_at w6 _⟩)
    have HBy7 := hid (fun (W : World) (u : Old (w6.alloc (.cells #[.int .i64 ss, .int .i64 (la + 1), .int .i64 x.s3, .slice p1 m1 q1, .slice p2 m2 q2, .slice p3 m3 q3] 33)) W) => HBy.out W (((Old.refl w6).alloc _).trans u))
    have HXb := hid (show rb < w6.heap.size from Nat.lt_of_lt_of_le (heap_lt G5.out.2.2.1) U6.out.size)
    clear G5 U6 HBy
    generalize w6.alloc (.cells #[.int .i64 ss, .int .i64 (la + 1), .int .i64 x.s3, .slice p1 m1 q1, .slice p2 m2 q2, .slice p3 m3 q3] 33) = w7 at *
    generalize w6.heap.size = xb at *
    obtain ⟨ne, hne⟩ : ∃ ne, (mkC (ySb ss la x) none none none 0 0 0).enc.length = ne := ⟨_, rfl⟩
    obtain ⟨EE, hEE⟩ : ∃ EE, (mkC (ySb ss la x) none none none 0 0 0).enc = EE := ⟨_, rfl⟩
    rw [hne, hEE] at HBy7
    have HEE := hid hEE
    clear hne hEE
    go_upto_region 9 with fail
    have HE8 := hid (show OwnD w7.heap.size (w7.alloc (.cells #[] 63)) (.slice (some ⟨w7.heap.size, 0, none⟩) 0 0) (D.take 0) ∧ Old w7 (w7.alloc (.cells #[] 63)) from ⟨OwnD.empty (Nat.le_refl _) rfl, (Old.refl w7).alloc _⟩)
    generalize w7.alloc (.cells #[] 63) = w8 at *
    obtain ⟨r8, hr8⟩ : ∃ r8, w7.heap.size = r8 := ⟨_, rfl⟩
    have HR8 := hid hr8
    rw [hr8] at HE8 ⊢
    clear hr8
    go_wp2
    go_loopw [9, 10] (fun ov iv wx => ∃ k : Nat, k ≤ on ∧ iv = .int .i64 (k : Nat) ∧ Hid (OwnD r8 wx ov (D.take k) ∧ Old w7 wx)) (fun _ i _ => on - (intOf i).toNat)
    case atStart => exact ⟨0, Nat.zero_le _, rfl, HE8⟩
    case round =>
     clear HE8
     obtain ⟨k, hk, rfl, HI⟩ := hrel
     obtain ⟨va, vc, hvv⟩ := HI.out.1.len
     have hlk : (D.take k).length = k := by rw [List.length_take]; have := HN.out; omega
     rw [hlk] at hvv
     subst hvv
     have HOD := hid HI.out.1
     have U8 := hid HI.out.2
     clear HI hlk
     by_cases hlt : k < on
     ·have hkD : k < D.length := by rw [← HN.out]; exact hlt
      obtain ⟨g9, cap9, e9, i0, i1⟩ := HD.out.at k hkD
      simp only [Value.slice.injEq] at e9
      have HTk := hid (take_oneD D k hkD)
      generalize D[k] = d at *
      obtain ⟨dq, da, dn, dc, dB⟩ := d
      dsimp only at i0 i1
      have j0 := (G7.out.1.2.2.2.trans U8.out).keep i0
      have j1 := (G7.out.1.2.2.2.trans U8.out).keep i1
      have he9 : oa = some ⟨g9, 0, none⟩ := e9.1
      obtain ⟨⟨y0, y1, y2, y3, y4, y5⟩, -⟩ := box6 (U8.out.block G7.out.1.1)
      rw [he9] at y4
      have l1' : (0 : Int) ≤ (k : Int) := by omega
      have l2' : (k : Int) < (on : Int) := by omega
      have O9 := hid (show OwnD r8 (wr.alloc (.cells #[.int .i64 dq, .slice da dn dc] 63)) (.slice va k vc) (D.take k) from own_old HOD.out ((Old.refl wr).alloc _))
      have U9 := hid (U8.out.trans ((Old.refl wr).alloc (.cells #[.int .i64 dq, .slice da dn dc] 63)))
      have hal := alloc_at wr (.cells #[.int .i64 dq, .slice da dn dc] 63)
      clear i0 i1 e9 he9 hkD
      go_wp2_with (at_builtin; refine wp_appD rfl _ _ rfl r8 (.slice va k vc) (D.take k) wr.heap.size ⟨dq, da, dn, dc, dB⟩ rfl rfl O9.out hal (by rw [List.length_take]; omega) (by rw [← HR8.out]; exact U9.out.size) ?_; intro v' wA h1 h2 h3; have OA := hid h1; have UA := hid (Old.below U9.out (Below.grown (Below.refl _ _) h2 U9.out.size (fun g e => by rw [HR8.out]; exact (World.ownsRow.lt O9.out g e).1))); clear h1 h2 h3)
      go_roundw
      case rel => exact ⟨k + 1, by omega, by go_num, hid ⟨by rw [HTk.out]; exact OA.out, UA.out⟩⟩
      case measure => simp [intOf]; omega
     ·have hko : k = on := by omega
      subst hko
      have R9 := hid (show OwnD r8 wr (.slice va k vc) D from by have := HOD.out; rw [List.take_of_length_le (by rw [← HN.out]; exact Nat.le_refl _)] at this; exact this)
      clear hlt hk HOD
      have GW := hid (show (wr.drew.heap[cb]? = some (.cells #[.int .i64 ss, .int .i64 la, .slice ma mn mc, .int .i64 tg, .slice oa k oc, .slice ra rn rc] 56 (0, 0)) ∧ wr.drew.heap[sb]? = some (.cells #[.int .i64 ss, .int .i64 (la + 1), .int .i64 x.s3, .slice x.a1 x.n1 x.c1, .slice x.a2 x.n2 x.c2, .slice x.a3 x.n3 x.c3] 33 (0, 0)) ∧ wr.drew.heap[rb]? = some (.cells #[.int .i64 0, .int .i64 0, .slice none 0 0, .int .i64 0, .slice none 0 0, .slice none 0 0] 56 (0, 0)) ∧ wr.drew.heap[xb]? = some (.cells #[.int .i64 ss, .int .i64 (la + 1), .int .i64 x.s3, .slice p1 m1 q1, .slice p2 m2 q2, .slice p3 m3 q3] 33 (0, 0))) ∧ Old w7 wr.drew ∧ OwnD r8 wr.drew (.slice va k vc) D from ⟨⟨(U8.out.drew).block G7.out.1.1, (U8.out.drew).block G7.out.1.2.1, (U8.out.drew).block G7.out.1.2.2.1, (U8.out.drew).block G7.out.2⟩, U8.out.drew, own_old R9.out ((Old.refl wr).drew)⟩)
      have HOw := hid (show Old w wr.drew from G7.out.1.2.2.2.trans U8.out.drew)
      have HBz := hid (show cb < r8 ∧ sb < r8 ∧ rb < r8 ∧ xb < r8 from by have := HR8.out; exact ⟨this ▸ heap_lt G7.out.1.1, this ▸ heap_lt G7.out.1.2.1, this ▸ heap_lt G7.out.1.2.2.1, this ▸ heap_lt G7.out.2⟩)
      have HRn := hid (show ∀ z, (Value.slice va k vc).ownBlock = some z → r8 ≤ z ∧ z < wr.drew.heap.size from fun z e => World.ownsRow.lt GW.out.2.2 z e)
      have hD8 := HN.out
      have HD8 := hid hD8
      clear hD8
      have S0 := hid (show S13 sb la xb x.s3 p1 p2 p3 m1 m2 m3 q1 q2 q3 ss wr.drew from s13 GW.out.1.2.1 GW.out.1.2.2.2)
      obtain ⟨⟨y0, y1, y2, y3, y4, y5⟩, -⟩ := box6 (U8.out.block G7.out.1.1)
      clear G7 U8 R9
      go_upto_region 13 with fail
      clear y0 y1 y2 y3 y4 y5
      focus
       refine wp_region_noPanic ?_
       refine wp_region_held_drew (S := S13 sb la xb x.s3 p1 p2 p3 m1 m2 m3 q1 q2 q3 ss) (by kernel_rfl) ?_ (fun hHeld => ?_)
       ·exact S0.out
       try simp only [Act.put, puA, puB, puC]
       clear hHeld
       all_goals
        refine atA [false, false, false, false, false, false, false, false, false, false] ?_
        refine tkA (i := 0) (oi := oKl220) (s13 ((Old.refl wr.drew).block GW.out.1.2.1) ((Old.refl wr.drew).block GW.out.1.2.2.2)) ?_
        try simp only [Act.put, puA, puB, puC]
        refine tkA (i := 1) (oi := oKl221) (s13 ((Old.refl wr.drew).block GW.out.1.2.1) ((Old.refl wr.drew).block GW.out.1.2.2.2)) ?_
        try simp only [Act.put, puA, puB, puC]
        refine tkA (i := 2) (oi := oKl222) (s13 ((Old.refl wr.drew).block GW.out.1.2.1) ((Old.refl wr.drew).block GW.out.1.2.2.2)) ?_
        try simp only [Act.put, puA, puB, puC]
        refine tkA (i := 3) (oi := oKl223) (s13 ((Old.refl wr.drew).block GW.out.1.2.1) ((Old.refl wr.drew).block GW.out.1.2.2.2)) ?_
        try simp only [Act.put, puA, puB, puC]
        refine rdA [4] ?_
        refine AllReadyH.cons (o := oKl224) rfl (fun K hK => ?_) AllReadyH.nil
        refine stepCall1 ?_ 30 (.tmp 63) #[33] ?_ (.agg #[.int .i64 ss, .int .i64 (la + 1), .int .i64 x.s3, .slice p1 m1 q1, .slice p2 m2 q2, .slice p3 m3 q3]) ?_ ?_ ((enters_of Tryz.func30 (by kernel_rfl) rfl) _ _) ?_
        iterate 4 rfl
        refine (HBy7.out _ (GW.out.2.1.trans (Old.refl wr.drew))).mono ?_
        rintro o x200n ⟨p200n, d200n, rfl, h200n, u200n⟩
        refine ⟨_, rfl, ?_⟩
        have U200n := (Old.refl wr.drew).trans u200n
        have L200n := fun z e => Nat.le_trans (Old.refl wr.drew).size (OwnL.lt' h200n z e).1
        refine hK.out _ _ (s13 (U200n.block GW.out.1.2.1) (U200n.block GW.out.1.2.2.2)) (fun _ => ?_)
        clear hK K
        try simp only [Act.put, puA, puB, puC]
        have LL_200 := L200n
        have UU_200 := U200n
        obtain ⟨dd_200, rfl⟩ : ∃ z, z = d200n := ⟨_, rfl⟩
        have hh_200 := h200n
        obtain ⟨pp_200, rfl⟩ : ∃ z, z = p200n := ⟨_, rfl⟩
        obtain ⟨xw_200, rfl⟩ : ∃ z, z = x200n := ⟨_, rfl⟩
       all_goals
        refine atA [true, true, true, true, true, false, false, false, false, false] ?_
        refine tkA (i := 5) (oi := oKl225) (s13 (UU_200.block GW.out.1.2.1) (UU_200.block GW.out.1.2.2.2)) ?_
        try simp only [Act.put, puA, puB, puC]
        refine rdA [6] ?_
        refine AllReadyH.cons (o := oKl226) rfl (fun K hK => ?_) AllReadyH.nil
        refine stepBuildD ?_ (.tmp 65) ?_ (la + 1) pp_200 ne dd_200 ?_ ?_
        iterate 3 rfl
        rintro m200n x200n hb200n rfl
        have N200n := hb200n ▸ alloc_at xw_200 (.cells #[.int .i64 (la + 1), .slice pp_200 ne dd_200] 63)
        have U200n := UU_200.alloc (.cells #[.int .i64 (la + 1), .slice pp_200 ne dd_200] 63)
        have h200n := OwnL.old' hh_200 ((Old.refl xw_200).alloc (.cells #[.int .i64 (la + 1), .slice pp_200 ne dd_200] 63))
        clear hb200n
        obtain ⟨y200n, hy200n⟩ : ∃ y, xw_200.alloc (.cells #[.int .i64 (la + 1), .slice pp_200 ne dd_200] 63) = y := ⟨_, rfl⟩
        rw [hy200n] at N200n U200n h200n ⊢
        clear hy200n
        refine hK.out _ _ (s13 (U200n.block GW.out.1.2.1) (U200n.block GW.out.1.2.2.2)) (fun _ => ?_)
        clear hK K
        try simp only [Act.put, puA, puB, puC]
        have NN_200 := N200n
        have UU_200 := U200n
        have hh_200 := h200n
        obtain ⟨mm_200, rfl⟩ : ∃ z, z = m200n := ⟨_, rfl⟩
        obtain ⟨yw_200, rfl⟩ : ∃ z, z = y200n := ⟨_, rfl⟩
       all_goals
        refine atA [true, true, true, true, true, true, true, false, false, false] ?_
        refine rdA [7] ?_
        refine AllReadyH.cons (o := oKl227) rfl (fun K hK => ?_) AllReadyH.nil
        refine step_appD ?_ (.tmp 60) (.tmp 66) ?_ r8 (.slice va k vc) D mm_200 (⟨la + 1, pp_200, ne, dd_200, EE⟩ : Dt) ?_ ?_ (own_old GW.out.2.2 UU_200) NN_200 (by have := HD8.out; omega) (Nat.le_trans (by have := HR8.out; have := GW.out.2.1.size; omega) UU_200.size) ?_
        iterate 4 rfl
        intro v200n x200n h200n g200n n200n
        obtain ⟨p200n, d200n, hv200n⟩ := OwnD.len h200n
        obtain ⟨t200n, hnl200n⟩ : ∃ nl, (D ++ [(⟨la + 1, pp_200, ne, dd_200, EE⟩ : Dt)]).length = nl := ⟨_, rfl⟩
        rw [hnl200n] at hv200n
        rw [hv200n] at h200n
        clear hnl200n
        have C200n := Chg.grownB g200n
        have A200n := C200n.heapAt (UU_200.block GW.out.1.1) (by have := HBz.out; simp only [Option.mem_toList]; intro z; have := (HRn.out _ z).1; omega)
        have B200n := C200n.heapAt (UU_200.block GW.out.1.2.1) (by have := HBz.out; simp only [Option.mem_toList]; intro z; have := (HRn.out _ z).1; omega)
        have R200n := C200n.heapAt (UU_200.block GW.out.1.2.2.1) (by have := HBz.out; simp only [Option.mem_toList]; intro z; have := (HRn.out _ z).1; omega)
        have X200n := C200n.heapAt (UU_200.block GW.out.1.2.2.2) (by have := HBz.out; simp only [Option.mem_toList]; intro z; have := (HRn.out _ z).1; omega)
        have Y200n := OwnL.chg' hh_200 C200n (fun z e q => by simp only [Option.mem_toList] at q; have := LL_200 z e; have := (HRn.out z q).2; omega)
        have O200n : Old w x200n := Old.below (HOw.out.trans UU_200) (C200n.below w.heap.size (fun z q => by simp only [Option.mem_toList] at q; have := (HRn.out z q).1; have := HBz.out.1; have := HSz.out.1; omega) (HOw.out.trans UU_200).size)
        rw [hv200n]
        refine hK.out _ _ (s13 B200n X200n) (fun _ => ?_)
        clear hK K
        try simp only [Act.put, puA, puB, puC]
        have AA_200 := A200n
        have BB_200 := B200n
        have OO_200 := O200n
        have RR_200 := R200n
        have hV_200 := h200n
        have XX_200 := X200n
        have YY_200 := Y200n
        obtain ⟨ppa_200, rfl⟩ : ∃ z, z = p200n := ⟨_, rfl⟩
        obtain ⟨dpc_200, rfl⟩ : ∃ z, z = d200n := ⟨_, rfl⟩
        obtain ⟨tpn_200, rfl⟩ : ∃ z, z = t200n := ⟨_, rfl⟩
        obtain ⟨xw_200, rfl⟩ : ∃ z, z = x200n := ⟨_, rfl⟩
       all_goals
        refine atA [true, true, true, true, true, true, true, true, false, false] ?_
        refine tkA (i := 8) (oi := oKl228) (s13 BB_200 XX_200) ?_
        try simp only [Act.put, puA, puB, puC]
        refine rdA [9] ?_
        refine AllReadyH.cons (o := oKl229) rfl (fun K hK => ?_) AllReadyH.nil
        refine stepStD ?_ (.tmp 68) (.tmp 67) ?_ cb 4 ppa_200 tpn_200 dpc_200 _ ?_ ?_ (box6 AA_200).1.2.2.2.2.1 ((box6 AA_200).2 4) ?_
        iterate 4 rfl
        have C200n : Chg [cb] xw_200 (xw_200.setCell ⟨cb, 4, none⟩ (.slice ppa_200 tpn_200 dpc_200)) := Chg.set xw_200 ⟨cb, 4, none⟩ _ (by simp)
        have A200n := Go.Joins.block_setCell AA_200 (.slice ppa_200 tpn_200 dpc_200) (i := 4)
        have B200n := C200n.heapAt BB_200 (by simp; have := HSz.out; have := HXb.out; omega)
        have R200n := C200n.heapAt RR_200 (by simp; have := HSz.out; have := HXb.out; omega)
        have X200n := C200n.heapAt XX_200 (by simp; have := HSz.out; have := HXb.out; omega)
        have Y200n := OwnL.chg' YY_200 C200n (fun z e q => by simp at q; have := LL_200 z e; have := HBz.out; have := GW.out.2.1.size; have := HR8.out; omega)
        have V200n := own_chg hV_200 C200n (fun z e q => by simp at q; have := (World.ownsRow.lt hV_200 z e).1; have := HBz.out; omega)
        have O200n := OO_200.below (C200n.below w.heap.size (fun z q => by simp at q; have := HSz.out; omega) OO_200.size)
        refine hK.out _ _ (s13 B200n X200n) (fun _ => ?_)
        clear hK K
        try simp only [Act.put, puA, puB, puC]
        have AA_200 := A200n
        have BB_200 := B200n
        have OO_200 := O200n
        have RR_200 := R200n
        have VV_200 := V200n
        have XX_200 := X200n
        have YY_200 := Y200n
       all_goals
        refine atA [true, true, true, true, true, true, true, true, true, true] ?_
        refine wpAnyH_done (by kernel_rfl) ?_ _
        refine NoPanic.normal ?_
        have A13 := hid (show (xw_200.setCell ⟨cb, 4, none⟩ (.slice ppa_200 tpn_200 dpc_200)).heap[cb]? = some (.cells #[.int .i64 ss, .int .i64 la, .slice ma mn mc, .int .i64 tg, .slice ppa_200 tpn_200 dpc_200, .slice ra rn rc] 56 (0, 0)) from AA_200)
        have B13 := hid (show (xw_200.setCell ⟨cb, 4, none⟩ (.slice ppa_200 tpn_200 dpc_200)).heap[sb]? = some (.cells #[.int .i64 ss, .int .i64 (la + 1), .int .i64 x.s3, .slice x.a1 x.n1 x.c1, .slice x.a2 x.n2 x.c2, .slice x.a3 x.n3 x.c3] 33 (0, 0)) from BB_200)
        have R13 := hid (show (xw_200.setCell ⟨cb, 4, none⟩ (.slice ppa_200 tpn_200 dpc_200)).heap[rb]? = some (.cells #[.int .i64 0, .int .i64 0, .slice none 0 0, .int .i64 0, .slice none 0 0, .slice none 0 0] 56 (0, 0)) from RR_200)
        have Y13 := hid YY_200
        have V13 := hid VV_200
        have O13 := hid OO_200
        have L13 := hid LL_200
        generalize (xw_200.setCell ⟨cb, 4, none⟩ (.slice ppa_200 tpn_200 dpc_200)) = w13 at *
        generalize ppa_200 = pa at *
        generalize tpn_200 = pn at *
        generalize dpc_200 = pc at *
        generalize pp_200 = ba at *
        generalize dd_200 = bc at *
      obtain ⟨⟨y0, y1, y2, y3, y4, y5⟩, yf⟩ := box6 A13.out
      obtain ⟨⟨z0, z1, z2, z3, z4, z5⟩, -⟩ := box6 B13.out
      have f1 := yf 1
      go_upto_region 15 with fail
      have C14 := hid (show Chg [cb] w13 (w13.setCell ⟨cb, 1, none⟩ (.int .i64 (la + 1))).drew from (Chg.set w13 ⟨cb, 1, none⟩ _ (by simp)).drew)
      have A14 := hid (show (w13.setCell ⟨cb, 1, none⟩ (.int .i64 (la + 1))).drew.heap[cb]? = some (.cells #[.int .i64 ss, .int .i64 (la + 1), .slice ma mn mc, .int .i64 tg, .slice pa pn pc, .slice ra rn rc] 56 (0, 0)) from Go.Joins.block_setCell A13.out (.int .i64 (la + 1)) (i := 1))
      have B14 := hid (C14.out.heapAt B13.out (by simp; have := HSz.out; omega))
      have R14 := hid (C14.out.heapAt R13.out (by simp; have := HSz.out; omega))
      have Y14 := hid (OwnL.chg' Y13.out C14.out (fun z e q => by simp at q; have := L13.out z e; have := HBz.out; have := GW.out.2.1.size; have := HR8.out; omega))
      have V14 := hid (own_chg V13.out C14.out (fun z e q => by simp at q; have := (World.ownsRow.lt V13.out z e).1; have := HBz.out; omega))
      have O14 := hid (O13.out.below (C14.out.below w.heap.size (fun z q => by simp at q; have := HSz.out; omega) O13.out.size))
      clear y0 y1 y2 y3 y4 y5 yf f1 z0 z1 z2 z3 z4 z5 A13 B13 R13 V13 O13 Y13 C14
      generalize w13.setCell ⟨cb, 1, none⟩ (.int .i64 (la + 1)) = w14 at *
      have S1 := hid (show S15 cb sb la ss tg ma pa ra mn pn rn mc pc rc w14.drew from s15 A14.out B14.out)
      focus
       refine wp_region_noPanic ?_
       refine wp_region_held_drew (S := S15 cb sb la ss tg ma pa ra mn pn rn mc pc rc) (by kernel_rfl) ?_ (fun hHeld => ?_)
       ·exact S1.out
       try simp only [Act.put, puA, puB, puC]
       clear hHeld
       all_goals
        refine atA [false, false, false, false, false, false] ?_
        refine tkA (i := 0) (oi := oKl2210) S1.out ?_
        try simp only [Act.put, puA, puB, puC]
        refine tkA (i := 1) (oi := oKl2211) S1.out ?_
        try simp only [Act.put, puA, puB, puC]
        refine tkA (i := 2) (oi := oKl2212) S1.out ?_
        try simp only [Act.put, puA, puB, puC]
        refine rdA [3] ?_
        refine AllReadyH.cons (o := oKl2213) rfl (fun K hK => ?_) AllReadyH.nil
        refine stepStCl ?_ (.tmp 4) (.tmp 72) ?_ rb ss (la + 1) tg ma pa ra mn pn rn mc pc rc _ _ _ _ _ _ ?_ ?_ R14.out ?_
        iterate 4 rfl
        have C100n : Chg [rb] w14.drew (w14.drew.setCells rb 0 [.int .i64 ss, .int .i64 (la + 1), .slice ma mn mc, .int .i64 tg, .slice pa pn pc, .slice ra rn rc]) := ((((((Chg.set (w14.drew) ⟨rb, 0, none⟩ (.int .i64 ss) (by simp)).trans (Chg.set ((w14.drew).setCell ⟨rb, 0, none⟩ (.int .i64 ss)) ⟨rb, 1, none⟩ (.int .i64 (la + 1)) (by simp))).trans (Chg.set (((w14.drew).setCell ⟨rb, 0, none⟩ (.int .i64 ss)).setCell ⟨rb, 1, none⟩ (.int .i64 (la + 1))) ⟨rb, 2, none⟩ (.slice ma mn mc) (by simp))).trans (Chg.set ((((w14.drew).setCell ⟨rb, 0, none⟩ (.int .i64 ss)).setCell ⟨rb, 1, none⟩ (.int .i64 (la + 1))).setCell ⟨rb, 2, none⟩ (.slice ma mn mc)) ⟨rb, 3, none⟩ (.int .i64 tg) (by simp))).trans (Chg.set (((((w14.drew).setCell ⟨rb, 0, none⟩ (.int .i64 ss)).setCell ⟨rb, 1, none⟩ (.int .i64 (la + 1))).setCell ⟨rb, 2, none⟩ (.slice ma mn mc)).setCell ⟨rb, 3, none⟩ (.int .i64 tg)) ⟨rb, 4, none⟩ (.slice pa pn pc) (by simp))).trans (Chg.set ((((((w14.drew).setCell ⟨rb, 0, none⟩ (.int .i64 ss)).setCell ⟨rb, 1, none⟩ (.int .i64 (la + 1))).setCell ⟨rb, 2, none⟩ (.slice ma mn mc)).setCell ⟨rb, 3, none⟩ (.int .i64 tg)).setCell ⟨rb, 4, none⟩ (.slice pa pn pc)) ⟨rb, 5, none⟩ (.slice ra rn rc) (by simp)))
        have A100n := C100n.heapAt A14.out (by simp; have := HSz.out; omega)
        have B100n := C100n.heapAt B14.out (by simp; have := HSz.out; omega)
        refine hK.out _ _ (s15 A100n B100n) (fun _ => ?_)
        clear hK K
        try simp only [Act.put, puA, puB, puC]
        have CC_100 := C100n
        have AS_100 := A100n
        have BS_100 := B100n
       all_goals
        refine atA [true, true, true, true, false, false] ?_
        refine tkA (i := 4) (oi := oKl2214) (s15 AS_100 BS_100) ?_
        try simp only [Act.put, puA, puB, puC]
        refine tkA (i := 5) (oi := oKl2215) (s15 AS_100 BS_100) ?_
        try simp only [Act.put, puA, puB, puC]
        refine wpAnyH_done (by kernel_rfl) ?_ _
        refine NoPanic.normal ?_
        have C15 := hid CC_100
        have R15 := hid (show (w14.drew.setCells rb 0 [.int .i64 ss, .int .i64 (la + 1), .slice ma mn mc, .int .i64 tg, .slice pa pn pc, .slice ra rn rc]).heap[rb]? = some (.cells #[.int .i64 ss, .int .i64 (la + 1), .slice ma mn mc, .int .i64 tg, .slice pa pn pc, .slice ra rn rc] 56 (0, 0)) from (Go.Joins.block_setCell (Go.Joins.block_setCell (Go.Joins.block_setCell (Go.Joins.block_setCell (Go.Joins.block_setCell (Go.Joins.block_setCell R14.out (.int .i64 ss) (i := 0)) (.int .i64 (la + 1)) (i := 1)) (.slice ma mn mc) (i := 2)) (.int .i64 tg) (i := 3)) (.slice pa pn pc) (i := 4)) (.slice ra rn rc) (i := 5)))
        generalize (w14.drew.setCells rb 0 [.int .i64 ss, .int .i64 (la + 1), .slice ma mn mc, .int .i64 tg, .slice pa pn pc, .slice ra rn rc]) = w15 at *
      obtain ⟨⟨y0, y1, y2, y3, y4, y5⟩, -⟩ := box6 R15.out
      go_wp2
      refine bodyPost_ret (v := .tuple #[.agg #[.int .i64 ss, .int .i64 (la + 1), .slice ma mn mc, .int .i64 tg, .slice pa pn pc, .slice ra rn rc], .int .i64 (la + 1), .int .i64 0]) (by simp [results, Tryz.results16, go_sem, y0, y1, y2, y3, y4, y5]) rfl ?_
      refine .inr ⟨HE0.out, _, ⟨la + 1, ba, ne, bc, EE⟩, rfl, ?_, rfl, HEE.out.symm, ⟨_, ?_, OwnL.chg' Y14.out C15.out ?_⟩, O14.out.below (C15.out.below w.heap.size (fun z q => by simp at q; have := HSz.out; omega) O14.out.size)⟩
      ·refine own_low (own_chg V14.out C15.out (fun z e q => by simp at q; have := (World.ownsRow.lt V14.out z e).1; have := HBz.out; omega)) (by have := HBz.out; have := HSz.out; omega)
      ·exact HOw.out.size
      ·exact fun z e q => by simp at q; have := L13.out z e; have := HBz.out; have := GW.out.2.1.size; have := HR8.out; omega
   ·have HC := hid ((rcanonO_no (ySb ss la x) w5 HOk.out (by rw [hkk]; exact hz)))
    rw [hkk] at HC
    have HRk := hid HB.out
    clear HB hkk HOk
    have hz2 := hz
    go_upto_region 6 with (go_at_call 29; refine HC.out.mono ?_; rintro e w6 ⟨rfl, u6⟩; have U6 := hid u6; clear u6)
    have G7 := hid (show (w6.alloc (.cells #[.int .i64 0, .int .i64 0, .int .i64 0, .slice none 0 0, .slice none 0 0, .slice none 0 0] 33)).heap[cb]? = some (.cells #[.int .i64 ss, .int .i64 la, .slice ma mn mc, .int .i64 tg, .slice oa on oc, .slice ra rn rc] 56 (0, 0)) ∧ (w6.alloc (.cells #[.int .i64 0, .int .i64 0, .int .i64 0, .slice none 0 0, .slice none 0 0, .slice none 0 0] 33)).heap[rb]? = some (.cells #[.int .i64 0, .int .i64 0, .slice none 0 0, .int .i64 0, .slice none 0 0, .slice none 0 0] 56 (0, 0)) ∧ Old w (w6.alloc (.cells #[.int .i64 0, .int .i64 0, .int .i64 0, .slice none 0 0, .slice none 0 0, .slice none 0 0] 33)) from ⟨(U6.out.trans ((Old.refl w6).alloc _)).block G5.out.1, (U6.out.trans ((Old.refl w6).alloc _)).block G5.out.2.2.1, G5.out.2.2.2.trans (U6.out.trans ((Old.refl w6).alloc _))⟩)
    clear z0 z1 z2 z3 z4 z5 HC G5 U6
    generalize w6.alloc (.cells #[.int .i64 0, .int .i64 0, .int .i64 0, .slice none 0 0, .slice none 0 0, .slice none 0 0] 33) = w7 at *
    generalize w6.heap.size = xb at *
    obtain ⟨⟨y0, y1, y2, y3, y4, y5⟩, -⟩ := box6 G7.out.1
    obtain ⟨⟨z0, z1, z2, z3, z4, z5⟩, zf⟩ := box6 G7.out.2.1
    have f0 := zf 0; have f1 := zf 1; have f2 := zf 2; have f3 := zf 3; have f4 := zf 4; have f5 := zf 5
    go_wp2
    have C8 := hid (show Chg [rb] w7 ((((((w7.setCell ⟨rb, 0, none⟩ (.int .i64 ss)).setCell ⟨rb, 1, none⟩ (.int .i64 la)).setCell ⟨rb, 2, none⟩ (.slice ma mn mc)).setCell ⟨rb, 3, none⟩ (.int .i64 tg)).setCell ⟨rb, 4, none⟩ (.slice oa on oc)).setCell ⟨rb, 5, none⟩ (.slice ra rn rc)) from ((((((Chg.set w7 ⟨rb, 0, none⟩ _ (by simp)).trans (Chg.set _ ⟨rb, 1, none⟩ _ (by simp))).trans (Chg.set _ ⟨rb, 2, none⟩ _ (by simp))).trans (Chg.set _ ⟨rb, 3, none⟩ _ (by simp))).trans (Chg.set _ ⟨rb, 4, none⟩ _ (by simp))).trans (Chg.set _ ⟨rb, 5, none⟩ _ (by simp))))
    have R8 := hid (show ((((((w7.setCell ⟨rb, 0, none⟩ (.int .i64 ss)).setCell ⟨rb, 1, none⟩ (.int .i64 la)).setCell ⟨rb, 2, none⟩ (.slice ma mn mc)).setCell ⟨rb, 3, none⟩ (.int .i64 tg)).setCell ⟨rb, 4, none⟩ (.slice oa on oc)).setCell ⟨rb, 5, none⟩ (.slice ra rn rc)).heap[rb]? = some (.cells #[.int .i64 ss, .int .i64 la, .slice ma mn mc, .int .i64 tg, .slice oa on oc, .slice ra rn rc] 56 (0, 0)) from (Go.Joins.block_setCell (Go.Joins.block_setCell (Go.Joins.block_setCell (Go.Joins.block_setCell (Go.Joins.block_setCell (Go.Joins.block_setCell G7.out.2.1 (.int .i64 ss) (i := 0)) (.int .i64 la) (i := 1)) (.slice ma mn mc) (i := 2)) (.int .i64 tg) (i := 3)) (.slice oa on oc) (i := 4)) (.slice ra rn rc) (i := 5)))
    have O8 := hid (G7.out.2.2.below (C8.out.below w.heap.size (fun k q => by simp at q; have := HSz.out; omega) G7.out.2.2.size))
    clear y0 y1 y2 y3 y4 y5 z0 z1 z2 z3 z4 z5 zf f0 f1 f2 f3 f4 f5 C8
    generalize ((((((w7.setCell ⟨rb, 0, none⟩ (.int .i64 ss)).setCell ⟨rb, 1, none⟩ (.int .i64 la)).setCell ⟨rb, 2, none⟩ (.slice ma mn mc)).setCell ⟨rb, 3, none⟩ (.int .i64 tg)).setCell ⟨rb, 4, none⟩ (.slice oa on oc)).setCell ⟨rb, 5, none⟩ (.slice ra rn rc)) = w8 at *
    obtain ⟨⟨y0, y1, y2, y3, y4, y5⟩, -⟩ := box6 R8.out
    refine bodyPost_ret (v := .tuple #[.agg #[.int .i64 ss, .int .i64 la, .slice ma mn mc, .int .i64 tg, .slice oa on oc, .slice ra rn rc], .int .i64 0, .int .i64 kk]) (by simp [results, Tryz.results16, go_sem, y0, y1, y2, y3, y4, y5]) rfl ?_
    exact .inl ⟨by rw [HRk.out]; exact hz, by rw [HRk.out], O8.out⟩
end Go.Proofs.YthjfkmjeppdcnaaGreat
