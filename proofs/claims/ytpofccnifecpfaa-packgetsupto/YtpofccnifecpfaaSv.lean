/- The document's Same at two rows of values that are the same in what their kinds name; conditions: at most 1048576 values. -/
import Derived.Test.YtpofccnifecpfaaOx
import Derived.Test.YtpofccnifecpfaaRk
import Derived.Deep.MidRow
import Derived.Deep.RegionHeld3
namespace Go.Proofs.Ytpofccnifecpfaa
open Go.RowKit
set_option linter.unusedVariables false
attribute [local go_sem] run_bits run_frombits run_store_float
/-- A value's five cells. -/
abbrev VAt (b o : Nat) (k n : Int) (x : Nat) (v : Value) (on : Bool) (w : World) : Prop := w.cell? ⟨b, o, none⟩ = some (.int .i64 k) ∧ w.cell? ⟨b, o + 1, none⟩ = some (.int .i64 n) ∧ w.cell? ⟨b, o + 2, none⟩ = some (.float .f64 x) ∧ w.cell? ⟨b, o + 3, none⟩ = some v ∧ w.cell? ⟨b, o + 4, none⟩ = some (.bool on)
theorem VAt.up {b o : Nat} {k n : Int} {x : Nat} {v : Value} {on : Bool} {w w' : World} (u : Up w w') (h : VAt b o k n x v on w) : VAt b o k n x v on w' := ⟨u.keep h.1, u.keep h.2.1, u.keep h.2.2.1, u.keep h.2.2.2.1, u.keep h.2.2.2.2⟩
/-- A variable of the document's value. -/
def BoxR (w : World) (b : Nat) (p : Array Value) : Prop := w.heap[b]? = some (.cells p 57 (0, 0))
theorem BoxR.up {w w' : World} {b : Nat} {p : Array Value} (h : BoxR w b p) (u : Up w w') : BoxR w' b p := (u.block b (lt_of_block h)).trans h
theorem BoxR.cell {w : World} {b : Nat} {p : Array Value} (h : BoxR w b p) (j : Nat) (u : Value) (hj : p[j]? = some u) : w.cell? ⟨b, j, none⟩ = some u := by unfold BoxR at h; simp [World.cell?, h, hj]
theorem BoxR.put {w : World} {b : Nat} {p : Array Value} (h : BoxR w b p) (j : Nat) (u : Value) : BoxR (w.setCell ⟨b, j, none⟩ u) b (p.setIfInBounds j u) := heap_setCell_same w b j _ _ u h
theorem BoxR.far {w : World} {b c : Nat} {p : Array Value} (h : BoxR w b p) (hn : b ≠ c) (vs : List Value) : ∀ o, BoxR (w.setCells c o vs) b p := by
  induction vs generalizing w with
  | nil => intro o; exact h
  | cons v r ih => intro o; rw [World.setCells]; exact ih ((Below.heap_setCell w ⟨c, o, none⟩ v b hn).trans h) (o + 1)
theorem BoxR.stored {w : World} {b : Nat} (h : BoxR w b #[.int .i64 0, .int .i64 0, .float .f64 0, .slice none 0 0, .bool false]) (c0 c1 c2 c3 c4 : Value) : BoxR (w.setCells b 0 [c0, c1, c2, c3, c4]) b #[c0, c1, c2, c3, c4] := ((((h.put 0 c0).put 1 c1).put 2 c2).put 3 c3).put 4 c4
theorem BoxR.there {w : World} {b : Nat} (h : BoxR w b #[.int .i64 0, .int .i64 0, .float .f64 0, .slice none 0 0, .bool false]) : w.there b 0 5 := by
  intro j hj
  unfold BoxR at h
  rw [Nat.zero_add]
  match j, hj with
  | 0, _ => simp [World.cell?, World.frozen?, h]
  | 1, _ => simp [World.cell?, World.frozen?, h]
  | 2, _ => simp [World.cell?, World.frozen?, h]
  | 3, _ => simp [World.cell?, World.frozen?, h]
  | 4, _ => simp [World.cell?, World.frozen?, h]
theorem upSet {a : World} {b : Nat} (hb : a.heap.size ≤ b) : ∀ (vs : List Value) (o : Nat) {w : World}, Up a w → Up a (w.setCells b o vs)
  | [], _, _, h => h
  | v :: r, o, _, h => by rw [World.setCells]; exact upSet hb r (o + 1) (h.setCell hb v)
theorem infoRSize : (Try.prog.info? 57).map (·.size) = some 5 := by kernel_rfl
theorem stepAllocV {ops : Array Oper} {o : Oper} {a : Act} {w : World} {K : Act → World → Prop} {Q : Exit → Act → World → Prop} {E : Prop} (hg : o.guard = none) (hop : o.op = Op.alloc 57)
    (hK : ∀ m w', m = w.heap.size → w' = w.alloc (.cells #[.int .i64 0, .int .i64 0, .float .f64 0, .slice none 0 0, .bool false] 57) → K (a.put o.dst (.pointer (some ⟨m, 0, none⟩))) w') :
    if Region.wanted o (yielded ops a.tmps) = true then Oper.wp Try.prog o a w K Q else E := by
  have hw : Region.wanted o (yielded ops a.tmps) = true := by simp [Region.wanted, hg]
  rw [if_pos hw]
  obtain ⟨d, p, t, ps, af, gd⟩ := o
  subst hop
  go_simp
  exact hK _ _ rfl rfl
theorem stepStoreV {ops : Array Oper} {o : Oper} {a : Act} {w : World} {K : Act → World → Prop} {Q : Exit → Act → World → Prop} {E : Prop} (hg : o.guard = none) (x y : Operand) (hop : o.op = Op.store 57 x y) (m : Nat) (k n : Int) (fx : Nat) (va : Option Addr) (vm vc : Nat) (on : Bool)
    (hx : a.eval x = .pointer (some ⟨m, 0, none⟩)) (hy : a.eval y = .agg #[.int .i64 k, .int .i64 n, .float .f64 fx, .slice va vm vc, .bool on]) (ht : w.there m 0 5)
    (hK : K (a.put o.dst undef) (w.setCells m 0 [.int .i64 k, .int .i64 n, .float .f64 fx, .slice va vm vc, .bool on])) :
    if Region.wanted o (yielded ops a.tmps) = true then Oper.wp Try.prog o a w K Q else E := by
  have hw : Region.wanted o (yielded ops a.tmps) = true := by simp [Region.wanted, hg]
  rw [if_pos hw]
  exact wp_store_mid _ x y hop m 0 _ hx hy ht infoRSize (by simp [Value.oneCell']) hK
def J2v (w0 : World) (f g : Option Nat) (w : World) : Prop := Up w0 w ∧ (∀ m, f = some m → w0.heap.size ≤ m ∧ BoxR w m #[.int .i64 0, .int .i64 0, .float .f64 0, .slice none 0 0, .bool false]) ∧ (∀ m, g = some m → w0.heap.size ≤ m ∧ BoxR w m #[.int .i64 0, .int .i64 0, .float .f64 0, .slice none 0 0, .bool false]) ∧ (∀ m n, f = some m → g = some n → n ≠ m)
theorem J2v.start (w0 : World) : J2v w0 none none w0.drew := ⟨(Up.refl _).drew, fun _ h => (by cases h), fun _ h => (by cases h), fun _ _ h => (by cases h)⟩
theorem J2v.up {w0 : World} {f g : Option Nat} {w w' : World} (j : J2v w0 f g w) (u : Up w w') : J2v w0 f g w' :=
  ⟨j.1.trans u, fun m h => ⟨(j.2.1 m h).1, (j.2.1 m h).2.up u⟩, fun m h => ⟨(j.2.2.1 m h).1, (j.2.2.1 m h).2.up u⟩, j.2.2.2⟩
theorem J2v.nF {w0 : World} {g : Option Nat} {w w' : World} {m : Nat} (j : J2v w0 none g w) (hm : m = w.heap.size) (hw : w' = w.alloc (.cells #[.int .i64 0, .int .i64 0, .float .f64 0, .slice none 0 0, .bool false] 57)) : J2v w0 (some m) g w' := by
  subst hm hw
  have k := j.up ((Up.refl w).alloc (.cells #[.int .i64 0, .int .i64 0, .float .f64 0, .slice none 0 0, .bool false] 57))
  refine ⟨k.1, ?_, k.2.2.1, ?_⟩
  · rintro m h; cases h; exact ⟨j.1.size, heap_new w _⟩
  · rintro m n h h' e; cases h; subst e; exact absurd (lt_of_block (j.2.2.1 _ h').2) (Nat.lt_irrefl _)
theorem J2v.nG {w0 : World} {f : Option Nat} {w w' : World} {m : Nat} (j : J2v w0 f none w) (hm : m = w.heap.size) (hw : w' = w.alloc (.cells #[.int .i64 0, .int .i64 0, .float .f64 0, .slice none 0 0, .bool false] 57)) : J2v w0 f (some m) w' := by
  subst hm hw
  have k := j.up ((Up.refl w).alloc (.cells #[.int .i64 0, .int .i64 0, .float .f64 0, .slice none 0 0, .bool false] 57))
  refine ⟨k.1, k.2.1, ?_, ?_⟩
  · rintro m h; cases h; exact ⟨j.1.size, heap_new w _⟩
  · rintro m n h h' e; cases h'; subst e; exact absurd (lt_of_block (j.2.1 _ h).2) (Nat.lt_irrefl _)
theorem J2v.thereF {w0 : World} {m : Nat} {g : Option Nat} {w : World} (j : J2v w0 (some m) g w) : w.there m 0 5 := (j.2.1 m rfl).2.there
theorem J2v.upF {w0 : World} {m : Nat} {g : Option Nat} {w : World} (j : J2v w0 (some m) g w) (vs : List Value) : Up w0 (w.setCells m 0 vs) := upSet (j.2.1 m rfl).1 _ _ j.1
theorem J2v.thereG {w0 : World} {m n : Nat} {w : World} (j : J2v w0 (some m) (some n) w) (c0 c1 c2 c3 c4 : Value) : (w.setCells m 0 [c0, c1, c2, c3, c4]).there n 0 5 := ((j.2.2.1 n rfl).2.far (j.2.2.2 m n rfl rfl) _ _).there
theorem J2v.fin {w0 : World} {m n : Nat} {w : World} (j : J2v w0 (some m) (some n) w) (k1 n1 : Int) (x1 : Nat) (v1 : Value) (o1 : Bool) (k2 n2 : Int) (x2 : Nat) (v2 : Value) (o2 : Bool) :
    BoxR ((w.setCells m 0 [.int .i64 k1, .int .i64 n1, .float .f64 x1, v1, .bool o1]).setCells n 0 [.int .i64 k2, .int .i64 n2, .float .f64 x2, v2, .bool o2]) m #[.int .i64 k1, .int .i64 n1, .float .f64 x1, v1, .bool o1] ∧ BoxR ((w.setCells m 0 [.int .i64 k1, .int .i64 n1, .float .f64 x1, v1, .bool o1]).setCells n 0 [.int .i64 k2, .int .i64 n2, .float .f64 x2, v2, .bool o2]) n #[.int .i64 k2, .int .i64 n2, .float .f64 x2, v2, .bool o2] ∧ Up w0 ((w.setCells m 0 [.int .i64 k1, .int .i64 n1, .float .f64 x1, v1, .bool o1]).setCells n 0 [.int .i64 k2, .int .i64 n2, .float .f64 x2, v2, .bool o2]) :=
  ⟨((j.2.1 m rfl).2.stored _ _ _ _ _).far (fun e => j.2.2.2 m n rfl rfl e.symm) _ _, ((j.2.2.1 n rfl).2.far (j.2.2.2 m n rfl rfl) _ _).stored _ _ _ _ _, upSet (j.2.2.1 n rfl).1 _ _ (j.upF _)⟩
set_option maxHeartbeats 4000000 in
/-- 'x, y := a[i], b[i]', in every order. -/
theorem same_pair (b1 f1 cp1 b2 f2 cp2 n k : Nat) (k1 n1 : Int) (x1 : Nat) (a1 : Option Addr) (m1 c1 : Nat) (o1 : Bool) (k2 n2 : Int) (x2 : Nat) (a2 : Option Addr) (m2 c2 : Nat) (o2 : Bool) {Qq : Exit → Act → World → Prop} {u2 u3 u4 u6 u7 u8 u9 u10 u11 u12 u13 u14 u15 u16 u17 u18 u19 u20 u21 u22 u23 u24 u25 u26 u27 u28 u29 u30 u31 u32 u33 u34 u35 u36 u37 u38 u39 u40 u41 u42 u43 u44 u45 u46 u47 u48 u49 u50 u51 u52 u53 u54 u55 u56 u57 u58 u59 u60 u61 u62 u63 u64 u65 u66 u67 u68 u69 u70 u71 u72 u73 u74 u75 u76 u77 u78 u79 u80 u81 : Value} (w : World) (l1 : (0 : Int) ≤ (k : Int)) (l2 : (k : Int) < (n : Int)) (hlt : k < n)
    (hA : VAt b1 (f1 + k * 5) k1 n1 x1 (.slice a1 m1 c1) o1 w) (hB : VAt b2 (f2 + k * 5) k2 n2 x2 (.slice a2 m2 c2) o2 w)
    (hEnd : ∀ mx my W, BoxR W mx #[.int .i64 k1, .int .i64 n1, .float .f64 x1, .slice a1 m1 c1, .bool o1] → BoxR W my #[.int .i64 k2, .int .i64 n2, .float .f64 x2, .slice a2 m2 c2, .bool o2] → Up w W → Qq .normal ⟨#[.slice (some ⟨b1, f1, none⟩) n cp1, .slice (some ⟨b2, f2, none⟩) n cp2, u2, u3, u4, .int .i64 (k : Int), .pointer (some ⟨mx, 0, none⟩), .pointer (some ⟨my, 0, none⟩), u8, u9, u10, u11, u12, u13, u14, u15, u16, u17, u18, .slice (some ⟨b1, f1, none⟩) n cp1, .int .i64 (k : Int), .pointer (some ⟨b1, f1 + k * 5, none⟩), .agg #[.int .i64 k1, .int .i64 n1, .float .f64 x1, .slice a1 m1 c1, .bool o1], .slice (some ⟨b2, f2, none⟩) n cp2, .int .i64 (k : Int), .pointer (some ⟨b2, f2 + k * 5, none⟩), .agg #[.int .i64 k2, .int .i64 n2, .float .f64 x2, .slice a2 m2 c2, .bool o2], u27, u28, u29, u30, u31, u32, u33, u34, u35, u36, u37, u38, u39, u40, u41, u42, u43, u44, u45, u46, u47, u48, u49, u50, u51, u52, u53, u54, u55, u56, u57, u58, u59, u60, u61, u62, u63, u64, u65, u66, u67, u68, u69, u70, u71, u72, u73, u74, u75, u76, u77, u78, u79, u80, u81], []⟩ W) :
    (Code.region 6 #[{ dst := some 19, op := Op.move (Operand.tmp 0), type := 37, pos := "ref.go:224", after := #[], guard := none }, { dst := some 20, op := Op.move (Operand.tmp 5), type := 3, pos := "ref.go:224", after := #[], guard := none }, { dst := some 21, op := Op.indexAddr 37 (Operand.tmp 19) (Operand.tmp 20), type := 0, pos := "ref.go:224", after := #[{ on := 0, ground := Ground.data }, { on := 1, ground := Ground.data }], guard := none }, { dst := some 22, op := Op.load 57 (Operand.tmp 21), type := 57, pos := "ref.go:224", after := #[{ on := 2, ground := Ground.data }], guard := none }, { dst := some 23, op := Op.move (Operand.tmp 1), type := 37, pos := "ref.go:224", after := #[{ on := 10, ground := Ground.gcOnly Departure.lateStores }], guard := none }, { dst := some 24, op := Op.move (Operand.tmp 5), type := 3, pos := "ref.go:224", after := #[{ on := 10, ground := Ground.gcOnly Departure.lateStores }], guard := none }, { dst := some 25, op := Op.indexAddr 37 (Operand.tmp 23) (Operand.tmp 24), type := 0, pos := "ref.go:224", after := #[{ on := 4, ground := Ground.data }, { on := 5, ground := Ground.data }, { on := 10, ground := Ground.gcOnly Departure.lateStores }], guard := none }, { dst := some 26, op := Op.load 57 (Operand.tmp 25), type := 57, pos := "ref.go:224", after := #[{ on := 6, ground := Ground.data }, { on := 10, ground := Ground.gcOnly Departure.lateStores }], guard := none }, { dst := some 6, op := Op.alloc 57, type := 0, pos := "ref.go:224", after := #[], guard := none }, { dst := some 7, op := Op.alloc 57, type := 0, pos := "ref.go:224", after := #[], guard := none }, { dst := none, op := Op.store 57 (Operand.tmp 6) (Operand.tmp 22), type := 0, pos := "ref.go:224", after := #[{ on := 8, ground := Ground.data }, { on := 3, ground := Ground.data }, { on := 0, ground := Ground.phase }, { on := 1, ground := Ground.phase }, { on := 2, ground := Ground.phase }, { on := 3, ground := Ground.phase }, { on := 4, ground := Ground.textOnly Departure.lateStores }, { on := 5, ground := Ground.textOnly Departure.lateStores }, { on := 6, ground := Ground.textOnly Departure.lateStores }, { on := 7, ground := Ground.textOnly Departure.lateStores }, { on := 8, ground := Ground.phase }, { on := 9, ground := Ground.phase }], guard := none }, { dst := none, op := Op.store 57 (Operand.tmp 7) (Operand.tmp 26), type := 0, pos := "ref.go:224", after := #[{ on := 9, ground := Ground.data }, { on := 7, ground := Ground.data }, { on := 10, ground := Ground.chain }, { on := 0, ground := Ground.phase }, { on := 1, ground := Ground.phase }, { on := 2, ground := Ground.phase }, { on := 3, ground := Ground.phase }, { on := 4, ground := Ground.phase }, { on := 5, ground := Ground.phase }, { on := 6, ground := Ground.phase }, { on := 7, ground := Ground.phase }, { on := 8, ground := Ground.phase }, { on := 9, ground := Ground.phase }, { on := 10, ground := Ground.phase }], guard := none }] true).wp Try.prog Qq ⟨#[.slice (some ⟨b1, f1, none⟩) n cp1, .slice (some ⟨b2, f2, none⟩) n cp2, u2, u3, u4, .int .i64 (k : Int), u6, u7, u8, u9, u10, u11, u12, u13, u14, u15, u16, u17, u18, u19, u20, u21, u22, u23, u24, u25, u26, u27, u28, u29, u30, u31, u32, u33, u34, u35, u36, u37, u38, u39, u40, u41, u42, u43, u44, u45, u46, u47, u48, u49, u50, u51, u52, u53, u54, u55, u56, u57, u58, u59, u60, u61, u62, u63, u64, u65, u66, u67, u68, u69, u70, u71, u72, u73, u74, u75, u76, u77, u78, u79, u80, u81], []⟩ w := by
  refine wp_region_noPanic ?_
  refine wp_region_held_drew (S := fun W => VAt b1 (f1 + k * 5) k1 n1 x1 (.slice a1 m1 c1) o1 W ∧ VAt b2 (f2 + k * 5) k2 n2 x2 (.slice a2 m2 c2) o2 W) (by kernel_rfl) ?_ (fun hHeld => ?_)
  · exact ⟨VAt.up ((Up.refl _).drew) hA, VAt.up ((Up.refl _).drew) hB⟩
  clear hHeld
  refine wpAnyH_take (i := 0) (oi := { dst := some 19, op := Op.move (Operand.tmp 0), type := 37, pos := "ref.go:224", after := #[], guard := none }) (v := ?vk1) rfl (by kernel_rfl) (by kernel_rfl) (by kernel_rfl) (fun _ _ _ h => h) (Or.inl ⟨by rfl, ?hk1⟩) ⟨VAt.up ((Up.refl _).drew) hA, VAt.up ((Up.refl _).drew) hB⟩ ?rk1
  case hk1 => (intro wz hSw; (try dsimp only at hSw); go_simp; try with_reducible rfl)
  (try simp only [Act.put]); (try simp only [List.setIfInBounds_toArray]); (try simp only [List.set_cons_succ]); (try simp only [List.set_cons_zero])
  refine wpAnyH_take (i := 1) (oi := { dst := some 20, op := Op.move (Operand.tmp 5), type := 3, pos := "ref.go:224", after := #[], guard := none }) (v := ?vk2) rfl (by kernel_rfl) (by kernel_rfl) (by kernel_rfl) (fun _ _ _ h => h) (Or.inl ⟨by rfl, ?hk2⟩) ⟨VAt.up ((Up.refl _).drew) hA, VAt.up ((Up.refl _).drew) hB⟩ ?rk2
  case hk2 => (intro wz hSw; (try dsimp only at hSw); go_simp; try with_reducible rfl)
  (try simp only [Act.put]); (try simp only [List.setIfInBounds_toArray]); (try simp only [List.set_cons_succ]); (try simp only [List.set_cons_zero])
  refine wpAnyH_take (i := 2) (oi := { dst := some 21, op := Op.indexAddr 37 (Operand.tmp 19) (Operand.tmp 20), type := 0, pos := "ref.go:224", after := #[{ on := 0, ground := Ground.data }, { on := 1, ground := Ground.data }], guard := none }) (v := ?vk3) rfl (by kernel_rfl) (by kernel_rfl) (by kernel_rfl) (fun _ _ _ h => h) (Or.inl ⟨by rfl, ?hk3⟩) ⟨VAt.up ((Up.refl _).drew) hA, VAt.up ((Up.refl _).drew) hB⟩ ?rk3
  case hk3 => (intro wz hSw; (try dsimp only at hSw); go_simp; try with_reducible rfl)
  (try simp only [Act.put]); (try simp only [List.setIfInBounds_toArray]); (try simp only [List.set_cons_succ]); (try simp only [List.set_cons_zero])
  refine wpAnyH_take (i := 3) (oi := { dst := some 22, op := Op.load 57 (Operand.tmp 21), type := 57, pos := "ref.go:224", after := #[{ on := 2, ground := Ground.data }], guard := none }) (v := ?vk4) rfl (by kernel_rfl) (by kernel_rfl) (by kernel_rfl) (fun _ _ _ h => h) (Or.inl ⟨by rfl, ?hk4⟩) ⟨VAt.up ((Up.refl _).drew) hA, VAt.up ((Up.refl _).drew) hB⟩ ?rk4
  case hk4 => (intro wz hSw; (try dsimp only at hSw); go_simp; try with_reducible rfl)
  (try simp only [Act.put]); (try simp only [List.setIfInBounds_toArray]); (try simp only [List.set_cons_succ]); (try simp only [List.set_cons_zero])
  refine wpAnyH_take (i := 4) (oi := { dst := some 23, op := Op.move (Operand.tmp 1), type := 37, pos := "ref.go:224", after := #[{ on := 10, ground := Ground.gcOnly Departure.lateStores }], guard := none }) (v := ?vk5) rfl (by kernel_rfl) (by kernel_rfl) (by kernel_rfl) (fun _ _ _ h => h) (Or.inl ⟨by rfl, ?hk5⟩) ⟨VAt.up ((Up.refl _).drew) hA, VAt.up ((Up.refl _).drew) hB⟩ ?rk5
  case hk5 => (intro wz hSw; (try dsimp only at hSw); go_simp; try with_reducible rfl)
  (try simp only [Act.put]); (try simp only [List.setIfInBounds_toArray]); (try simp only [List.set_cons_succ]); (try simp only [List.set_cons_zero])
  refine wpAnyH_take (i := 5) (oi := { dst := some 24, op := Op.move (Operand.tmp 5), type := 3, pos := "ref.go:224", after := #[{ on := 10, ground := Ground.gcOnly Departure.lateStores }], guard := none }) (v := ?vk6) rfl (by kernel_rfl) (by kernel_rfl) (by kernel_rfl) (fun _ _ _ h => h) (Or.inl ⟨by rfl, ?hk6⟩) ⟨VAt.up ((Up.refl _).drew) hA, VAt.up ((Up.refl _).drew) hB⟩ ?rk6
  case hk6 => (intro wz hSw; (try dsimp only at hSw); go_simp; try with_reducible rfl)
  (try simp only [Act.put]); (try simp only [List.setIfInBounds_toArray]); (try simp only [List.set_cons_succ]); (try simp only [List.set_cons_zero])
  refine wpAnyH_take (i := 6) (oi := { dst := some 25, op := Op.indexAddr 37 (Operand.tmp 23) (Operand.tmp 24), type := 0, pos := "ref.go:224", after := #[{ on := 4, ground := Ground.data }, { on := 5, ground := Ground.data }, { on := 10, ground := Ground.gcOnly Departure.lateStores }], guard := none }) (v := ?vk7) rfl (by kernel_rfl) (by kernel_rfl) (by kernel_rfl) (fun _ _ _ h => h) (Or.inl ⟨by rfl, ?hk7⟩) ⟨VAt.up ((Up.refl _).drew) hA, VAt.up ((Up.refl _).drew) hB⟩ ?rk7
  case hk7 => (intro wz hSw; (try dsimp only at hSw); go_simp; try with_reducible rfl)
  (try simp only [Act.put]); (try simp only [List.setIfInBounds_toArray]); (try simp only [List.set_cons_succ]); (try simp only [List.set_cons_zero])
  refine wpAnyH_take (i := 7) (oi := { dst := some 26, op := Op.load 57 (Operand.tmp 25), type := 57, pos := "ref.go:224", after := #[{ on := 6, ground := Ground.data }, { on := 10, ground := Ground.gcOnly Departure.lateStores }], guard := none }) (v := ?vk8) rfl (by kernel_rfl) (by kernel_rfl) (by kernel_rfl) (fun _ _ _ h => h) (Or.inl ⟨by rfl, ?hk8⟩) ⟨VAt.up ((Up.refl _).drew) hA, VAt.up ((Up.refl _).drew) hB⟩ ?rk8
  case hk8 => (intro wz hSw; (try dsimp only at hSw); go_simp; try with_reducible rfl)
  (try simp only [Act.put]); (try simp only [List.setIfInBounds_toArray]); (try simp only [List.set_cons_succ]); (try simp only [List.set_cons_zero])
  refine wpAnyH_ready (rs := [8, 9]) (by kernel_rfl) (by simp) ?_
  refine AllReadyH.cons (o := { dst := some 6, op := Op.alloc 57, type := 0, pos := "ref.go:224", after := #[], guard := none }) rfl (fun K hK => ?_) (AllReadyH.cons (o := { dst := some 7, op := Op.alloc 57, type := 0, pos := "ref.go:224", after := #[], guard := none }) rfl (fun K hK => ?_) AllReadyH.nil)
  · skip
    refine stepAllocV ?_ ?_ ?_
    · rfl
    · rfl
    intro m9' x9 hm9 hx9
    have j9 := (J2v.start w).nF hm9 hx9
    clear hm9 hx9
    refine hK.out _ _ ⟨VAt.up j9.1 hA, VAt.up j9.1 hB⟩ (fun _ => ?_)
    clear hK K
    (try simp only [Act.put]); (try simp only [List.setIfInBounds_toArray]); (try simp only [List.set_cons_succ]); (try simp only [List.set_cons_zero])
    refine wpAnyH_ready (rs := [9]) (by kernel_rfl) (by simp) ?_
    refine AllReadyH.cons (o := { dst := some 7, op := Op.alloc 57, type := 0, pos := "ref.go:224", after := #[], guard := none }) rfl (fun K hK => ?_) AllReadyH.nil
    · skip
      refine stepAllocV ?_ ?_ ?_
      · rfl
      · rfl
      intro m10' x10 hm10 hx10
      have j10 := j9.nG hm10 hx10
      clear hm10 hx10
      refine hK.out _ _ ⟨VAt.up j10.1 hA, VAt.up j10.1 hB⟩ (fun _ => ?_)
      clear hK K
      (try simp only [Act.put]); (try simp only [List.setIfInBounds_toArray]); (try simp only [List.set_cons_succ]); (try simp only [List.set_cons_zero])
      refine wpAnyH_ready (rs := [10]) (by kernel_rfl) (by simp) ?_
      refine AllReadyH.cons (o := { dst := none, op := Op.store 57 (Operand.tmp 6) (Operand.tmp 22), type := 0, pos := "ref.go:224", after := #[{ on := 8, ground := Ground.data }, { on := 3, ground := Ground.data }, { on := 0, ground := Ground.phase }, { on := 1, ground := Ground.phase }, { on := 2, ground := Ground.phase }, { on := 3, ground := Ground.phase }, { on := 4, ground := Ground.textOnly Departure.lateStores }, { on := 5, ground := Ground.textOnly Departure.lateStores }, { on := 6, ground := Ground.textOnly Departure.lateStores }, { on := 7, ground := Ground.textOnly Departure.lateStores }, { on := 8, ground := Ground.phase }, { on := 9, ground := Ground.phase }], guard := none }) rfl (fun K hK => ?_) AllReadyH.nil
      · skip
        refine stepStoreV ?_ (.tmp 6) (.tmp 22) ?_ m9' k1 n1 x1 a1 m1 c1 o1 ?_ ?_ j10.thereF ?_
        · rfl
        · rfl
        · rfl
        · rfl
        refine hK.out _ _ ⟨VAt.up (j10.upF _) hA, VAt.up (j10.upF _) hB⟩ (fun _ => ?_)
        clear hK K
        (try simp only [Act.put]); (try simp only [List.setIfInBounds_toArray]); (try simp only [List.set_cons_succ]); (try simp only [List.set_cons_zero])
        refine wpAnyH_ready (rs := [11]) (by kernel_rfl) (by simp) ?_
        refine AllReadyH.cons (o := { dst := none, op := Op.store 57 (Operand.tmp 7) (Operand.tmp 26), type := 0, pos := "ref.go:224", after := #[{ on := 9, ground := Ground.data }, { on := 7, ground := Ground.data }, { on := 10, ground := Ground.chain }, { on := 0, ground := Ground.phase }, { on := 1, ground := Ground.phase }, { on := 2, ground := Ground.phase }, { on := 3, ground := Ground.phase }, { on := 4, ground := Ground.phase }, { on := 5, ground := Ground.phase }, { on := 6, ground := Ground.phase }, { on := 7, ground := Ground.phase }, { on := 8, ground := Ground.phase }, { on := 9, ground := Ground.phase }, { on := 10, ground := Ground.phase }], guard := none }) rfl (fun K hK => ?_) AllReadyH.nil
        · skip
          refine stepStoreV ?_ (.tmp 7) (.tmp 26) ?_ m10' k2 n2 x2 a2 m2 c2 o2 ?_ ?_ (j10.thereG _ _ _ _ _) ?_
          · rfl
          · rfl
          · rfl
          · rfl
          refine hK.out _ _ ⟨VAt.up (j10.fin k1 n1 x1 (.slice a1 m1 c1) o1 k2 n2 x2 (.slice a2 m2 c2) o2).2.2 hA, VAt.up (j10.fin k1 n1 x1 (.slice a1 m1 c1) o1 k2 n2 x2 (.slice a2 m2 c2) o2).2.2 hB⟩ (fun _ => ?_)
          clear hK K
          (try simp only [Act.put]); (try simp only [List.setIfInBounds_toArray]); (try simp only [List.set_cons_succ]); (try simp only [List.set_cons_zero])
          refine wpAnyH_done (by kernel_rfl) ?_ _
          refine NoPanic.normal ?_
          obtain ⟨hF, hG, hUp⟩ := j10.fin k1 n1 x1 (.slice a1 m1 c1) o1 k2 n2 x2 (.slice a2 m2 c2) o2
          exact hEnd _ _ _ hF hG hUp
  · skip
    refine stepAllocV ?_ ?_ ?_
    · rfl
    · rfl
    intro m11' x11 hm11 hx11
    have j11 := (J2v.start w).nG hm11 hx11
    clear hm11 hx11
    refine hK.out _ _ ⟨VAt.up j11.1 hA, VAt.up j11.1 hB⟩ (fun _ => ?_)
    clear hK K
    (try simp only [Act.put]); (try simp only [List.setIfInBounds_toArray]); (try simp only [List.set_cons_succ]); (try simp only [List.set_cons_zero])
    refine wpAnyH_ready (rs := [8]) (by kernel_rfl) (by simp) ?_
    refine AllReadyH.cons (o := { dst := some 6, op := Op.alloc 57, type := 0, pos := "ref.go:224", after := #[], guard := none }) rfl (fun K hK => ?_) AllReadyH.nil
    · skip
      refine stepAllocV ?_ ?_ ?_
      · rfl
      · rfl
      intro m12' x12 hm12 hx12
      have j12 := j11.nF hm12 hx12
      clear hm12 hx12
      refine hK.out _ _ ⟨VAt.up j12.1 hA, VAt.up j12.1 hB⟩ (fun _ => ?_)
      clear hK K
      (try simp only [Act.put]); (try simp only [List.setIfInBounds_toArray]); (try simp only [List.set_cons_succ]); (try simp only [List.set_cons_zero])
      refine wpAnyH_ready (rs := [10]) (by kernel_rfl) (by simp) ?_
      refine AllReadyH.cons (o := { dst := none, op := Op.store 57 (Operand.tmp 6) (Operand.tmp 22), type := 0, pos := "ref.go:224", after := #[{ on := 8, ground := Ground.data }, { on := 3, ground := Ground.data }, { on := 0, ground := Ground.phase }, { on := 1, ground := Ground.phase }, { on := 2, ground := Ground.phase }, { on := 3, ground := Ground.phase }, { on := 4, ground := Ground.textOnly Departure.lateStores }, { on := 5, ground := Ground.textOnly Departure.lateStores }, { on := 6, ground := Ground.textOnly Departure.lateStores }, { on := 7, ground := Ground.textOnly Departure.lateStores }, { on := 8, ground := Ground.phase }, { on := 9, ground := Ground.phase }], guard := none }) rfl (fun K hK => ?_) AllReadyH.nil
      · skip
        refine stepStoreV ?_ (.tmp 6) (.tmp 22) ?_ m12' k1 n1 x1 a1 m1 c1 o1 ?_ ?_ j12.thereF ?_
        · rfl
        · rfl
        · rfl
        · rfl
        refine hK.out _ _ ⟨VAt.up (j12.upF _) hA, VAt.up (j12.upF _) hB⟩ (fun _ => ?_)
        clear hK K
        (try simp only [Act.put]); (try simp only [List.setIfInBounds_toArray]); (try simp only [List.set_cons_succ]); (try simp only [List.set_cons_zero])
        refine wpAnyH_ready (rs := [11]) (by kernel_rfl) (by simp) ?_
        refine AllReadyH.cons (o := { dst := none, op := Op.store 57 (Operand.tmp 7) (Operand.tmp 26), type := 0, pos := "ref.go:224", after := #[{ on := 9, ground := Ground.data }, { on := 7, ground := Ground.data }, { on := 10, ground := Ground.chain }, { on := 0, ground := Ground.phase }, { on := 1, ground := Ground.phase }, { on := 2, ground := Ground.phase }, { on := 3, ground := Ground.phase }, { on := 4, ground := Ground.phase }, { on := 5, ground := Ground.phase }, { on := 6, ground := Ground.phase }, { on := 7, ground := Ground.phase }, { on := 8, ground := Ground.phase }, { on := 9, ground := Ground.phase }, { on := 10, ground := Ground.phase }], guard := none }) rfl (fun K hK => ?_) AllReadyH.nil
        · skip
          refine stepStoreV ?_ (.tmp 7) (.tmp 26) ?_ m11' k2 n2 x2 a2 m2 c2 o2 ?_ ?_ (j12.thereG _ _ _ _ _) ?_
          · rfl
          · rfl
          · rfl
          · rfl
          refine hK.out _ _ ⟨VAt.up (j12.fin k1 n1 x1 (.slice a1 m1 c1) o1 k2 n2 x2 (.slice a2 m2 c2) o2).2.2 hA, VAt.up (j12.fin k1 n1 x1 (.slice a1 m1 c1) o1 k2 n2 x2 (.slice a2 m2 c2) o2).2.2 hB⟩ (fun _ => ?_)
          clear hK K
          (try simp only [Act.put]); (try simp only [List.setIfInBounds_toArray]); (try simp only [List.set_cons_succ]); (try simp only [List.set_cons_zero])
          refine wpAnyH_done (by kernel_rfl) ?_ _
          refine NoPanic.normal ?_
          obtain ⟨hF, hG, hUp⟩ := j12.fin k1 n1 x1 (.slice a1 m1 c1) o1 k2 n2 x2 (.slice a2 m2 c2) o2
          exact hEnd _ _ _ hF hG hUp
end Go.Proofs.Ytpofccnifecpfaa
