/- The program's hard and the document's beside each other; a row of law 7's steps as an argument; no condition. -/
import Derived.Test.YtfphopleniidfaaGreatDoorH7e
import Derived.Test.YtfphopleniidfaaGreatDoorH7f
import Derived.Test.YtfphopleniidfaaGreatDoorG7j
import Derived.ProofKit
import Derived.OpenShut
import Derived.Lib.SmallJoins
namespace Go.Proofs.YtfphopleniidfaaGreatDoor
open Go.ChangeShapes Go.WideShapes Go.ChangeAt Go.RowKit Go.Joins Go.Lib
set_option linter.unusedVariables false
set_option linter.unusedSimpArgs false
set_option maxRecDepth 20000
theorem and_mask (a : Int) (m : Nat) (hm : m < 9223372036854775808) : ∃ M : Nat, M ≤ m ∧ bits .and .i64 a (m : Int) = (M : Int) := by
  refine ⟨(BitVec.ofInt 64 a &&& BitVec.ofInt 64 (m : Int)).toNat, ?_, ?_⟩
  · rw [BitVec.toNat_and, BitVec.ofInt_natCast, BitVec.toNat_ofNat, Nat.mod_eq_of_lt (by omega)]
    exact Nat.and_le_right
  · have h : (BitVec.ofInt 64 a &&& BitVec.ofInt 64 (m : Int)).toNat ≤ m := by
      rw [BitVec.toNat_and, BitVec.ofInt_natCast, BitVec.toNat_ofNat, Nat.mod_eq_of_lt (by omega)]
      exact Nat.and_le_right
    show IntKind.i64.wrap ((BitVec.ofInt 64 a &&& BitVec.ofInt 64 (m : Int)).toNat : Int) = _
    generalize (BitVec.ofInt 64 a &&& BitVec.ofInt 64 (m : Int)).toNat = r at *
    simp [IntKind.wrap, IntKind.bits, IntKind.signed]
    omega
theorem Dsk.swap {w0 W W' : World} {db : Nat} {p : PD} {A : List Nat} (h : Dsk w0 W db p A) (u : Old W W') (B : List Nat) (hB : ∀ g ∈ B, g < W'.heap.size ∧ (g ∈ A ∨ W.heap.size ≤ g)) : Dsk w0 W' db p B := by
  obtain ⟨d, h1, h2, h3, h4, h5, h6⟩ := h
  refine ⟨d, h1, h2, h3.old u, h4, h5.trans u, fun g hg => ⟨fun e => ?_, (hB g hg).1⟩⟩
  rcases (hB g hg).2 with z | z
  · exact (h6 g z).1 e
  · have := h3.lt g e; omega
theorem DocAt.off {W : World} {v : Value} {Y : List Fi} {b : Nat} {cs : Array Value} {T : TypeId} (h : DocAt W v Y) (hb : W.heap[b]? = some (.cells cs T (0, 0))) (h1 : T ≠ 5) (h2 : T ≠ 51) : b ∉ docB v Y := fun hm => by
  rcases docB_mem.1 hm with e | ⟨y, hy, e | e⟩
  · exact h.row.offT hb h2 b e (by simp)
  · exact (h.byt y hy).1.offT hb h1 b e (by simp)
  · exact (h.byt y hy).2.1.offT hb h1 b e (by simp)
theorem ne_box {W : World} {b c : Nat} {x y : Array Value} (hb : W.heap[b]? = some (.cells x 65 (0, 0))) (hc : W.heap[c]? = some (.cells y 34 (0, 0))) : b ≠ c := fun e => by
  rw [e, hc] at hb
  have h2 := Option.some.inj hb
  injection h2 with _ h3 _
  exact absurd h3 (by decide)
/-- The program's hard, and the document's in its variable; br: broken. -/
structure HAt (w0 W : World) (db hb gm : Nat) (p : PD) (t0 v0 : Int) (a : Option Addr) (n c : Nat) (Y : List Fi) (dn : Bool) (fu t1 v1 : Int) (br : Bool) : Prop where
  disk : Dsk w0 W db p (hb :: gm :: docB (.slice a n c) Y)
  len : n = Y.length
  hbox : W.heap[hb]? = some (.cells #[.pointer (some ⟨db, 0, none⟩), .int .i64 t0, .int .i64 v0] 65 (0, 0))
  box : W.heap[gm]? = some (.cells #[.slice a n c, .bool dn, .int .i64 fu, .int .i64 t1, .int .i64 v1] 34 (0, 0))
  doc : DocAt W (.slice a n c) Y
  rel : RelD p (Y.map Fi.p) dn fu
  low : w0.heap.size ≤ gm
  hlow : w0.heap.size ≤ hb
  kf : KF p
  ku : br = false → KU p ∧ t1 = t0 ∧ v1 = v0
theorem HAt.old {w0 W : World} {db hb gm : Nat} {p : PD} {t0 v0 : Int} {a : Option Addr} {n c : Nat} {Y : List Fi} {dn : Bool} {fu t1 v1 : Int} {br : Bool} {W' : World} (h : HAt w0 W db hb gm p t0 v0 a n c Y dn fu t1 v1 br) (u : Old W W') : HAt w0 W' db hb gm p t0 v0 a n c Y dn fu t1 v1 br := ⟨h.disk.old u, h.len, u.block h.hbox, u.block h.box, h.doc.old u, h.rel, h.low, h.hlow, h.kf, h.ku⟩
theorem HAt.few {w0 W : World} {db hb gm : Nat} {p : PD} {t0 v0 : Int} {a : Option Addr} {n c : Nat} {Y : List Fi} {dn : Bool} {fu t1 v1 : Int} {br : Bool} (h : HAt w0 W db hb gm p t0 v0 a n c Y dn fu t1 v1 br) : Y.length ≤ 256 := by
  have h1 := h.disk.few
  have h2 := h.rel.perm.length_eq
  rw [List.length_map] at h2
  omega
theorem HAt.nod {w0 W : World} {db hb gm : Nat} {p : PD} {t0 v0 : Int} {a : Option Addr} {n c : Nat} {Y : List Fi} {dn : Bool} {fu t1 v1 : Int} {br : Bool} (h : HAt w0 W db hb gm p t0 v0 a n c Y dn fu t1 v1 br) : ((Y.map Fi.p).map (·.1)).Nodup := ((h.rel.perm.map _).nodup_iff).2 h.disk.nod
theorem HAt.off {w0 W : World} {db hb gm : Nat} {p : PD} {t0 v0 : Int} {a : Option Addr} {n c : Nat} {Y : List Fi} {dn : Bool} {fu t1 v1 : Int} {br : Bool} (h : HAt w0 W db hb gm p t0 v0 a n c Y dn fu t1 v1 br) : hb ∉ gm :: docB (.slice a n c) Y := fun hm => by
  rcases List.mem_cons.1 hm with e | e
  · exact ne_box h.hbox h.box e
  · exact h.doc.off h.hbox (by decide) (by decide) e
theorem HAt.mid {w0 W : World} {db hb gm : Nat} {p : PD} {t0 v0 : Int} {a : Option Addr} {n c : Nat} {Y : List Fi} {dn : Bool} {fu t1 v1 : Int} {br : Bool} {W' : World} (h : HAt w0 W db hb gm p t0 v0 a n c Y dn fu t1 v1 br) (k : Kp (gm :: docB (.slice a n c) Y) W W') : W'.heap[gm]? = some (.cells #[.slice a n c, .bool dn, .int .i64 fu, .int .i64 t1, .int .i64 v1] 34 (0, 0)) ∧ DocAt W' (.slice a n c) Y :=
  ⟨k.at (by simp) h.box, h.doc.kp k (fun g hg => List.mem_cons_of_mem _ hg)⟩
theorem KpX.kp2 {hb : Nat} {A B : List Nat} {W W' : World} (k : KpX hb A W W') (hB : ∀ g ∈ B, g ∈ A ∧ g ≠ hb) : Kp B W W' := ⟨k.1, fun g hg hl => k.2 g (hB g hg).1 (hB g hg).2 hl⟩
theorem Kp.sub {A B : List Nat} {W W' : World} (k : Kp A W W') (hB : ∀ g ∈ B, g ∈ A) : Kp B W W' := ⟨k.1, fun g hg hl => k.2 g (hB g hg) hl⟩
/-- The document's new hard is put into its variable. -/
theorem HAt.put {w0 W W' : World} {db hb gm : Nat} {p : PD} {t0 v0 : Int} {A : List Nat} {a : Option Addr} {c : Nat} {Z : List Fi} {dn : Bool} {fu t1 v1 : Int} {br : Bool} {x0 x1 x2 x3 x4 : Value} (hD : Dsk w0 W db p A) (u : Old W W') (hA : hb ∈ A ∧ gm ∈ A) (hh : W.heap[hb]? = some (.cells #[.pointer (some ⟨db, 0, none⟩), .int .i64 t0, .int .i64 v0] 65 (0, 0))) (hb5 : W'.heap[gm]? = some (.cells #[x0, x1, x2, x3, x4] 34 (0, 0))) (hZ : DocAt W' (.slice a Z.length c) Z) (hB : ∀ g ∈ docB (.slice a Z.length c) Z, g ∈ A ∨ W.heap.size ≤ g) (hr : RelD p (Z.map Fi.p) dn fu) (hl : w0.heap.size ≤ gm) (hl2 : w0.heap.size ≤ hb) (hkf : KF p) (hku : br = false → KU p ∧ t1 = t0 ∧ v1 = v0) : HAt w0 (set5 W' gm (.slice a Z.length c) (.bool dn) (.int .i64 fu) (.int .i64 t1) (.int .i64 v1)) db hb gm p t0 v0 a Z.length c Z dn fu t1 v1 br := by
  have h1 : Dsk w0 W' db p (hb :: gm :: docB (.slice a Z.length c) Z) := hD.swap u _ (fun g hg => by
    rcases List.mem_cons.1 hg with e | e
    · rw [e]; exact ⟨heap_lt (u.block hh), .inl hA.1⟩
    · rcases List.mem_cons.1 e with e | e
      · rw [e]; exact ⟨heap_lt hb5, .inl hA.2⟩
      · exact ⟨hZ.lt g e, hB g e⟩)
  have hne := ne_box (u.block hh) hb5
  have ch := chg5 W' gm (.slice a Z.length c) (.bool dn) (.int .i64 fu) (.int .i64 t1) (.int .i64 v1)
  exact ⟨h1.wr ch (fun g hg => by simp at hg; rw [hg]; exact ⟨by simp, hl⟩), rfl, (ch.block hb (heap_lt (u.block hh)) (by simpa using hne)).trans (u.block hh), box5_set hb5 _ _ _ _ _, hZ.chgH ch hb5, hr, hl, hl2, hkf, hku⟩
theorem HAt.start {w0 W W3 : World} {db hb : Nat} {a : Option Addr} {c : Nat} {Z : List Fi} (hD : Dsk w0 W db pd0 ([] ++ [hb])) (hh : W.heap[hb]? = some (.cells #[.pointer (some ⟨db, 0, none⟩), .int .i64 0, .int .i64 0] 65 (0, 0))) (hl : w0.heap.size ≤ hb) (u : Old W W3) (hZ : DocAt W3 (.slice a Z.length c) Z) (hz : Z.map Fi.p = []) (hB : ∀ g ∈ docB (.slice a Z.length c) Z, g ∈ ([] : List Nat) ∨ W.heap.size ≤ g) : HAt w0 (W3.alloc (.cells #[.slice a Z.length c, .bool false, .int .i64 0, .int .i64 0, .int .i64 0] 34)) db hb W3.heap.size pd0 0 0 a Z.length c Z false 0 0 0 false := by
  have v : Old W3 (W3.alloc (.cells #[.slice a Z.length c, .bool false, .int .i64 0, .int .i64 0, .int .i64 0] 34)) := (Old.refl W3).alloc _
  have hx := alloc_at W3 (.cells #[.slice a Z.length c, .bool false, .int .i64 0, .int .i64 0, .int .i64 0] 34)
  refine ⟨hD.swap (u.trans v) _ (fun g hg => ?_), rfl, (u.trans v).block hh, hx, hZ.old v, by rw [hz]; exact RelD.zero, Nat.le_trans hD.base.size u.size, hl, .inl rfl, fun _ => ⟨⟨.inl rfl, rfl⟩, rfl, rfl⟩⟩
  rcases List.mem_cons.1 hg with e | e
  · rw [e]; exact ⟨heap_lt ((u.trans v).block hh), .inl (by simp)⟩
  · rcases List.mem_cons.1 e with e | e
    · rw [e]; exact ⟨heap_lt hx, .inr u.size⟩
    · refine ⟨(hZ.old v).lt g e, ?_⟩
      rcases hB g e with q | q
      · cases q
      · exact .inr q
theorem S4x.old {a b c d i j k l : Nat} {x y z u : Value} {w w' : World} (o : Old w w') (h : w.cell? ⟨a, i, none⟩ = some x ∧ w.cell? ⟨b, j, none⟩ = some y ∧ w.cell? ⟨c, k, none⟩ = some z ∧ w.cell? ⟨d, l, none⟩ = some u) : w'.cell? ⟨a, i, none⟩ = some x ∧ w'.cell? ⟨b, j, none⟩ = some y ∧ w'.cell? ⟨c, k, none⟩ = some z ∧ w'.cell? ⟨d, l, none⟩ = some u := ⟨o.keep h.1, o.keep h.2.1, o.keep h.2.2.1, o.keep h.2.2.2⟩
theorem crD_few {F : PFs} {kp : List Bool} : (crD F kp).length = F.length := by
  have h := congrArg List.length (crD_keys F kp)
  unfold keysP at h
  rw [List.length_map, List.length_map] at h
  exact h
theorem RelD.failM {p : PD} {F : PFs} {dn : Bool} {fu : Int} (h : RelD p F dn fu) (M : Nat) (hn : M ≤ 7) : RelD { p with fail := max 0 (M : Int) } F dn (M : Int) := ⟨h.perm, h.rise, h.down, fun _ => by show (M : Int) = max 0 (M : Int); omega, by omega, by omega⟩
theorem HAt.fail {w0 W : World} {db hb gm : Nat} {p : PD} {t0 v0 : Int} {a : Option Addr} {n c : Nat} {Y : List Fi} {dn : Bool} {fu t1 v1 : Int} {br : Bool} {W' : World} {A : List Nat} (h : HAt w0 W db hb gm p t0 v0 a n c Y dn fu t1 v1 br) (M : Nat) (hM : M ≤ 7) (hD : Dsk w0 W' db { p with fail := max 0 (M : Int) } A) (hA : ∀ g ∈ hb :: gm :: docB (.slice a n c) Y, g ∈ A) (k : Kp A W W') : HAt w0 (W'.setCell ⟨gm, 2, none⟩ (.int .i64 (M : Int))) db hb gm { p with fail := max 0 (M : Int) } t0 v0 a n c Y dn (M : Int) t1 v1 br := by
  obtain ⟨h1, h2⟩ := h.mid (k.sub (fun g hg => hA g (List.mem_cons_of_mem _ hg)))
  have hh := k.at (hA hb (by simp)) h.hbox
  have ch := Chg.set (S := [gm]) W' ⟨gm, 2, none⟩ (.int .i64 (M : Int)) (by simp)
  have hne := ne_box hh h1
  exact ⟨(hD.less hA).wr ch (fun g hg => by simp at hg; rw [hg]; exact ⟨by simp, h.low⟩), h.len, (ch.block hb (heap_lt hh) (by simpa using hne)).trans hh, Go.Joins.block_setCell h1 _ (i := 2), h2.chgH ch h1, h.rel.failM M hM, h.low, h.hlow, h.kf, fun e => ⟨⟨(h.ku e).1.1, (h.ku e).1.2⟩, (h.ku e).2⟩⟩
/-- What is read at a file's name. -/
theorem HAt.read {w0 W : World} {db hb gm : Nat} {p : PD} {t0 v0 : Int} {a : Option Addr} {n c : Nat} {Y : List Fi} {dn : Bool} {fu t1 v1 : Int} (h : HAt w0 W db hb gm p t0 v0 a n c Y dn fu t1 v1 false) {y : Fi} (hy : y ∈ Y) : readL p y.nm = y.now := by
  obtain ⟨hk, -, -⟩ := h.ku rfl
  have hm : y.p ∈ Y.map Fi.p := List.mem_map.2 ⟨y, hy, rfl⟩
  have hg : getP p.fs y.nm = some ⟨y.now, y.safe⟩ := by
    rw [← getP_perm h.rel.perm h.disk.nod]
    exact getP_mem h.nod hm
  have hs : y.nm ∈ keysP p.fs := List.mem_map.2 ⟨y.p, h.rel.perm.mem_iff.1 hm, rfl⟩
  have hn : y.nm = sH := by
    rcases hk.1 with q | q
    · rw [q] at hs; cases hs
    · rw [q] at hs; exact List.mem_singleton.1 hs
  have hc : readC p y.nm = 0 := by
    rw [readC1, hk.2, hg, hn, mH]
    simp
  unfold readL fileAt
  rw [hc, if_pos rfl, hg]
  rfl
/-- What the document's Save leaves, beside the program's. -/
def SP7 (W : World) (BB : List Nat) (p' : PD) (sc : Int) (tv : Int × Int) (e : Ending) (w' : World) : Prop := ∃ a c Z dn fu t v, e = .returned (.tuple #[.agg #[.slice a (List.length Z) c, .bool dn, .int .i64 fu, .int .i64 t, .int .i64 v], .int .i64 sc]) ∧ DocAt w' (.slice a Z.length c) Z ∧ RelD p' (Z.map Fi.p) dn fu ∧ Old W w' ∧ (∀ g ∈ docB (.slice a Z.length c) Z, g ∈ BB ∨ W.heap.size ≤ g) ∧ ((sc = 50 ∧ KF p') ∨ ((sc == 50) = false ∧ KU p' ∧ t = tv.1 ∧ v = tv.2))
set_option maxHeartbeats 1000000 in
set_option maxRecDepth 20000 in
theorem rsave7 (W : World) (ya : Option Addr) (yc : Nat) (Y : List Fi) (dn : Bool) (fu t0 v0 t v : Int) (p : PD) (h : DocAt W (.slice ya Y.length yc) Y) (hr : RelD p (Y.map Fi.p) dn fu) (hn : (keysP p.fs).Nodup) (hk : KU p) (h1 : -9223372036854775808 ≤ t ∧ t ≤ 9223372036854775807) (h2 : -9223372036854775808 ≤ v ∧ v ≤ 9223372036854775807) : Calls Tryz.prog 9 #[.agg #[.slice ya Y.length yc, .bool dn, .int .i64 fu, .int .i64 t0, .int .i64 v0], .int .i64 t, .int .i64 v] W (SP7 W (docB (.slice ya Y.length yc) Y) (saveP p t v t0 v0) (saveC p t v t0 v0) (saveV p t v t0 v0)) :=
  (rsave_any W ya yc Y dn fu t0 v0 t v h (fun vb => save_good hr hn (by have := hk.len; omega) vb _) h1 h2).mono fun e w' q => by
    obtain ⟨F', dn', fu', t', v', ⟨a, c, Z, he, hd, hz, hu, hb⟩, hr', hk'⟩ := save_post hr hn hk q
    exact ⟨a, c, Z, dn', fu', t', v', he, hd, by rw [hz]; exact hr', hu, hb, hk'⟩
set_option maxHeartbeats 1000000 in
set_option maxRecDepth 20000 in
theorem ropen0 (W : World) : Calls Tryz.prog 7 #[.agg #[.slice none 0 0, .bool false, .int .i64 0]] W (OP W [] [] false 0 0 0 0) := by
  have q := ropen_any W none 0 [] (DocAt.nil W) (by simp) (by simp)
  have e2 : rdP (nowOf (getP (([] : List Fi).map Fi.p) sH)) = (0, 0) := rd_nil
  rw [e2] at q
  exact q
/-- A row of law 7's steps. -/
structure Oph where
  k : Int
  t : Int
  v : Int
  n : Int
  vk : Value
  kp : List Bool
def Oph.cs (p : Oph) : List Value := [.int .i64 p.k, .int .i64 p.t, .int .i64 p.v, .int .i64 p.n, p.vk]
def Oph.Ok (w : World) (p : Oph) : Prop := (-9223372036854775808 ≤ p.t ∧ p.t ≤ 9223372036854775807) ∧ (-9223372036854775808 ≤ p.v ∧ p.v ≤ 9223372036854775807) ∧ BArg w p.vk p.kp
theorem wfH {a : Int} (h : (Lit.int .i64 a).wf = true) : -9223372036854775808 ≤ a ∧ a ≤ 9223372036854775807 := by
  have e1 : IntKind.i64.min = -9223372036854775808 := by decide
  have e2 : IntKind.i64.max = 9223372036854775807 := by decide
  simp [Lit.wf, e1, e2] at h
  exact h
theorem trod_bools {H : Type} {enc : TypeId × Value → H} {w : World} {fuel : Nat} {cs : List Value} {y : DataW H × List MemPlace} (h : DataW.trod enc Tryz.prog w 0 (fun _ => true) true fuel 37 cs = some y) : ∃ v kp, cs = [v] ∧ BArg w v kp := by
  rcases DataW.trod_slice Tryz.underlying37 h with ⟨rfl, _⟩ | ⟨a, len, cap, elems, rest, m, _, rfl, _, hb, hl, hm, hlen, hel, hsp, _⟩
  · exact ⟨_, [], rfl, BRow.none w, .inl rfl, fun h => by simp at h⟩
  · unfold maxLen at hm
    by_cases hz : len = 0
    · subst hz
      refine ⟨_, [], rfl, ⟨by simp, _, cap, rfl, by simp, by omega, fun i hi => by simp at hi⟩, ?_, fun h => by simp at h⟩
      by_cases hc : cap = 0
      · subst hc; exact .inr (.inr ⟨a, rfl⟩)
      · obtain ⟨hr, hcell⟩ := hsp rfl
        have h1 := hcell 0 (by omega)
        have h2 : rest[0]? = some (rest[0]'(by omega)) := List.getElem?_eq_getElem (by omega)
        rw [h2, cellsBool, Nat.mul_one, Option.bind_eq_some_iff] at h1
        obtain ⟨cs', hcs, hy'⟩ := h1
        obtain ⟨b, rfl, _⟩ := DataW.trod_bool Tryz.underlying4 hy'
        have h3 := cell_of_cells?_one hcs
        obtain ⟨b', off, spot⟩ := a
        have hspot : spot = none := by simpa [Addr.add] using World.cell?_spot h3
        subst hspot
        exact .inr (.inl ⟨_, _, _, _, rfl⟩)
    · have each : ∀ i, i < len → ∃ n : Bool, w.cell? (a.add i) = some (.bool n) := by
        intro i hi
        have h1 := hel i hi
        have h2 : elems[i]? = some (elems[i]'(by omega)) := List.getElem?_eq_getElem (by omega)
        rw [h2, cellsBool, Nat.mul_one, Option.bind_eq_some_iff] at h1
        obtain ⟨cs', hcs, hy'⟩ := h1
        obtain ⟨n, rfl, _⟩ := DataW.trod_bool Tryz.underlying4 hy'
        exact ⟨n, cell_of_cells?_one hcs⟩
      obtain ⟨b, off, spot⟩ := a
      obtain ⟨n0, h0⟩ := each 0 (by omega)
      have hspot : spot = none := by simpa [Addr.add] using World.cell?_spot h0
      subst hspot
      have hlen' : ((List.range len).map fun i => match w.cell? ⟨b, off + i, none⟩ with | some (.bool n) => n | _ => false).length = len := by simp
      refine ⟨_, (List.range len).map fun i => match w.cell? ⟨b, off + i, none⟩ with | some (.bool n) => n | _ => false, rfl, ⟨by rw [hlen']; omega, some ⟨b, off, none⟩, cap, by rw [hlen'], by rw [hlen']; omega, by omega, fun i hi => ⟨b, off, rfl, ?_⟩⟩, .inr (.inl ⟨_, _, _, _, rfl⟩), fun _ g e => ?_⟩
      · rw [hlen'] at hi
        obtain ⟨n, hn⟩ := each i hi
        rw [Go.WideShapes.add_plain] at hn
        rw [List.getD_eq_getElem?_getD, List.getElem?_map, List.getElem?_range hi]
        simp [hn]
      · cases e
        rw [Go.WideShapes.add_plain] at h0
        exact World.block_lt_of_cell? w _ h0
theorem cellsH : Tryz.prog.cellsOf 3 = 1 ∧ Tryz.prog.cellsOf 2 = 1 ∧ Tryz.prog.cellsOf 37 = 1 := by refine ⟨?_, ?_, ?_⟩ <;> kernel_rfl
theorem cellsOph : Tryz.prog.cellsOf 39 = 5 := by kernel_rfl
theorem trod_oph {H : Type} {enc : TypeId × Value → H} {w : World} {fuel : Nat} {cs : List Value} {y : DataW H × List MemPlace} (h : DataW.trod enc Tryz.prog w 0 (fun _ => true) true fuel 39 cs = some y) : ∃ p : Oph, cs = p.cs ∧ p.Ok w := by
  obtain ⟨xs, n, _, _, hl, hlen, hf⟩ := DataW.trod_struct Tryz.underlying39 h
  rw [cellsOph] at hl
  match cs, hl with
  | [c0, c1, c2, c3, c4], _ =>
    match xs, hlen with
    | [y0, y1, y2, y3, y4], _ =>
      have h0 := hf 0 _ rfl
      have h1 := hf 1 _ rfl
      have h2 := hf 2 _ rfl
      have h3 := hf 3 _ rfl
      have h4 := hf 4 _ rfl
      simp [cellsH] at h0 h1 h2 h3 h4
      obtain ⟨a0, e0, _, q0⟩ := DataW.trod_int Tryz.underlying3 h0
      obtain ⟨a1, e1, _, q1⟩ := DataW.trod_int Tryz.underlying2 h1
      obtain ⟨a2, e2, _, q2⟩ := DataW.trod_int Tryz.underlying3 h2
      obtain ⟨a3, e3, _, q3⟩ := DataW.trod_int Tryz.underlying3 h3
      obtain ⟨v4, kp, e4, r4⟩ := trod_bools h4
      simp at e0 e1 e2 e3 e4
      subst e0 e1 e2 e3 e4
      exact ⟨⟨a0, a1, a2, a3, _, kp⟩, rfl, wfH q1, wfH q2, r4⟩
def OHRow (w : World) (v : Value) (n : Nat) (f : Nat → Oph) : Prop := n ≤ 9223372036854775807 ∧ ∃ a c, v = .slice a n c ∧ n ≤ c ∧ ∀ i, i < n → ∃ b off, a = some ⟨b, off, none⟩ ∧ (f i).Ok w ∧ ∀ j, j < 5 → w.cell? ⟨b, off + i * 5 + j, none⟩ = (f i).cs[j]?
def OhRow (w : World) (v : Value) : Prop := ∃ n f, OHRow w v n f
theorem trod_ohrow {H : Type} {enc : TypeId × Value → H} {w : World} {fuel : Nat} {v : Value} {y : DataW H × List MemPlace} (h : DataW.trod enc Tryz.prog w 0 (fun _ => true) true fuel 22 [v] = some y) : OhRow w v := by
  have p0 : Oph := ⟨0, 0, 0, 0, .slice none 0 0, []⟩
  rcases DataW.trod_slice Tryz.underlying22 h with ⟨hcs, _⟩ | ⟨a, len, cap, elems, rest, m, _, hcs, _, hb, hl, hm, hlen, hel, _, _⟩
  · simp at hcs; subst hcs
    exact ⟨0, fun _ => p0, by omega, none, 0, rfl, Nat.le_refl _, fun i hi => by omega⟩
  · simp at hcs; subst hcs
    have hml : len ≤ 9223372036854775807 := by unfold maxLen at hm; omega
    by_cases hz : len = 0
    · subst hz; exact ⟨_, fun _ => p0, hml, _, _, rfl, by omega, fun i hi => by omega⟩
    · have each : ∀ i, i < len → ∃ p : Oph, (∀ j, j < 5 → w.cell? ((a.add (i * 5)).add j) = p.cs[j]?) ∧ p.Ok w := by
        intro i hi
        have h1 := hel i hi
        have h2 : elems[i]? = some (elems[i]'(by omega)) := List.getElem?_eq_getElem (by omega)
        rw [h2, cellsOph, Option.bind_eq_some_iff] at h1
        obtain ⟨cs', hcs, hy'⟩ := h1
        obtain ⟨s, rfl, hs⟩ := trod_oph hy'
        exact ⟨s, fun j hj => cellsEach hcs j hj, hs⟩
      obtain ⟨b, off, spot⟩ := a
      obtain ⟨s0, h0, _⟩ := each 0 (by omega)
      have hspot : spot = none := by simpa [Addr.add] using World.cell?_spot (h0 0 (by omega))
      subst hspot
      have each2 : ∀ i, ∃ p : Oph, i < len → p.Ok w ∧ ∀ j, j < 5 → w.cell? ⟨b, off + i * 5 + j, none⟩ = p.cs[j]? := by
        intro i
        by_cases hi : i < len
        · obtain ⟨s, q1, q2⟩ := each i hi
          simp only [Go.WideShapes.add_plain] at q1
          exact ⟨s, fun _ => ⟨q2, q1⟩⟩
        · exact ⟨s0, fun h => absurd h hi⟩
      exact ⟨len, fun i => Classical.choose (each2 i), hml, _, cap, rfl, by omega, fun i hi => ⟨b, off, rfl, (Classical.choose_spec (each2 i) hi).1, (Classical.choose_spec (each2 i) hi).2⟩⟩
theorem open_ophs {H : Type} {enc : TypeId × Value → H} {w : World} {base : Nat} {v : Value} {d : DataW H} {ps : List MemPlace} (hv : Value.okWide Tryz.prog w .any base 22 v) (h : DataW.Trod enc Tryz.prog w 0 (fun _ => true) true 22 v d ps) : OhRow w v := by
  obtain ⟨a0, len0, cap0, rfl⟩ := okWide_slice Tryz.underlying22 hv
  obtain ⟨fuel, hf⟩ := h
  exact trod_ohrow hf
end Go.Proofs.YtfphopleniidfaaGreatDoor
