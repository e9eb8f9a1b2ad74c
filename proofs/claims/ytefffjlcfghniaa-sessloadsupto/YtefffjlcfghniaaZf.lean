/- The law SessFull's tables, plain; a row of int64 appended to, and as an argument; no condition. -/
import Derived.Test.YtefffjlcfghniaaZw
import Derived.Test.YtefffjlcfghniaaZy
import Derived.Maps.AppendAt
namespace Go.Proofs.Ytefffjlcfghniaa
open Go.ChangeShapes Go.WideShapes Go.ChangeAt Go.RowKit Go.Joins Go.Lib
set_option linter.unusedVariables false
set_option linter.unusedSimpArgs false
set_option maxRecDepth 20000
theorem ils_app (L M : List Int) : ils L ++ ils M = ils (L ++ M) := by simp [ils]
theorem infoI64 : (Try.prog.info? 2).map (fun i => (i.zero, i.size, i.bytes)) = some (some (.int .i64 0), 1, 8) := by kernel_rfl
theorem wp_appN {ops : Array Oper} {rest : List Oper} {o : Oper} {a : Act} {Q : Exit → Act → World → Prop} {w : World} (hgd : o.guard = none) (s x : Operand)
    (ho : o.op = .call { callee := .builtin .append, args := #[s, x], argTypes := #[64, 64] }) (base : Nat) (v : Value) (L : List Int) (g c1 : Nat) (y : Int)
    (hs : a.eval s = v) (hx : a.eval x = .slice (some ⟨g, 0, none⟩) 1 c1) (hown : OwnN base w v L) (hc : w.cell? ⟨g, 0, none⟩ = some (.int .i64 y)) (hb : L.length + 1 ≤ 1000000) (hbase : base ≤ w.heap.size)
    (h : ∀ v' w', OwnN base w' v' (L ++ [y]) → w.grownBy w' v.ownBlock → (v'.ownBlock = v.ownBlock ∨ v'.ownBlock = some w.heap.size) → wpList Try.prog ops Q rest (a.put o.dst v') w') : wpList Try.prog ops Q (o :: rest) a w := by
  obtain ⟨i0, hi, hz0, hz1, hz2⟩ := info_parts infoI64
  refine wpList_append_own_at w hgd s x 64 ho base 2 i0 _ 1 8 Try.underlying64 hi hz0 hz1 hz2 rfl (by decide) v L.length (ils L) hs hown ⟨g, 0, none⟩ 1 c1 (ils [y]) hx rfl ?_ ?_ (by unfold maxLen; omega) (by omega) hbase ?_
  · intro j u hj
    match j with
    | 0 => simp [ils] at hj; subst hj; rw [Go.WideShapes.add_plain]; exact hc
    | j + 1 => simp [ils] at hj
  · intro u hu; simp [ils] at hu; subst hu; rfl
  · intro v' w' h1 h2 h3 h4
    exact h v' w' (by unfold OwnN; rw [ils_app] at h1; simpa using h1) h2 h4
theorem cell_oneN (w : World) (y : Int) (g : Nat) (hg : w.heap.size = g) : (w.alloc (.cells #[.int .i64 y] 2)).cell? ⟨g, 0, none⟩ = some (.int .i64 y) := by subst hg; simp
theorem OwnN.chg {base : Nat} {S : List Nat} {w w' : World} {v : Value} {L : List Int} (h : OwnN base w v L) (u : Chg S w w') (hn : ∀ g, v.ownBlock = some g → g ∉ S) : OwnN base w' v L := by
  refine ⟨h.1, ?_⟩
  rcases h.2 with e | ⟨g, cap, cur, rfl, hb', hg, r⟩
  · exact .inl e
  · exact .inr ⟨g, cap, cur, rfl, hb', u.heapAt hg (hn g rfl), r⟩
theorem Tab.grown {w0 w w' : World} {tb : Nat} {Bs : List Nat} {ks : List Int} {L : Int → List It} {row : Option Nat} (h : Tab w0 w tb Bs ks L) (g : w.grownBy w' row) (hn : ∀ q, row = some q → q ∉ Bs ∧ w0.heap.size ≤ q) : Tab w0 w' tb Bs ks L := by
  have c : Chg row.toList w w' := ⟨g.os, g.tape, g.output, g.size, fun k hk hk2 => g.block k hk (fun e => hk2 (by rw [← e]; simp))⟩
  refine ⟨Below.grown h.old g h.old.size (fun k e => (hn k e).2), h.tab.chg c (fun b hb hb2 => ?_), h.ok, h.new, fun b hb => Nat.lt_of_lt_of_le (h.lt b hb) g.size⟩
  rw [Option.mem_toList] at hb2
  exact (hn b hb2).1 hb
/-- The row of the sessions, as the law keeps it, lies apart from the table. -/
def Far (B : Nat) (w : World) (Bs : List Nat) (v : Value) (ks : List Int) : Prop := OwnN B w v ks ∧ ∀ g, v.ownBlock = some g → g ∉ Bs
theorem Far.up {B : Nat} {w w' : World} {Bs : List Nat} {v : Value} {ks : List Int} (h : Far B w Bs v ks) (u : Old w w') : Far B w' Bs v ks := ⟨h.1.up u, h.2⟩
theorem Far.put {B : Nat} {w w' : World} {Bs Bs' : List Nat} {v : Value} {ks : List Int} (h : Far B w Bs v ks) (c : Chg Bs w w') (a : ∀ m, Apart w m Bs → Apart w' m Bs') : Far B w' Bs' v ks :=
  ⟨h.1.chg c h.2, fun g e => (a g ⟨(World.ownsRow.lt h.1 g e).2, h.2 g e⟩).2⟩
theorem found_none {q : Int} {L : List It} (h : ∀ y ∈ L, y.n ≠ q) : foundB q L = false := by
  unfold foundB
  by_cases c : posS q L < L.length
  · have := h (atI L (posS q L)) (by rw [atI_get L _ c]; exact List.getElem_mem c)
    rw [decide_eq_false this, Bool.and_false]
  · rw [decide_eq_false c, Bool.false_and]
/-- The item that the law puts. -/
def itF (L : Int → List It) (id : Int) : It := ⟨hiL (L id) + 1, 0, 0⟩
theorem putF {ks : List Int} {L : Int → List It} (h : TOk ks L) {id : Int} (hid : 1 ≤ id ∧ id ≤ 64) (hhi : hiL (L id) ≤ 1048576) : putC ks L id (itF L id) = if id ∈ ks ∨ ks.length < 16 then 0 else 131 := by
  have h0 := (h.hi id).1
  have hf : foundB (hiL (L id) + 1) (L id) = false := found_none fun y hy e => by have := rise_last (h.rise id) hy; omega
  have o1 : outB id 1 1099511627776 = false := by unfold outB; simp; omega
  have o2 : outB (hiL (L id) + 1) 1 1099511627776 = false := by unfold outB; simp; omega
  have hl : lookC ks L id (hiL (L id) + 1) = if id ∈ ks ∨ ks.length < 16 then 0 else 131 := by
    unfold lookC
    rw [hf, o1, o2, if_neg (by decide), if_neg (by decide)]
    by_cases a : id ∈ ks
    · rw [if_pos (Or.inl a), decide_eq_true a, if_neg (by simp), if_neg (by omega)]
    · rw [decide_eq_false a]
      by_cases b : ks.length < 16
      · rw [if_pos (Or.inr b), decide_eq_false (show ¬ 16 ≤ ks.length by omega), if_neg (by decide), if_neg (by omega)]
      · rw [decide_eq_true (show 16 ≤ ks.length by omega), if_pos (by decide), if_neg (fun q : id ∈ ks ∨ ks.length < 16 => q.elim a b)]
  unfold putC
  show (if lookC ks L id (hiL (L id) + 1) = 0 then _ else lookC ks L id (hiL (L id) + 1)) = _
  rw [hl]
  by_cases c : id ∈ ks ∨ ks.length < 16
  · rw [if_pos c, if_pos rfl]; rfl
  · rw [if_neg c, if_neg (by decide)]
theorem nextF {ks : List Int} {L : Int → List It} (h : TOk ks L) (id : Int) : hiL (putL L id (nextS (itF L id) (L id)) id) = hiL (L id) + 1 ∧ ∀ k, k ≠ id → putL L id (nextS (itF L id) (L id)) k = L k := by
  have hn : ∀ y ∈ L id, y.n ≠ (itF L id).n := fun y hy e => by have := rise_last (h.rise id) hy; unfold itF at e; simp only at e; omega
  refine ⟨?_, fun k hk => if_neg hk⟩
  show hiL (if id = id then nextS (itF L id) (L id) else L id) = _
  rw [if_pos rfl, next_hi (h.rise id) hn]
  exact hi_of (ins_rise (h.rise id) hn) (x := itF L id) (ins_mem.2 (Or.inl rfl)) (fun y hy => by
    rcases ins_mem.1 hy with e | e
    · rw [e]; exact Int.le_refl _
    · have := rise_last (h.rise id) e; unfold itF; simp only; omega)
theorem hi_in {ks : List Int} {L : Int → List It} (h : TOk ks L) {id : Int} (hk : id ∈ ks) : 1 ≤ hiL (L id) := by
  obtain ⟨x, hx, e⟩ := hiL_mem (h.some id hk)
  have := h.seq id x hx
  omega
theorem hi_out {w : World} {tb : Nat} {Bs : List Nat} {ks : List Int} {L : Int → List It} (h : TabIs w tb Bs ks L) {id : Int} (hk : id ∉ ks) : hiL (L id) = 0 := by
  obtain ⟨mb, M, h1, h2, h3, h4, h5, h6, h7, h8, h9⟩ := h
  rw [h9 id hk]; rfl
/-- What each round makes of the table. -/
theorem roundF {w0 w : World} {tb : Nat} {Bs : List Nat} {ks : List Int} {L : Int → List It} {k : Nat} (h : Tab w0 w tb Bs ks L) (hm : ∀ id, hiL (L id) ≤ (k : Int)) {id : Int} :
    ∀ i, hiL (putL L id (nextS (itF L id) (L id)) i) ≤ ((k + 1 : Nat) : Int) := fun i => by
  obtain ⟨a, b⟩ := nextF h.ok id
  by_cases e : i = id
  · rw [e, a]; have := hm id; omega
  · rw [b i e]; have := hm i; omega
theorem put_full {w0 w W : World} {tb : Nat} {Bs : List Nat} {ks : List Int} {L : Int → List It} {k : Nat} (h : Tab w0 w tb Bs ks L) (hm : ∀ i, hiL (L i) ≤ (k : Int)) (hk : k ≤ 1048576) {id hi : Int} (h1 : 1 ≤ id ∧ id ≤ 64) (eh : hiL (L id) = hi) (hn : id ∉ ks) (hl : ks.length = 16) (u : Old w W) :
    Calls Try.prog 8 #[.pointer (some ⟨tb, 0, none⟩), .int .i64 id, .int .i64 (hi + 1), .agg #[.int .i64 0, .int .i64 0]] W fun e w' => e = .returned (.int .i64 131) ∧ Old W w' := by
  subst eh
  have b := hm id
  have b0 := (h.ok.hi id).1
  have q := putT_any w0 tb Bs ks L id (itF L id) W (h.up u) ⟨by omega, by omega⟩ ⟨by show _ ≤ hiL (L id) + 1; omega, by show hiL (L id) + 1 ≤ _; omega⟩
  rw [putF h.ok h1 (by omega), if_neg (fun z : id ∈ ks ∨ ks.length < 16 => z.elim hn (fun z => by omega))] at q
  exact q.mono (fun e w' z => ⟨z.1, (z.2.resolve_right (fun y => absurd y.1 (by decide))).2⟩)
theorem put_fits {w0 w W : World} {B tb : Nat} {av : Value} {Bs : List Nat} {ks : List Int} {L : Int → List It} {k : Nat} (h : Tab w0 w tb Bs ks L) (hf : Far B w Bs av ks) (hm : ∀ i, hiL (L i) ≤ (k : Int)) (hk : k ≤ 1048576) {id hi : Int} (h1 : 1 ≤ id ∧ id ≤ 64) (eh : hiL (L id) = hi) (hn : id ∈ ks ∨ ks.length < 16) (u : Old w W) :
    Calls Try.prog 8 #[.pointer (some ⟨tb, 0, none⟩), .int .i64 id, .int .i64 (hi + 1), .agg #[.int .i64 0, .int .i64 0]] W fun e w' => e = .returned (.int .i64 0) ∧ ∃ Bs' L', Tab w0 w' tb Bs' (putK ks id) L' ∧ Far B w' Bs' av ks ∧ hiL (L' id) = hi + 1 ∧ ∀ i, hiL (L' i) ≤ ((k + 1 : Nat) : Int) := by
  subst eh
  have b := hm id
  have b0 := (h.ok.hi id).1
  have q := putT_any w0 tb Bs ks L id (itF L id) W (h.up u) ⟨by omega, by omega⟩ ⟨by show _ ≤ hiL (L id) + 1; omega, by show hiL (L id) + 1 ≤ _; omega⟩
  rw [putF h.ok h1 (by omega), if_pos hn] at q
  refine q.mono (fun e w' z => ⟨z.1, ?_⟩)
  obtain ⟨_, Bs', t, cg, ap⟩ := z.2.resolve_left (fun y => y.1 rfl)
  exact ⟨Bs', _, t, (hf.up u).put cg ap, (nextF h.ok id).1, roundF h hm⟩
theorem Far.nrow {B : Nat} {w : World} {Bs : List Nat} {v : Value} {ks : List Int} (h : Far B w Bs v ks) (hl : ks.length ≤ 16) : ∃ (p : Option Addr) (c : Nat), v = .slice p ks.length c ∧ ∀ i, i < ks.length → ∃ g off, p = some ⟨g, off, none⟩ ∧ w.cell? ⟨g, off + i, none⟩ = some (.int .i64 (ks.getD i 0)) := by
  obtain ⟨_, p, c, e, hc⟩ := h.1.nrow (by omega)
  exact ⟨p, c, e, hc⟩
theorem Far.new {w0 w : World} {tb : Nat} {Bs : List Nat} {ks : List Int} {L : Int → List It} (h : Tab w0 w tb Bs ks L) : Far w0.heap.size (w.alloc (.cells #[] 2)) Bs (.slice (some ⟨w.heap.size, 0, none⟩) 0 0) [] :=
  ⟨World.ownsRow_made w #[] 0 h.old.size (by unfold maxLen; omega) rfl, fun g e hb => by cases e; have := h.lt _ hb; simp at this⟩
def NRowU (w : World) (v : Value) (n : Nat) (f : Nat → Int) : Prop := ∃ (p : Option Addr) (c : Nat), v = .slice p n c ∧ ∀ i, i < n → ∃ g off, p = some ⟨g, off, none⟩ ∧ w.cell? ⟨g, off + i, none⟩ = some (.int .i64 (f i))
theorem open_numsU {H : Type} {enc : TypeId × Value → H} {w : World} {base : Nat} {v : Value} {d : DataW H} {ps : List MemPlace} (hv : Value.okWide Try.prog w .any base 64 v) (h : DataW.Trod enc Try.prog w 0 (fun _ => true) true 64 v d ps) :
    ∃ (m : Nat) (ks : Nat → Int), NRowU w v m ks ∧ ((d = .nil ∧ m = 0) ∨ ∃ elems spare, d = .slice elems spare ∧ elems.length = m) := by
  obtain ⟨a0, len0, cap0, rfl⟩ := okWide_slice Try.underlying64 hv
  obtain ⟨fuel, hf⟩ := h
  rcases DataW.trod_slice Try.underlying64 hf with ⟨hcs, hd⟩ | ⟨a, len, cap, elems, rest, m, _, hcs, hd, hb, hl, hm, hlen, hel, _, _⟩
  · simp [Value.cells] at hcs
    obtain ⟨rfl, rfl, rfl⟩ := hcs
    simp at hd
    exact ⟨0, fun _ => 0, ⟨none, 0, rfl, fun i hi => by omega⟩, .inl ⟨hd.1, rfl⟩⟩
  · simp [Value.cells] at hcs
    obtain ⟨ha, hln, hcp⟩ := hcs
    rw [ha, hln, hcp]
    clear ha hln hcp hf hv a0 len0 cap0
    simp only [Prod.mk.injEq] at hd
    have hdd : d = .slice (elems.map (·.1)) (rest.map (·.1)) := hd.1
    by_cases hz : len = 0
    · subst hz; exact ⟨0, fun _ => 0, ⟨_, _, rfl, fun i hi => by omega⟩, .inr ⟨_, _, hdd, by simpa using hlen⟩⟩
    · have each : ∀ i, i < len → ∃ n : Int, w.cell? (a.add i) = some (.int .i64 n) := by
        intro i hi
        have h1 := hel i hi
        have h2 : elems[i]? = some (elems[i]'(by omega)) := List.getElem?_eq_getElem (by omega)
        rw [h2, cellsI.1, Nat.mul_one, Option.bind_eq_some_iff] at h1
        obtain ⟨cs', hcs, hy'⟩ := h1
        obtain ⟨n, rfl, _, hw⟩ := DataW.trod_int Try.underlying2 hy'
        exact ⟨n, cell_of_cells?_one hcs⟩
      obtain ⟨b, off, spot⟩ := a
      obtain ⟨n0, h0⟩ := each 0 (by omega)
      have hspot : spot = none := by simpa [Addr.add] using World.cell?_spot h0
      subst hspot
      refine ⟨len, fun i => match w.cell? ⟨b, off + i, none⟩ with | some (.int _ n) => n | _ => 0, ⟨_, _, rfl, fun i hi => ⟨b, off, rfl, ?_⟩⟩, .inr ⟨_, _, hdd, by simpa using hlen⟩⟩
      obtain ⟨n, hn⟩ := each i hi
      rw [Go.WideShapes.add_plain] at hn
      simp only [hn]
end Go.Proofs.Ytefffjlcfghniaa
