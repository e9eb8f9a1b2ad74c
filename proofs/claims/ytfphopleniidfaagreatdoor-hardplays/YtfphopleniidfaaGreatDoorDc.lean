/- A disk in memory: its files, and what of it lies where; plain. -/
import Derived.Test.YtfphopleniidfaaGreatDoorDm
import Derived.Test.YtfphopleniidfaaGreatDoorDb
namespace Go.Proofs.YtfphopleniidfaaGreatDoor
open Go.RowKit Go.Lib
set_option linter.unusedVariables false
set_option linter.unusedSimpArgs false
set_option maxRecDepth 20000
/-- A file: its block, its two rows, their bytes. -/
structure Fl where
  fb : Nat
  vn : Value
  vs : Value
  now : List Nat
  safe : List Nat
def Fl.blocks (f : Fl) : List Nat := f.fb :: (f.vn.ownBlock.toList ++ f.vs.ownBlock.toList)
theorem Fl.mem {f : Fl} {b : Nat} : b ∈ f.blocks ↔ b = f.fb ∨ f.vn.ownBlock = some b ∨ f.vs.ownBlock = some b := by
  unfold Fl.blocks
  rw [List.mem_cons, List.mem_append, Option.mem_toList, Option.mem_toList]
structure FlAt (w : World) (f : Fl) : Prop where
  blk : w.heap[f.fb]? = some (.cells #[f.vn, f.vs] 103 (0, 0))
  now : Own w f.vn f.now
  safe : Own w f.vs f.safe
  ln : f.now.length ≤ 65536
  ls : f.safe.length ≤ 65536
  ap : ∀ b, f.vn.ownBlock = some b → b ≠ f.fb ∧ f.vs.ownBlock ≠ some b
  aq : ∀ b, f.vs.ownBlock = some b → b ≠ f.fb
theorem FlAt.chg {S : List Nat} {w w' : World} {f : Fl} (h : FlAt w f) (u : Chg S w w') (hn : ∀ b ∈ f.blocks, b ∉ S) : FlAt w' f :=
  ⟨u.heapAt h.blk (hn _ (Fl.mem.2 (.inl rfl))), h.now.chg u (fun g e => hn g (Fl.mem.2 (.inr (.inl e)))), h.safe.chg u (fun g e => hn g (Fl.mem.2 (.inr (.inr e)))), h.ln, h.ls, h.ap, h.aq⟩
theorem FlAt.lt {w : World} {f : Fl} (h : FlAt w f) : ∀ b ∈ f.blocks, b < w.heap.size := fun b hb => by
  rcases Fl.mem.1 hb with rfl | e | e
  · exact heap_lt h.blk
  · exact h.now.lt b e
  · exact h.safe.lt b e
theorem FlAt.cells {w : World} {f : Fl} (h : FlAt w f) : w.cell? ⟨f.fb, 0, none⟩ = some f.vn ∧ w.cell? ⟨f.fb, 1, none⟩ = some f.vs ∧ w.frozen? ⟨f.fb, 0, none⟩ = false ∧ w.frozen? ⟨f.fb, 1, none⟩ = false :=
  ⟨by rw [Go.Joins.cell_of_block h.blk]; rfl, by rw [Go.Joins.cell_of_block h.blk]; rfl, Go.Joins.unfrozen_of_block h.blk 0, Go.Joins.unfrozen_of_block h.blk 1⟩
/-- What becomes of a file's memory. -/
structure FMv (w : World) (f : Fl) (w' : World) (f' : Fl) : Prop where
  chg : Chg f.blocks w w'
  new : ∀ b ∈ f'.blocks, b ∈ f.blocks ∨ (w.heap.size ≤ b ∧ b < w'.heap.size)
  fb : f'.fb = f.fb
theorem FMv.refl (w : World) (f : Fl) : FMv w f w f := ⟨Chg.refl _ _, fun b h => .inl h, rfl⟩
theorem FMv.trans {w w1 w2 : World} {f f1 f2 : Fl} (h : FMv w f w1 f1) (k : FMv w1 f1 w2 f2) : FMv w f w2 f2 := by
  have hs := h.chg.size
  have hs2 := k.chg.size
  refine ⟨⟨k.chg.os.trans h.chg.os, k.chg.tape.trans h.chg.tape, k.chg.output.trans h.chg.output, Nat.le_trans hs hs2, fun i hi hn => ?_⟩, fun b hb => ?_, k.fb.trans h.fb⟩
  · rw [k.chg.block i (by omega) (fun q => ?_), h.chg.block i hi hn]
    rcases h.new i q with z | z
    · exact hn z
    · omega
  · rcases k.new b hb with z | z
    · rcases h.new b z with y | y
      · exact .inl y
      · exact .inr (by omega)
    · exact .inr (by omega)
/-- A disk: its blocks, its files by name, is the power off, at which step it goes. -/
structure Dk where
  db : Nat
  mb : Nat
  M : List (ByteArray × Fl)
  down : Bool
  fail : Int
def Dk.inB (d : Dk) (b : Nat) : Prop := b = d.db ∨ b = d.mb ∨ ∃ p ∈ d.M, b ∈ p.2.blocks
open Classical in
theorem dk_dec (d : Dk) (b : Nat) : d.inB b ∨ ¬ d.inB b := Classical.em _
def pof (p : ByteArray × Fl) : ByteArray × Value := (p.1, .pointer (some ⟨p.2.fb, 0, none⟩))
structure DkAt (w : World) (d : Dk) : Prop where
  disk : w.heap[d.db]? = some (.cells #[.map (some d.mb), .bool d.down, .int .i64 d.fail] 58 (0, 0))
  map : MapIs w d.mb (d.M.map pof)
  files : ∀ p ∈ d.M, FlAt w p.2
  ne : d.db ≠ d.mb
  out : ∀ p ∈ d.M, ∀ b ∈ p.2.blocks, b ≠ d.db ∧ b ≠ d.mb
  far : ∀ p ∈ d.M, ∀ q ∈ d.M, p.1 ≠ q.1 → ∀ b ∈ p.2.blocks, b ∉ q.2.blocks
  fl : 0 ≤ d.fail ∧ d.fail ≤ 9223372036854775807
  few : d.M.length ≤ 256
/-- Old memory is as it was, but for the blocks of B. -/
structure ChgB (B : Nat → Prop) (w w' : World) : Prop where
  os : w'.os = w.os
  tape : w'.tape = w.tape
  output : w'.output = w.output
  size : w.heap.size ≤ w'.heap.size
  block : ∀ k, k < w.heap.size → ¬ B k → w'.heap[k]? = w.heap[k]?
theorem ChgB.refl (B : Nat → Prop) (w : World) : ChgB B w w := ⟨rfl, rfl, rfl, Nat.le_refl _, fun _ _ _ => rfl⟩
theorem ChgB.of {B : Nat → Prop} {S : List Nat} {w w' : World} (h : Chg S w w') (hs : ∀ b ∈ S, B b) : ChgB B w w' := ⟨h.os, h.tape, h.output, h.size, fun k hk hn => h.block k hk (fun e => hn (hs k e))⟩
theorem ChgB.ofOld {B : Nat → Prop} {w w' : World} (h : Old w w') : ChgB B w w' := ⟨h.os, h.tape, h.output, h.size, fun k hk _ => Below.block h k hk⟩
theorem ChgB.old {B : Nat → Prop} {w0 w w' : World} (h : ChgB B w w') (o : Old w0 w) (hn : ∀ b, B b → w0.heap.size ≤ b) : Old w0 w' :=
  o.below ⟨h.os, h.tape, h.output, h.size, fun k hk => h.block k (by have := o.size; omega) (fun e => by have := hn k e; omega)⟩
theorem ChgB.heapAt {B : Nat → Prop} {w w' : World} (h : ChgB B w w') {g : Nat} {o : Obj} (hc : w.heap[g]? = some o) (hn : ¬ B g) : w'.heap[g]? = some o := by
  rw [h.block g (heap_lt hc) hn]; exact hc
theorem ChgB.to {B : Nat → Prop} {w w' : World} (h : ChgB B w w') (g : Nat) (hg : g < w.heap.size) (hn : ¬ B g) : ∀ (o : Nat) (v : Value), w.cell? ⟨g, o, none⟩ = some v → w'.cell? ⟨g, o, none⟩ = some v := fun o v e => by
  rw [World.cell?_of_block (w := w) (h.block g hg hn)]; exact e
/-- What becomes of a disk's memory. -/
structure Mv (w : World) (d : Dk) (w' : World) (d' : Dk) : Prop where
  chg : ChgB d.inB w w'
  new : ∀ b, d'.inB b → d.inB b ∨ (w.heap.size ≤ b ∧ b < w'.heap.size)
  db : d'.db = d.db
theorem Mv.refl (w : World) (d : Dk) : Mv w d w d := ⟨ChgB.refl _ _, fun b h => .inl h, rfl⟩
theorem Mv.trans {w w1 w2 : World} {d d1 d2 : Dk} (h : Mv w d w1 d1) (k : Mv w1 d1 w2 d2) : Mv w d w2 d2 := by
  have hs := h.chg.size
  have hs2 := k.chg.size
  refine ⟨⟨k.chg.os.trans h.chg.os, k.chg.tape.trans h.chg.tape, k.chg.output.trans h.chg.output, Nat.le_trans hs hs2, fun i hi hn => ?_⟩, fun b hb => ?_, k.db.trans h.db⟩
  · rw [k.chg.block i (by omega) (fun q => ?_), h.chg.block i hi hn]
    rcases h.new i q with z | z
    · exact hn z
    · omega
  · rcases k.new b hb with z | z
    · rcases h.new b z with y | y
      · exact .inl y
      · exact .inr (by omega)
    · exact .inr (by omega)
theorem Mv.old {w w1 : World} {d : Dk} (u : Old w w1) : Mv w d w1 d := ⟨ChgB.ofOld u, fun b h => .inl h, rfl⟩
theorem DkAt.chg {B : Nat → Prop} {w w' : World} {d : Dk} (h : DkAt w d) (u : ChgB B w w') (hn : ∀ b, d.inB b → ¬ B b) : DkAt w' d := by
  have uS : ∀ b, d.inB b → b < w.heap.size → w'.heap[b]? = w.heap[b]? := fun b hb hl => u.block b hl (hn b hb)
  refine ⟨u.heapAt h.disk (hn _ (.inl rfl)), ?_, fun p hp => ?_, h.ne, h.out, h.far, h.fl, h.few⟩
  · obtain ⟨es, clock, h1, h2⟩ := h.map
    exact ⟨es, clock, u.heapAt h1 (hn _ (.inr (.inl rfl))), h2⟩
  · have hc : Chg ((List.range w.heap.size).filter fun b => decide (b ∉ p.2.blocks)) w w' := ⟨u.os, u.tape, u.output, u.size, fun k hk hk2 => by
      have : k ∈ p.2.blocks := Classical.byContradiction fun c => hk2 (by simp [hk, c])
      exact uS k (.inr (.inr ⟨p, hp, this⟩)) hk⟩
    exact (h.files p hp).chg hc (fun b hb e => by simp at e; exact e.2 hb)
theorem DkAt.old {w w' : World} {d : Dk} (h : DkAt w d) (u : Old w w') : DkAt w' d := h.chg (B := fun _ => False) (ChgB.ofOld u) (fun _ _ => id)
theorem DkAt.lt {w : World} {d : Dk} (h : DkAt w d) : ∀ b, d.inB b → b < w.heap.size := fun b hb => by
  rcases hb with rfl | rfl | ⟨p, hp, hb⟩
  · exact heap_lt h.disk
  · exact h.map.lt
  · exact (h.files p hp).lt b hb
theorem DkAt.nod {w : World} {d : Dk} (h : DkAt w d) : (d.M.map (·.1)).Nodup := by
  have := h.map.nod
  rw [List.map_map] at this
  exact this
/-- A disk's three cells. -/
theorem DkAt.cells {w : World} {d : Dk} (h : DkAt w d) : (w.cell? ⟨d.db, 0, none⟩ = some (.map (some d.mb)) ∧ w.cell? ⟨d.db, 1, none⟩ = some (.bool d.down) ∧ w.cell? ⟨d.db, 2, none⟩ = some (.int .i64 d.fail)) ∧ ∀ i, w.frozen? ⟨d.db, i, none⟩ = false :=
  ⟨⟨by rw [Go.Joins.cell_of_block h.disk]; rfl, by rw [Go.Joins.cell_of_block h.disk]; rfl, by rw [Go.Joins.cell_of_block h.disk]; rfl⟩, fun i => Go.Joins.unfrozen_of_block h.disk i⟩
theorem MapIs.chgB {B : Nat → Prop} {w w' : World} {b : Nat} {M : List (ByteArray × Value)} (h : MapIs w b M) (u : ChgB B w w') (hn : ¬ B b) : MapIs w' b M := by
  obtain ⟨es, clock, h1, h2⟩ := h
  exact ⟨es, clock, u.heapAt h1 hn, h2⟩
theorem FlAt.chgB {B : Nat → Prop} {w w' : World} {f : Fl} (h : FlAt w f) (u : ChgB B w w') (hn : ∀ b ∈ f.blocks, ¬ B b) : FlAt w' f := by
  have hc : Chg ((List.range w.heap.size).filter fun b => decide (b ∉ f.blocks)) w w' := ⟨u.os, u.tape, u.output, u.size, fun k hk hk2 => by
    have : k ∈ f.blocks := Classical.byContradiction fun c => hk2 (by simp [hk, c])
    exact u.block k hk (hn k this)⟩
  exact h.chg hc (fun b hb e => by simp at e; exact e.2 hb)
/-- The disk's own block written. -/
theorem DkAt.cell {w w' : World} {d : Dk} (h : DkAt w d) (dn : Bool) (f : Int) (hf : 0 ≤ f ∧ f ≤ 9223372036854775807) (u : Chg [d.db] w w') (hb : w'.heap[d.db]? = some (.cells #[.map (some d.mb), .bool dn, .int .i64 f] 58 (0, 0))) : DkAt w' { d with down := dn, fail := f } ∧ Mv w d w' { d with down := dn, fail := f } := by
  have uB : ChgB (fun b => b = d.db) w w' := ChgB.of u (fun b e => by simpa using e)
  refine ⟨⟨hb, h.map.chgB uB (fun e => h.ne e.symm), fun p hp => (h.files p hp).chgB uB (fun b hb e => (h.out p hp b hb).1 e), h.ne, h.out, h.far, hf, h.few⟩, ChgB.of u (fun b e => by simp at e; exact .inl e), fun b e => .inl e, rfl⟩
/-- One file's memory has turned. -/
def setF (M : List (ByteArray × Fl)) (k : ByteArray) (f' : Fl) : List (ByteArray × Fl) := M.map fun p => if p.1 = k then (p.1, f') else p
theorem setF_mem {M : List (ByteArray × Fl)} {k : ByteArray} {f' : Fl} {p : ByteArray × Fl} (h : p ∈ setF M k f') : (p.1 = k ∧ p.2 = f' ∧ ∃ q ∈ M, q.1 = k) ∨ (p ∈ M ∧ p.1 ≠ k) := by
  obtain ⟨q, hq, e⟩ := List.mem_map.1 h
  by_cases c : q.1 = k
  · rw [if_pos c] at e
    subst e
    exact .inl ⟨c, rfl, q, hq, c⟩
  · rw [if_neg c] at e
    subst e
    exact .inr ⟨hq, c⟩
theorem setF_pof {M : List (ByteArray × Fl)} {k : ByteArray} {f f' : Fl} (hn : (M.map (·.1)).Nodup) (hm : (k, f) ∈ M) (e : f'.fb = f.fb) : (setF M k f').map pof = M.map pof := by
  unfold setF
  rw [List.map_map]
  apply List.map_congr_left
  intro p hp
  show pof (if p.1 = k then (p.1, f') else p) = pof p
  by_cases c : p.1 = k
  · have hpf : p.2 = f := by
      have := List.pairwise_map.1 hn
      by_cases q : p = (k, f)
      · rw [q]
      · obtain ⟨i, hi, ei⟩ := List.getElem_of_mem hp
        obtain ⟨j, hj, ej⟩ := List.getElem_of_mem hm
        have hij : i ≠ j := fun z => by subst z; rw [ei] at ej; exact q ej
        have w1 := List.pairwise_iff_getElem.1 this
        rcases Nat.lt_or_gt_of_ne hij with z | z
        · have := w1 i j hi hj z; rw [ei, ej] at this; exact absurd c this
        · have := w1 j i hj hi z; rw [ei, ej] at this; exact absurd c.symm this
    rw [if_pos c]
    simp [pof, e, hpf]
  · rw [if_neg c]
theorem DkAt.file {w w' : World} {d : Dk} {k : ByteArray} {f f' : Fl} (h : DkAt w d) (hm : (k, f) ∈ d.M) (hf : FlAt w' f') (mv : FMv w f w' f') : DkAt w' { d with M := setF d.M k f' } ∧ Mv w d w' { d with M := setF d.M k f' } := by
  have lt := h.lt
  have uB : ChgB (fun b => b ∈ f.blocks) w w' := ChgB.of mv.chg (fun b e => e)
  have hin : ∀ b ∈ f.blocks, d.inB b := fun b hb => .inr (.inr ⟨_, hm, hb⟩)
  have hfo := h.out _ hm
  have fresh : ∀ b ∈ f'.blocks, (b ≠ d.db ∧ b ≠ d.mb) ∧ ∀ q ∈ d.M, q.1 ≠ k → b ∉ q.2.blocks := fun b hb => by
    rcases mv.new b hb with z | z
    · exact ⟨hfo b z, fun q hq hne => h.far _ hm _ hq (fun e => hne e.symm) b z⟩
    · refine ⟨⟨fun e => ?_, fun e => ?_⟩, fun q hq _ hbq => ?_⟩
      · have := lt d.db (.inl rfl); omega
      · have := lt d.mb (.inr (.inl rfl)); omega
      · have := lt b (.inr (.inr ⟨q, hq, hbq⟩)); omega
  refine ⟨⟨uB.heapAt h.disk (fun e => (hfo _ e).1 rfl), ?_, fun p hp => ?_, h.ne, fun p hp b hb => ?_, fun p hp q hq hne b hb => ?_, h.fl, by simp [setF]; exact h.few⟩, ChgB.of mv.chg hin, fun b hb => ?_, rfl⟩
  · show MapIs w' d.mb ((setF d.M k f').map pof)
    rw [setF_pof h.nod hm mv.fb]
    exact h.map.chgB uB (fun e => (hfo _ e).2 rfl)
  · rcases setF_mem hp with ⟨_, e, _⟩ | ⟨hp', hne⟩
    · rw [e]; exact hf
    · exact (h.files p hp').chgB uB (fun b hb e => h.far _ hp' _ hm hne b hb e)
  · rcases setF_mem hp with ⟨_, e, _⟩ | ⟨hp', hne⟩
    · rw [e] at hb; exact (fresh b hb).1
    · exact h.out p hp' b hb
  · rcases setF_mem hp with ⟨ep, e, _⟩ | ⟨hp', hpk⟩
    · rcases setF_mem hq with ⟨eq, _, _⟩ | ⟨hq', hqk⟩
      · exact absurd (ep.trans eq.symm) hne
      · rw [e] at hb; exact (fresh b hb).2 q hq' hqk
    · rcases setF_mem hq with ⟨eq, e, _⟩ | ⟨hq', hqk⟩
      · rw [e]; exact fun z => (fresh b z).2 p hp' hpk hb
      · exact h.far p hp' q hq' hne b hb
  · rcases hb with e | e | ⟨p, hp, hbp⟩
    · exact .inl (.inl e)
    · exact .inl (.inr (.inl e))
    · rcases setF_mem hp with ⟨_, e, _⟩ | ⟨hp', _⟩
      · rw [e] at hbp
        rcases mv.new b hbp with z | z
        · exact .inl (hin b z)
        · exact .inr z
      · exact .inl (.inr (.inr ⟨p, hp', hbp⟩))
end Go.Proofs.YtfphopleniidfaaGreatDoor
