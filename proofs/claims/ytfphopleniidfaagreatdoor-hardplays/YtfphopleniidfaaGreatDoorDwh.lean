/- disk's functions as the laws call them: a disk of a law's own; conditions: the rows lie in memory. -/
import Derived.Test.YtfphopleniidfaaGreatDoorDv
namespace Go.Proofs.YtfphopleniidfaaGreatDoor
open Go.RowKit Go.Lib
set_option linter.unusedVariables false
set_option linter.unusedSimpArgs false
set_option maxRecDepth 20000
/-- A disk of a law's own, apart from the blocks of A. -/
def Dsk (w0 W : World) (db : Nat) (p : PD) (A : List Nat) : Prop := ∃ d : Dk, d.db = db ∧ d.p = p ∧ DkAt W d ∧ (∀ b, d.inB b → w0.heap.size ≤ b) ∧ Old w0 W ∧ ∀ g ∈ A, ¬ d.inB g ∧ g < W.heap.size
/-- These blocks are as they were. -/
def Kp (A : List Nat) (W W' : World) : Prop := W.heap.size ≤ W'.heap.size ∧ ∀ g ∈ A, g < W.heap.size → W'.heap[g]? = W.heap[g]?
theorem Kp.trans {A : List Nat} {a b c : World} (h : Kp A a b) (k : Kp A b c) : Kp A a c := ⟨Nat.le_trans h.1 k.1, fun g hg hl => (k.2 g hg (by have := h.1; omega)).trans (h.2 g hg hl)⟩
theorem Kp.old {A : List Nat} {a b : World} (u : Old a b) : Kp A a b := ⟨u.size, fun g _ hl => Below.block u g hl⟩
theorem Kp.refl (A : List Nat) (a : World) : Kp A a a := Kp.old (Old.refl a)
theorem Own.kp {A : List Nat} {W W' : World} {v : Value} {L : List Nat} (h : Own W v L) (k : Kp A W W') (hm : ∀ g, v.ownBlock = some g → g ∈ A) : Own W' v L := by
  have hb := h.byt
  rcases h.cases with ⟨rfl, rfl⟩ | ⟨g, cap, cur, rfl, hg, h1, h2, h3, h4⟩
  · exact Own.nil _
  · exact own_of (by rw [k.2 g (hm g rfl) (heap_lt hg)]; exact hg) h1 h2 h3 h4 hb
theorem Dsk.old {w0 W W' : World} {db : Nat} {p : PD} {A : List Nat} (h : Dsk w0 W db p A) (u : Old W W') : Dsk w0 W' db p A := by
  obtain ⟨d, h1, h2, h3, h4, h5, h6⟩ := h
  exact ⟨d, h1, h2, h3.old u, h4, h5.trans u, fun g hg => ⟨(h6 g hg).1, by have := u.size; have := (h6 g hg).2; omega⟩⟩
theorem Dsk.base {w0 W : World} {db : Nat} {p : PD} {A : List Nat} (h : Dsk w0 W db p A) : Old w0 W := by
  obtain ⟨d, h1, h2, h3, h4, h5, h6⟩ := h
  exact h5
/-- A block that is newer than the disk's. -/
theorem Dsk.add {w0 W W' : World} {db : Nat} {p : PD} {A : List Nat} (h : Dsk w0 W db p A) (u : Old W W') (B : List Nat) (hB : ∀ g ∈ B, W.heap.size ≤ g ∧ g < W'.heap.size) : Dsk w0 W' db p (A ++ B) := by
  obtain ⟨d, h1, h2, h3, h4, h5, h6⟩ := h
  refine ⟨d, h1, h2, h3.old u, h4, h5.trans u, fun g hg => ?_⟩
  rcases List.mem_append.1 hg with q | q
  · exact ⟨(h6 g q).1, by have := u.size; have := (h6 g q).2; omega⟩
  · exact ⟨fun e => by have := h3.lt g e; have := hB g q; omega, (hB g q).2⟩
/-- A block of A is written. -/
theorem Dsk.wr {w0 W W' : World} {db : Nat} {p : PD} {A S : List Nat} (h : Dsk w0 W db p A) (u : Chg S W W') (hS : ∀ g ∈ S, g ∈ A ∧ w0.heap.size ≤ g) : Dsk w0 W' db p A := by
  obtain ⟨d, h1, h2, h3, h4, h5, h6⟩ := h
  have uB : ChgB (fun b => b ∈ S) W W' := ChgB.of u (fun b e => e)
  exact ⟨d, h1, h2, h3.chg uB (fun b hb e => (h6 b (hS b e).1).1 hb), h4, uB.old h5 (fun b e => (hS b e).2), fun g hg => ⟨(h6 g hg).1, by have := u.size; have := (h6 g hg).2; omega⟩⟩
theorem Dsk.res {w0 W W' : World} {d : Dk} {p' : PD} {A : List Nat} (h4 : ∀ b, d.inB b → w0.heap.size ≤ b) (h5 : Old w0 W) (h6 : ∀ g ∈ A, ¬ d.inB g ∧ g < W.heap.size) (r : Res W d p' W') : Dsk w0 W' d.db p' A ∧ Kp A W W' := by
  obtain ⟨d', r1, r2, m⟩ := r
  refine ⟨⟨d', m.db, r2, r1, fun b hb => ?_, m.chg.old h5 h4, fun g hg => ⟨fun e => ?_, by have := m.chg.size; have := (h6 g hg).2; omega⟩⟩, m.chg.size, fun g hg hl => m.chg.block g hl (h6 g hg).1⟩
  · rcases m.new b hb with z | z
    · exact h4 b z
    · have := h5.size; omega
  · rcases m.new g e with z | z
    · exact (h6 g hg).1 z
    · have := (h6 g hg).2; omega
theorem newD (w0 W : World) (u : Old w0 W) : Calls Tryz.prog 4 #[] W fun e w' => ∃ db, e = .returned (.pointer (some ⟨db, 0, none⟩)) ∧ Dsk w0 w' db pd0 [] ∧ Old W w' :=
  (dnew_any W).mono fun e w' q => by
    obtain ⟨d, rfl, h1, h2, h3, h4⟩ := q
    exact ⟨d.db, rfl, ⟨d, rfl, h2, h1, fun b hb => by have := h4 b hb; have := u.size; omega, u.trans h3, fun g hg => by cases hg⟩, h3⟩
theorem createD (w0 W : World) (db : Nat) (p : PD) (A : List Nat) (s : ByteArray) (h : Dsk w0 W db p A) : Calls Tryz.prog 56 #[.pointer (some ⟨db, 0, none⟩), .string s] W fun e w' => e = .returned (.int .i64 (createC p s)) ∧ Dsk w0 w' db (createP p s) A ∧ Kp A W w' := by
  obtain ⟨d, rfl, rfl, h3, h4, h5, h6⟩ := h
  exact (create_any d s W h3).mono fun e w' q => ⟨q.1, Dsk.res h4 h5 h6 q.2⟩
theorem syncD (w0 W : World) (db : Nat) (p : PD) (A : List Nat) (s : ByteArray) (h : Dsk w0 W db p A) : Calls Tryz.prog 61 #[.pointer (some ⟨db, 0, none⟩), .string s] W fun e w' => e = .returned (.int .i64 (syncC p s)) ∧ Dsk w0 w' db (syncP p s) A ∧ Kp A W w' := by
  obtain ⟨d, rfl, rfl, h3, h4, h5, h6⟩ := h
  exact (dsync_any d s W h3).mono fun e w' q => ⟨q.1, Dsk.res h4 h5 h6 q.2⟩
theorem removeD (w0 W : World) (db : Nat) (p : PD) (A : List Nat) (s : ByteArray) (h : Dsk w0 W db p A) : Calls Tryz.prog 19 #[.pointer (some ⟨db, 0, none⟩), .string s] W fun e w' => e = .returned (.int .i64 (removeC p s)) ∧ Dsk w0 w' db (removeP p s) A ∧ Kp A W w' := by
  obtain ⟨d, rfl, rfl, h3, h4, h5, h6⟩ := h
  exact (remove_any d s W h3).mono fun e w' q => ⟨q.1, Dsk.res h4 h5 h6 q.2⟩
theorem renameD (w0 W : World) (db : Nat) (p : PD) (A : List Nat) (s t : ByteArray) (h : Dsk w0 W db p A) : Calls Tryz.prog 63 #[.pointer (some ⟨db, 0, none⟩), .string s, .string t] W fun e w' => e = .returned (.int .i64 (renameC p s t)) ∧ Dsk w0 w' db (renameP p s t) A ∧ Kp A W w' := by
  obtain ⟨d, rfl, rfl, h3, h4, h5, h6⟩ := h
  exact (rename_any d s t W h3).mono fun e w' q => ⟨q.1, Dsk.res h4 h5 h6 q.2⟩
theorem writeD (w0 W : World) (db : Nat) (p : PD) (A : List Nat) (s : ByteArray) (n : Int) (u : Value) (b : List Nat) (h : Dsk w0 W db p A) (hr : Rw W u b) (hu : b ≠ [] → ∀ g, u.ownBlock = some g → g < w0.heap.size ∨ g ∈ A) (hN : -9223372036854775808 ≤ n ∧ n ≤ 9223372036854775807) : Calls Tryz.prog 58 #[.pointer (some ⟨db, 0, none⟩), .string s, .int .i64 n, u] W fun e w' => e = .returned (.int .i64 (writeC p s n b)) ∧ Dsk w0 w' db (writeP p s n b) A ∧ Kp A W w' := by
  obtain ⟨d, rfl, rfl, h3, h4, h5, h6⟩ := h
  exact (dwrite_any d s n u b W h3 hr (fun h0 g e hin => by
    rcases hu h0 g e with z | z
    · have := h4 g hin; omega
    · exact (h6 g z).1 hin) hN).mono fun e w' q => ⟨q.1, Dsk.res h4 h5 h6 q.2⟩
theorem failD (w0 W : World) (db : Nat) (p : PD) (A : List Nat) (n : Int) (h : Dsk w0 W db p A) (hn : n ≤ 9223372036854775807) : Calls Tryz.prog 10 #[.pointer (some ⟨db, 0, none⟩), .int .i64 n] W fun e w' => e = .returned (.tuple #[]) ∧ Dsk w0 w' db { p with fail := max 0 n } A ∧ Kp A W w' := by
  obtain ⟨d, rfl, rfl, h3, h4, h5, h6⟩ := h
  exact (dfail_any d n W h3 hn).mono fun e w' q => ⟨q.1, Dsk.res h4 h5 h6 q.2⟩
theorem readD (w0 W : World) (db : Nat) (p : PD) (A : List Nat) (s : ByteArray) (h : Dsk w0 W db p A) : Calls Tryz.prog 16 #[.pointer (some ⟨db, 0, none⟩), .string s] W fun e w' => ∃ v', e = .returned (.tuple #[v', .int .i64 (readC p s)]) ∧ Own w' v' (readL p s) ∧ Old W w' ∧ ∀ g, v'.ownBlock = some g → W.heap.size ≤ g := by
  obtain ⟨d, rfl, rfl, h3, h4, h5, h6⟩ := h
  exact dread_any d s W h3
def keysP (fs : PFs) : List ByteArray := fs.map (·.1)
theorem namesD (w0 W : World) (db : Nat) (p : PD) (A : List Nat) (h : Dsk w0 W db p A) : Calls Tryz.prog 13 #[.pointer (some ⟨db, 0, none⟩)] W fun e w' => ∃ v S, e = .returned v ∧ S.Perm (keysP p.fs) ∧ S.Pairwise leN ∧ OwnS W.heap.size w' v S ∧ Old W w' := by
  obtain ⟨d, rfl, rfl, h3, h4, h5, h6⟩ := h
  refine (names_any d W h3).mono fun e w' q => ?_
  obtain ⟨v, S, e1, e2, r⟩ := q
  refine ⟨v, S, e1, ?_, r⟩
  show S.Perm ((d.M.map pf).map (·.1))
  rw [List.map_map]
  exact e2
theorem crashD (w0 W : World) (db : Nat) (p : PD) (A : List Nat) (vk : Value) (kp : List Bool) (h : Dsk w0 W db p A) (hk : BRow W vk kp) (hsh : vk = .slice none 0 0 ∨ (∃ b off n c, vk = .slice (some ⟨b, off, none⟩) n c) ∨ ∃ a, vk = .slice (some a) 0 0) (hu : 0 < kp.length → ∀ g, vk.ownBlock = some g → g < w0.heap.size ∨ g ∈ A) : Calls Tryz.prog 11 #[.pointer (some ⟨db, 0, none⟩), vk] W fun e w' => e = .returned (.tuple #[]) ∧ ∃ S, S.Perm (keysP p.fs) ∧ S.Pairwise leN ∧ Dsk w0 w' db (crashP p S kp) A ∧ Kp A W w' := by
  obtain ⟨d, rfl, rfl, h3, h4, h5, h6⟩ := h
  refine (dcrash_any d vk kp W h3 hk hsh (fun h0 g e hin => by
    rcases hu h0 g e with z | z
    · have := h4 g hin; omega
    · exact (h6 g z).1 hin)).mono fun e w' q => ?_
  obtain ⟨e1, S, q1, q2, r⟩ := q
  refine ⟨e1, S, ?_, q2, Dsk.res h4 h5 h6 r⟩
  show S.Perm ((d.M.map pf).map (·.1))
  rw [List.map_map]
  exact q1
end Go.Proofs.YtfphopleniidfaaGreatDoor
