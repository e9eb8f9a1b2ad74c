/- A disk without its memory; a disk whose files come, go and are renamed; plain. -/
import Derived.Test.YtfphopleniidfaaGreatDoorDf
namespace Go.Proofs.YtfphopleniidfaaGreatDoor
open Go.RowKit Go.Lib
set_option linter.unusedVariables false
set_option linter.unusedSimpArgs false
set_option maxRecDepth 20000
/-- A file: its bytes now, its safe ones. -/
structure PF where
  now : List Nat
  safe : List Nat
abbrev PFs := List (ByteArray × PF)
structure PD where
  fs : PFs
  down : Bool
  fail : Int
def Fl.p (f : Fl) : PF := ⟨f.now, f.safe⟩
def pf (q : ByteArray × Fl) : ByteArray × PF := (q.1, q.2.p)
def Dk.p (d : Dk) : PD := ⟨d.M.map pf, d.down, d.fail⟩
def getP : PFs → ByteArray → Option PF
  | [], _ => none
  | q :: t, s => if q.1 = s then some q.2 else getP t s
theorem getP_of : ∀ (M : List (ByteArray × Fl)) (s : ByteArray), getP (M.map pf) s = (getF M s).map Fl.p
  | [], s => rfl
  | p :: t, s => by
    show getP (pf p :: t.map pf) s = _
    unfold getP getF
    by_cases q : p.1 = s
    · rw [if_pos (show (pf p).1 = s from q), if_pos q]; rfl
    · rw [if_neg (show ¬ (pf p).1 = s from q), if_neg q]; exact getP_of t s
def setP (fs : PFs) (s : ByteArray) (x : PF) : PFs := fs.map fun q => if q.1 = s then (q.1, x) else q
theorem setP_of (M : List (ByteArray × Fl)) (s : ByteArray) (f' : Fl) : (setF M s f').map pf = setP (M.map pf) s f'.p := by
  unfold setF setP
  rw [List.map_map, List.map_map]
  apply List.map_congr_left
  intro p _
  show pf (if p.1 = s then (p.1, f') else p) = if (pf p).1 = s then ((pf p).1, f'.p) else pf p
  by_cases q : p.1 = s
  · rw [if_pos q, if_pos (show (pf p).1 = s from q)]; rfl
  · rw [if_neg q, if_neg (show ¬ (pf p).1 = s from q)]
def delP (fs : PFs) (s : ByteArray) : PFs := fs.filter fun q => decide (q.1 ≠ s)
def putP : PFs → ByteArray → PF → PFs
  | [], s, x => [(s, x)]
  | q :: t, s, x => if q.1 = s then (s, x) :: t else q :: putP t s x
def delF (M : List (ByteArray × Fl)) (s : ByteArray) : List (ByteArray × Fl) := M.filter fun q => decide (q.1 ≠ s)
def putF : List (ByteArray × Fl) → ByteArray → Fl → List (ByteArray × Fl)
  | [], s, x => [(s, x)]
  | q :: t, s, x => if q.1 = s then (s, x) :: t else q :: putF t s x
theorem delF_pf (M : List (ByteArray × Fl)) (s : ByteArray) : (delF M s).map pf = delP (M.map pf) s := by
  unfold delF delP
  rw [List.filter_map]
  rfl
theorem delF_pof (M : List (ByteArray × Fl)) (s : ByteArray) : (delF M s).map pof = mdel s (M.map pof) := by
  unfold delF mdel
  rw [List.filter_map]
  rfl
theorem putF_pf : ∀ (M : List (ByteArray × Fl)) (s : ByteArray) (f : Fl), (putF M s f).map pf = putP (M.map pf) s f.p
  | [], s, f => rfl
  | p :: t, s, f => by
    show (putF (p :: t) s f).map pf = putP (pf p :: t.map pf) s f.p
    unfold putF putP
    by_cases q : p.1 = s
    · rw [if_pos q, if_pos (show (pf p).1 = s from q)]; rfl
    · rw [if_neg q, if_neg (show ¬ (pf p).1 = s from q), List.map_cons, putF_pf t s f]
theorem putF_pof : ∀ (M : List (ByteArray × Fl)) (s : ByteArray) (f : Fl), (putF M s f).map pof = mput s (.pointer (some ⟨f.fb, 0, none⟩)) (M.map pof)
  | [], s, f => rfl
  | p :: t, s, f => by
    show (putF (p :: t) s f).map pof = mput s _ (pof p :: t.map pof)
    unfold putF mput
    by_cases q : p.1 = s
    · rw [if_pos q, if_pos (show (pof p).1 = s from q)]; rfl
    · rw [if_neg q, if_neg (show ¬ (pof p).1 = s from q), List.map_cons, putF_pof t s f]
theorem putF_mem : ∀ {M : List (ByteArray × Fl)} {s : ByteArray} {f : Fl} {p : ByteArray × Fl}, (M.map (·.1)).Nodup → p ∈ putF M s f → p = (s, f) ∨ (p ∈ M ∧ p.1 ≠ s)
  | [], s, f, p, _, h => by simp [putF] at h; exact .inl h
  | q :: t, s, f, p, hn, h => by
    rw [List.map_cons, List.nodup_cons] at hn
    unfold putF at h
    split at h
    · rename_i e
      rcases List.mem_cons.1 h with z | z
      · exact .inl z
      · exact .inr ⟨List.mem_cons_of_mem _ z, fun c => hn.1 (by rw [e, ← c]; exact List.mem_map.2 ⟨p, z, rfl⟩)⟩
    · rename_i e
      rcases List.mem_cons.1 h with z | z
      · exact .inr ⟨by rw [z]; exact List.mem_cons_self .., by rw [z]; exact e⟩
      · rcases putF_mem hn.2 z with y | y
        · exact .inl y
        · exact .inr ⟨List.mem_cons_of_mem _ y.1, y.2⟩
theorem putF_len : ∀ (M : List (ByteArray × Fl)) (s : ByteArray) (f : Fl), (putF M s f).length ≤ M.length + 1
  | [], s, f => by simp [putF]
  | q :: t, s, f => by
    unfold putF
    have := putF_len t s f
    split <;> simp <;> omega
theorem putF_new : ∀ {M : List (ByteArray × Fl)} {s : ByteArray} {f : Fl}, (∀ p ∈ M, p.1 ≠ s) → putF M s f = M ++ [(s, f)]
  | [], s, f, _ => rfl
  | q :: t, s, f, h => by
    unfold putF
    rw [if_neg (h q (by simp)), putF_new (fun p hp => h p (List.mem_cons_of_mem _ hp))]
    rfl
/-- The map's block written: files go, or have other names. -/
theorem DkAt.remap {w w' : World} {d : Dk} (h : DkAt w d) (M' : List (ByteArray × Fl)) (hm : MapIs w' d.mb (M'.map pof)) (u : Chg [d.mb] w w') (hl : M'.length ≤ 256)
    (sub : ∀ p ∈ M', ∃ q ∈ d.M, q.2 = p.2) (inj : ∀ p ∈ M', ∀ q ∈ M', p.1 ≠ q.1 → ∃ a ∈ d.M, ∃ b ∈ d.M, a.1 ≠ b.1 ∧ a.2 = p.2 ∧ b.2 = q.2) : DkAt w' { d with M := M' } ∧ Mv w d w' { d with M := M' } := by
  have uB : ChgB (fun b => b = d.mb) w w' := ChgB.of u (fun b e => by simpa using e)
  refine ⟨⟨uB.heapAt h.disk h.ne, hm, fun p hp => ?_, h.ne, fun p hp b hb => ?_, fun p hp q hq hne b hb => ?_, h.fl, hl⟩, ChgB.of u (fun b e => by simp at e; exact .inr (.inl e)), fun b hb => ?_, rfl⟩
  · obtain ⟨q, hq, e⟩ := sub p hp
    rw [← e]
    exact (h.files q hq).chgB uB (fun b hb z => (h.out q hq b hb).2 z)
  · obtain ⟨q, hq, e⟩ := sub p hp
    rw [← e] at hb
    exact h.out q hq b hb
  · obtain ⟨a, ha, c, hc, hne', e1, e2⟩ := inj p hp q hq hne
    rw [← e1] at hb
    rw [← e2]
    exact h.far a ha c hc hne' b hb
  · rcases hb with e | e | ⟨p, hp, hbp⟩
    · exact .inl (.inl e)
    · exact .inl (.inr (.inl e))
    · obtain ⟨q, hq, e⟩ := sub p hp
      exact .inl (.inr (.inr ⟨q, hq, by rw [e]; exact hbp⟩))
theorem DkAt.remove {w w' : World} {d : Dk} (h : DkAt w d) (s : ByteArray) (hm : MapIs w' d.mb (mdel s (d.M.map pof))) (u : Chg [d.mb] w w') : DkAt w' { d with M := delF d.M s } ∧ Mv w d w' { d with M := delF d.M s } := by
  have mem : ∀ p ∈ delF d.M s, p ∈ d.M := fun p hp => (List.mem_filter.1 hp).1
  refine h.remap (delF d.M s) (by rw [delF_pof]; exact hm) u ?_ (fun p hp => ⟨p, mem p hp, rfl⟩) (fun p hp q hq hne => ⟨p, mem p hp, q, mem q hq, hne, rfl, rfl⟩)
  have := List.length_filter_le (fun q : ByteArray × Fl => decide (q.1 ≠ s)) d.M
  have := h.few
  show (delF d.M s).length ≤ 256
  unfold delF
  omega
theorem DkAt.rename {w w' : World} {d : Dk} (h : DkAt w d) (s t : ByteArray) (f : Fl) (hf : (s, f) ∈ d.M) (hm : MapIs w' d.mb (mput t (.pointer (some ⟨f.fb, 0, none⟩)) (mdel s (d.M.map pof)))) (u : Chg [d.mb] w w') : DkAt w' { d with M := putF (delF d.M s) t f } ∧ Mv w d w' { d with M := putF (delF d.M s) t f } := by
  have nod : ((delF d.M s).map (·.1)).Nodup := (h.nod).sublist ((List.filter_sublist).map _)
  have mem : ∀ p ∈ delF d.M s, p ∈ d.M ∧ p.1 ≠ s := fun p hp => ⟨(List.mem_filter.1 hp).1, by simpa using (List.mem_filter.1 hp).2⟩
  have cs : ∀ p ∈ putF (delF d.M s) t f, p = (t, f) ∨ (p ∈ d.M ∧ p.1 ≠ s ∧ p.1 ≠ t) := fun p hp => by
    rcases putF_mem nod hp with z | ⟨z, z2⟩
    · exact .inl z
    · exact .inr ⟨(mem p z).1, (mem p z).2, z2⟩
  refine h.remap (putF (delF d.M s) t f) (by rw [putF_pof, delF_pof]; exact hm) u ?_ (fun p hp => ?_) (fun p hp q hq hne => ?_)
  · have h1 := putF_len (delF d.M s) t f
    have h2 : (delF d.M s).length < d.M.length := by
      unfold delF
      rw [List.length_filter_lt_length_iff_exists]
      exact ⟨(s, f), hf, by simp⟩
    have := h.few
    omega
  · rcases cs p hp with e | e
    · exact ⟨(s, f), hf, by rw [e]⟩
    · exact ⟨p, e.1, rfl⟩
  · rcases cs p hp with e | e
    · rcases cs q hq with e' | e'
      · exact absurd (by rw [e, e']) hne
      · exact ⟨(s, f), hf, q, e'.1, fun z => e'.2.1 z.symm, by rw [e], rfl⟩
    · rcases cs q hq with e' | e'
      · exact ⟨p, e.1, (s, f), hf, e.2.1, rfl, by rw [e']⟩
      · exact ⟨p, e.1, q, e'.1, hne, rfl, rfl⟩
/-- A new file. -/
def nFl (b : Nat) : Fl := ⟨b, .slice none 0 0, .slice none 0 0, [], []⟩
theorem nFl_at (w : World) : FlAt (w.alloc (.cells #[.slice none 0 0, .slice none 0 0] 103)) (nFl w.heap.size) :=
  ⟨alloc_at w _, Own.nil _, Own.nil _, by simp [nFl], by simp [nFl], (fun b e => by cases e), (fun b e => by cases e)⟩
theorem DkAt.create {w w' : World} {d : Dk} (h : DkAt w d) (s : ByteArray) (hs : getF d.M s = none) (hl : d.M.length < 256) (hm : MapIs w' d.mb (mput s (.pointer (some ⟨w.heap.size, 0, none⟩)) (d.M.map pof))) (u : Chg [d.mb] (w.alloc (.cells #[.slice none 0 0, .slice none 0 0] 103)) w') : DkAt w' { d with M := d.M ++ [(s, nFl w.heap.size)] } ∧ Mv w d w' { d with M := d.M ++ [(s, nFl w.heap.size)] } := by
  have hn := getF_none hs
  have lt := h.lt
  have uo : Old w (w.alloc (.cells #[.slice none 0 0, .slice none 0 0] 103)) := (Old.refl w).alloc _
  have h1 := h.old uo
  have uB : ChgB (fun b => b = d.mb) (w.alloc (.cells #[.slice none 0 0, .slice none 0 0] 103)) w' := ChgB.of u (fun b e => by simpa using e)
  have hb : ∀ b ∈ (nFl w.heap.size).blocks, b = w.heap.size := fun b e => by
    rcases Fl.mem.1 e with z | z | z
    · exact z
    · cases z
    · cases z
  have hmb := lt d.mb (.inr (.inl rfl))
  have hdb := lt d.db (.inl rfl)
  have cs : ∀ p ∈ d.M ++ [(s, nFl w.heap.size)], p ∈ d.M ∨ p = (s, nFl w.heap.size) := fun p hp => by
    rcases List.mem_append.1 hp with z | z
    · exact .inl z
    · exact .inr (by simpa using z)
  have sz : w'.heap.size = w'.heap.size := rfl
  have szu := u.size
  simp at szu
  refine ⟨⟨uB.heapAt h1.disk h.ne, ?_, fun p hp => ?_, h.ne, fun p hp b hb' => ?_, fun p hp q hq hne b hb' => ?_, h.fl, by simp; omega⟩, ⟨u.os.trans uo.os, u.tape.trans uo.tape, u.output.trans uo.output, by omega, fun k hk hk2 => ?_⟩, fun b hb' => ?_, rfl⟩
  · have e : mput s (.pointer (some ⟨w.heap.size, 0, none⟩)) (d.M.map pof) = (d.M ++ [(s, nFl w.heap.size)]).map pof := by
      rw [← putF_new (fun p hp => hn p hp), putF_pof]
      rfl
    rw [← e]
    exact hm
  · rcases cs p hp with z | z
    · exact (h1.files p z).chgB uB (fun b hb e => (h.out p z b hb).2 e)
    · rw [z]
      exact (nFl_at w).chgB uB (fun b e z => by have := hb b e; omega)
  · rcases cs p hp with z | z
    · exact h.out p z b hb'
    · rw [z] at hb'
      have := hb b hb'
      exact ⟨fun e => by have e2 : b = d.db := e; omega, fun e => by have e2 : b = d.mb := e; omega⟩
  · rcases cs p hp with z | z
    · rcases cs q hq with y | y
      · exact h.far p z q y hne b hb'
      · rw [y]
        intro e
        have := hb b e
        have := lt b (.inr (.inr ⟨p, z, hb'⟩))
        omega
    · rcases cs q hq with y | y
      · rw [z] at hb'
        intro e
        have := hb b hb'
        have := lt b (.inr (.inr ⟨q, y, e⟩))
        omega
      · exact absurd (by rw [z, y]) hne
  · rw [u.block k (by simp; omega) (fun e => hk2 (by simp at e; exact .inr (.inl e))), Below.block uo k hk]
  · rcases hb' with e | e | ⟨p, hp, hbp⟩
    · exact .inl (.inl e)
    · exact .inl (.inr (.inl e))
    · rcases cs p hp with z | z
      · exact .inl (.inr (.inr ⟨p, z, hbp⟩))
      · rw [z] at hbp
        have := hb b hbp
        exact .inr (by omega)
end Go.Proofs.YtfphopleniidfaaGreatDoor
