/- disk.Loose at every disk: the sum over the files, in whatever order they come; conditions: the disk lies in memory. -/
import Derived.Test.YtfphopleniidfaaGreatDoorDl
import Derived.Maps.RangeRun
namespace Go.Proofs.YtfphopleniidfaaGreatDoor
open Go.RowKit Go.Lib Go.MapKept
set_option linter.unusedVariables false
set_option linter.unusedSimpArgs false
set_option maxRecDepth 20000
def cntF (f : Fl) : Nat := (looL f.now f.safe).length
theorem cntF_le {w : World} {f : Fl} (h : FlAt w f) : cntF f ≤ 2048 := by
  have h1 := looK_len f.now f.safe (nSec f.now)
  have h2 := h.ln
  unfold cntF looL
  unfold nSec at *
  omega
/-- What the file of a pointer counts. -/
def wtB (M : List (ByteArray × Fl)) (b : Nat) : Nat := match M with | [] => 0 | p :: t => if p.2.fb = b then cntF p.2 else wtB t b
def wtV (M : List (ByteArray × Fl)) : Value → Nat | .pointer (some a) => wtB M a.block | _ => 0
def seenW (wt : Value → Nat) : List MapEntry → Array Nat → Nat
  | [], _ => 0
  | x :: l, seen => (if seen.contains x.born then wt x.val else 0) + seenW wt l seen
theorem seenW_other (wt : Value → Nat) (seen : Array Nat) (b : Nat) : ∀ (es : List MapEntry), b ∉ es.map (·.born) → seenW wt es (seen.push b) = seenW wt es seen
  | [], _ => rfl
  | x :: l, h => by
    have hx : (x.born == b) = false := by
      cases hc : x.born == b with
      | false => rfl
      | true => exact absurd (List.mem_cons.2 (Or.inl (beq_iff_eq.1 hc).symm)) h
    have ih := seenW_other wt seen b l (fun e => h (List.mem_cons.2 (Or.inr e)))
    simp only [seenW, contains_push, hx, Bool.or_false, ih]
theorem seenW_push (wt : Value → Nat) (seen : Array Nat) (e : MapEntry) (hs : seen.contains e.born = false) : ∀ (es : List MapEntry), (es.map (·.born)).Nodup → e ∈ es → seenW wt es (seen.push e.born) = seenW wt es seen + wt e.val
  | x :: l, hn, he => by
    have hn' : x.born ∉ l.map (·.born) ∧ (l.map (·.born)).Nodup := List.nodup_cons.1 hn
    rcases List.mem_cons.1 he with rfl | h
    · have ih := seenW_other wt seen e.born l hn'.1
      simp only [seenW, contains_push, hs, beq_self_eq_true, Bool.or_true, Bool.false_eq_true, if_true, if_false, ih]
      omega
    · have hx : (x.born == e.born) = false := by
        cases hc : x.born == e.born with
        | false => rfl
        | true => exact absurd (by rw [beq_iff_eq.1 hc]; exact List.mem_map.2 ⟨e, h, rfl⟩) hn'.1
      have ih := seenW_push wt seen e hs l hn'.2 h
      simp only [seenW, contains_push, hx, Bool.or_false, ih]
      omega
def sumW (wt : Value → Nat) : List MapEntry → Nat | [] => 0 | x :: l => wt x.val + sumW wt l
theorem seenW_none (wt : Value → Nat) : ∀ es, seenW wt es #[] = 0
  | [] => rfl
  | x :: l => by simp [seenW, seenW_none wt l]
theorem seenW_le (wt : Value → Nat) (seen : Array Nat) : ∀ es, seenW wt es seen ≤ sumW wt es
  | [] => Nat.le_refl _
  | x :: l => by
    have := seenW_le wt seen l
    unfold seenW sumW
    split <;> omega
theorem seenW_all (wt : Value → Nat) (seen : Array Nat) : ∀ es : List MapEntry, (∀ x ∈ es, seen.contains x.born = true) → seenW wt es seen = sumW wt es
  | [], _ => rfl
  | x :: l, h => by
    unfold seenW sumW
    rw [h x (by simp), if_pos rfl, seenW_all wt seen l (fun y hy => h y (List.mem_cons_of_mem _ hy))]
theorem left_none {es : Array MapEntry} {seen : Array Nat} (h : (leftOf es seen).size = 0) : ∀ x ∈ es.toList, seen.contains x.born = true := fun x hx => by
  cases hc : seen.contains x.born with
  | true => rfl
  | false =>
    have : x ∈ leftOf es seen := Array.mem_filter.2 ⟨by simpa using hx, by rw [hc]; rfl⟩
    have h2 := Array.eq_empty_of_size_eq_zero h
    rw [h2] at this
    simp at this
def looN (fs : PFs) : Nat := match fs with | [] => 0 | q :: t => (looL q.2.now q.2.safe).length + looN t
theorem sumW_map (wt : Value → Nat) : ∀ (es : List MapEntry) (M : List (ByteArray × Fl)), es.map (·.val) = M.map (fun p => (pof p).2) → (∀ p ∈ M, wt (pof p).2 = cntF p.2) → sumW wt es = looN (M.map pf)
  | [], [], _, _ => rfl
  | [], p :: M, h, _ => by simp at h
  | x :: l, [], h, _ => by simp at h
  | x :: l, p :: M, h, hw => by
    rw [List.map_cons, List.map_cons, List.cons.injEq] at h
    show wt x.val + sumW wt l = looN (pf p :: M.map pf)
    rw [h.1, hw p (by simp), sumW_map wt l M h.2 (fun q hq => hw q (List.mem_cons_of_mem _ hq))]
    rfl
theorem wtV_at {w : World} {d : Dk} (h : DkAt w d) : ∀ p ∈ d.M, wtV d.M (pof p).2 = cntF p.2 := by
  have key : ∀ (M : List (ByteArray × Fl)), (∀ p ∈ M, p ∈ d.M) → (M.map (·.1)).Nodup → ∀ p ∈ M, wtB M p.2.fb = cntF p.2 := by
    intro M
    induction M with
    | nil => intro _ _ p hp; cases hp
    | cons q t ih =>
      intro hs hn p hp
      rw [List.map_cons, List.nodup_cons] at hn
      unfold wtB
      by_cases e : q.2.fb = p.2.fb
      · rw [if_pos e]
        by_cases c : q.1 = p.1
        · rcases List.mem_cons.1 hp with rfl | hp'
          · rfl
          · exact absurd (List.mem_map.2 ⟨p, hp', c.symm⟩) hn.1
        · exact absurd (Fl.mem.2 (.inl e)) (h.far q (hs q (by simp)) p (hs p hp) c q.2.fb (Fl.mem.2 (.inl rfl)))
      · rw [if_neg e]
        rcases List.mem_cons.1 hp with rfl | hp'
        · exact absurd rfl e
        · exact ih (fun x hx => hs x (List.mem_cons_of_mem _ hx)) hn.2 p hp'
  exact key d.M (fun p hp => hp) h.nod
theorem setBlock_at {w : World} {r : Nat} {o o' : Obj} (h : w.heap[r]? = some o) : (Go.ChangeMaps.setBlock w r o').heap[r]? = some o' := by
  have := heap_lt h
  simp [Go.ChangeMaps.setBlock, this]
theorem setBlock_old {w0 w : World} {r : Nat} {o' : Obj} (h : Old w0 w) (hr : w0.heap.size ≤ r) : Old w0 (Go.ChangeMaps.setBlock w r o') :=
  h.below ⟨rfl, rfl, rfl, by simp [Go.ChangeMaps.setBlock], fun k hk => by simp only [Go.ChangeMaps.setBlock, Array.getElem?_setIfInBounds]; rw [if_neg (by omega)]⟩
theorem iterSeen_of {w : World} {r : Nat} {a : Option Nat} {b : Nat} {s : Array Nat} {c : Nat} (h : w.heap[r]? = some (.mapIter a b s c)) : w.iterSeen r = s := by
  unfold World.iterSeen
  rw [h]
theorem looN_le {w : World} {d : Dk} (h : DkAt w d) : ∀ (M : List (ByteArray × Fl)), (∀ p ∈ M, p ∈ d.M) → looN (M.map pf) ≤ 2048 * M.length
  | [], _ => Nat.le_refl _
  | p :: t, hs => by
    have h1 := looN_le h t (fun q hq => hs q (List.mem_cons_of_mem _ hq))
    have h2 := cntF_le (h.files p (hs p (by simp)))
    show (looL p.2.now p.2.safe).length + looN (t.map pf) ≤ _
    unfold cntF at h2
    simp
    omega

end Go.Proofs.YtfphopleniidfaaGreatDoor
