/- disk.Loose at every disk: the sum over the files, in whatever order they come; conditions: the disk lies in memory. -/
import Derived.Test.YtibeeamenhcngaaDl
import Derived.Maps.RangeRun
namespace Go.Proofs.Ytibeeamenhcngaa
open Go.RowKit Go.Lib Go.MapKept
set_option linter.unusedVariables false
set_option linter.unusedSimpArgs false
set_option maxRecDepth 20000
def cntF (f : Fl) : Nat := (looL f.now f.safe).length
theorem cntF_le {w : World} {f : Fl} (h : FlAt w f) : cntF f ≤ 2048 := by
  have h1 := looK_len f.now f.safe (nSec f.now)
  have h2 := h.ln
  unfold cntF looL
  unfold nSec at *
  omega
/-- What the file of a pointer counts. -/
def wtB (M : List (ByteArray × Fl)) (b : Nat) : Nat := match M with | [] => 0 | p :: t => if p.2.fb = b then cntF p.2 else wtB t b
def wtV (M : List (ByteArray × Fl)) : Value → Nat | .pointer (some a) => wtB M a.block | _ => 0
def seenW (wt : Value → Nat) : List MapEntry → Array Nat → Nat
  | [], _ => 0
  | x :: l, seen => (if seen.contains x.born then wt x.val else 0) + seenW wt l seen
theorem seenW_other (wt : Value → Nat) (seen : Array Nat) (b : Nat) : ∀ (es : List MapEntry), b ∉ es.map (·.born) → seenW wt es (seen.push b) = seenW wt es seen
  | [], _ => rfl
  | x :: l, h => by
    have hx : (x.born == b) = false := by
      cases hc : x.born == b with
      | false => rfl
      | true => exact absurd (List.mem_cons.2 (Or.inl (beq_iff_eq.1 hc).symm)) h
    have ih := seenW_other wt seen b l (fun e => h (List.mem_cons.2 (Or.inr e)))
    simp only [seenW, contains_push, hx, Bool.or_false, ih]
theorem seenW_push (wt : Value → Nat) (seen : Array Nat) (e : MapEntry) (hs : seen.contains e.born = false) : ∀ (es : List MapEntry), (es.map (·.born)).Nodup → e ∈ es → seenW wt es (seen.push e.born) = seenW wt es seen + wt e.val
  | x :: l, hn, he => by
    have hn' : x.born ∉ l.map (·.born) ∧ (l.map (·.born)).Nodup := List.nodup_cons.1 hn
    rcases List.mem_cons.1 he with rfl | h
    · have ih := seenW_other wt seen e.born l hn'.1
      simp only [seenW, contains_push, hs, beq_self_eq_true, Bool.or_true, Bool.false_eq_true, if_true, if_false, ih]
      omega
    · have hx : (x.born == e.born) = false := by
        cases hc : x.born == e.born with
        | false => rfl
        | true => exact absurd (by rw [beq_iff_eq.1 hc]; exact List.mem_map.2 ⟨e, h, rfl⟩) hn'.1
      have ih := seenW_push wt seen e hs l hn'.2 h
      simp only [seenW, contains_push, hx, Bool.or_false, ih]
      omega
def sumW (wt : Value → Nat) : List MapEntry → Nat | [] => 0 | x :: l => wt x.val + sumW wt l
theorem seenW_none (wt : Value → Nat) : ∀ es, seenW wt es #[] = 0
  | [] => rfl
  | x :: l => by simp [seenW, seenW_none wt l]
theorem seenW_le (wt : Value → Nat) (seen : Array Nat) : ∀ es, seenW wt es seen ≤ sumW wt es
  | [] => Nat.le_refl _
  | x :: l => by
    have := seenW_le wt seen l
    unfold seenW sumW
    split <;> omega
theorem seenW_all (wt : Value → Nat) (seen : Array Nat) : ∀ es : List MapEntry, (∀ x ∈ es, seen.contains x.born = true) → seenW wt es seen = sumW wt es
  | [], _ => rfl
  | x :: l, h => by
    unfold seenW sumW
    rw [h x (by simp), if_pos rfl, seenW_all wt seen l (fun y hy => h y (List.mem_cons_of_mem _ hy))]
theorem left_none {es : Array MapEntry} {seen : Array Nat} (h : (leftOf es seen).size = 0) : ∀ x ∈ es.toList, seen.contains x.born = true := fun x hx => by
  cases hc : seen.contains x.born with
  | true => rfl
  | false =>
    have : x ∈ leftOf es seen := Array.mem_filter.2 ⟨by simpa using hx, by rw [hc]; rfl⟩
    have h2 := Array.eq_empty_of_size_eq_zero h
    rw [h2] at this
    simp at this
def looN (fs : PFs) : Nat := match fs with | [] => 0 | q :: t => (looL q.2.now q.2.safe).length + looN t
theorem sumW_map (wt : Value → Nat) : ∀ (es : List MapEntry) (M : List (ByteArray × Fl)), es.map (·.val) = M.map (fun p => (pof p).2) → (∀ p ∈ M, wt (pof p).2 = cntF p.2) → sumW wt es = looN (M.map pf)
  | [], [], _, _ => rfl
  | [], p :: M, h, _ => by simp at h
  | x :: l, [], h, _ => by simp at h
  | x :: l, p :: M, h, hw => by
    rw [List.map_cons, List.map_cons, List.cons.injEq] at h
    show wt x.val + sumW wt l = looN (pf p :: M.map pf)
    rw [h.1, hw p (by simp), sumW_map wt l M h.2 (fun q hq => hw q (List.mem_cons_of_mem _ hq))]
    rfl
theorem wtV_at {w : World} {d : Dk} (h : DkAt w d) : ∀ p ∈ d.M, wtV d.M (pof p).2 = cntF p.2 := by
  have key : ∀ (M : List (ByteArray × Fl)), (∀ p ∈ M, p ∈ d.M) → (M.map (·.1)).Nodup → ∀ p ∈ M, wtB M p.2.fb = cntF p.2 := by
    intro M
    induction M with
    | nil => intro _ _ p hp; cases hp
    | cons q t ih =>
      intro hs hn p hp
      rw [List.map_cons, List.nodup_cons] at hn
      unfold wtB
      by_cases e : q.2.fb = p.2.fb
      · rw [if_pos e]
        by_cases c : q.1 = p.1
        · rcases List.mem_cons.1 hp with rfl | hp'
          · rfl
          · exact absurd (List.mem_map.2 ⟨p, hp', c.symm⟩) hn.1
        · exact absurd (Fl.mem.2 (.inl e)) (h.far q (hs q (by simp)) p (hs p hp) c q.2.fb (Fl.mem.2 (.inl rfl)))
      · rw [if_neg e]
        rcases List.mem_cons.1 hp with rfl | hp'
        · exact absurd rfl e
        · exact ih (fun x hx => hs x (List.mem_cons_of_mem _ hx)) hn.2 p hp'
  exact key d.M (fun p hp => hp) h.nod
theorem setBlock_at {w : World} {r : Nat} {o o' : Obj} (h : w.heap[r]? = some o) : (Go.ChangeMaps.setBlock w r o').heap[r]? = some o' := by
  have := heap_lt h
  simp [Go.ChangeMaps.setBlock, this]
theorem setBlock_old {w0 w : World} {r : Nat} {o' : Obj} (h : Old w0 w) (hr : w0.heap.size ≤ r) : Old w0 (Go.ChangeMaps.setBlock w r o') :=
  h.below ⟨rfl, rfl, rfl, by simp [Go.ChangeMaps.setBlock], fun k hk => by simp only [Go.ChangeMaps.setBlock, Array.getElem?_setIfInBounds]; rw [if_neg (by omega)]⟩
theorem iterSeen_of {w : World} {r : Nat} {a : Option Nat} {b : Nat} {s : Array Nat} {c : Nat} (h : w.heap[r]? = some (.mapIter a b s c)) : w.iterSeen r = s := by
  unfold World.iterSeen
  rw [h]
theorem looN_le {w : World} {d : Dk} (h : DkAt w d) : ∀ (M : List (ByteArray × Fl)), (∀ p ∈ M, p ∈ d.M) → looN (M.map pf) ≤ 2048 * M.length
  | [], _ => Nat.le_refl _
  | p :: t, hs => by
    have h1 := looN_le h t (fun q hq => hs q (List.mem_cons_of_mem _ hq))
    have h2 := cntF_le (h.files p (hs p (by simp)))
    show (looL p.2.now p.2.safe).length + looN (t.map pf) ≤ _
    unfold cntF at h2
    simp
    omega
set_option maxHeartbeats 4000000 in
set_option maxRecDepth 20000 in
theorem dloose_any (d : Dk) (w : World) (h : DkAt w d) : Calls Try.prog 10 #[.pointer (some ⟨d.db, 0, none⟩)] w fun e w' => e = .returned (.int .i64 (looN d.p.fs : Nat)) ∧ Old w w' := by
  obtain ⟨⟨c0, c1, c2⟩, _⟩ := h.cells
  have hfew := h.few
  have hle := looN_le h d.M (fun p hp => hp)
  have hwt := wtV_at h
  obtain ⟨es, clock, m1, m2, m3, m4⟩ := h.map
  have hmb := heap_lt m1
  have hst := (stamped_iff es clock).1 m2
  have hsum : sumW (wtV d.M) es.toList = looN (d.M.map pf) := sumW_map (wtV d.M) es.toList d.M (by
    have := congrArg (List.map Prod.snd) m3
    simpa [List.map_map, Function.comp_def, enM] using this) hwt
  have HLo := hid (show ∀ e ∈ es.toList, ∃ f : Fl, e.val = .pointer (some ⟨f.fb, 0, none⟩) ∧ wtV d.M e.val = cntF f ∧ ∀ W, Old w W → Calls Try.prog 26 #[.pointer (some ⟨f.fb, 0, none⟩)] W fun e w' => ∃ v', e = .returned v' ∧ OwnI W.heap.size w' v' (nI (looL f.now f.safe)) ∧ Old W w' from fun e he => by
    obtain ⟨q, hq, e1, e2⟩ := ent_mem m3 he
    obtain ⟨p, hp, rfl⟩ := List.mem_map.1 hq
    have e2' : e.val = (pof p).2 := e2
    refine ⟨p.2, by rw [e2']; rfl, by rw [e2', hwt p hp], fun W u => loose_any p.2 W ((h.old u).files p hp)⟩)
  have hrg := run_range_map (P := Try.prog) w 56 9 61 d.mb es clock Try.underlying56 m1
  have hN : looN d.p.fs = looN (d.M.map pf) := rfl
  rw [hN]
  generalize looN (d.M.map pf) = T at *
  have HS := hid hsum
  have HSt := hid hst
  have HM1 := hid m1
  clear h hwt m1 m2 m3 m4 hsum hst hN
  generalize d.db = db at *
  generalize d.mb = mb at *
  generalize wtV d.M = wt at *
  have hT : T ≤ 1000000 := by omega
  clear hle hfew
  go_enter Try.func10, Try.ntmps10
  go_upto_region 3 with (fail)
  have R0 := hid (show (w.alloc (.mapIter (some mb) clock #[] clock)).heap[w.heap.size]? = some (.mapIter (some mb) clock #[] clock) from alloc_at w _)
  have U0 := hid (show Old w (w.alloc (.mapIter (some mb) clock #[] clock)) from (Old.refl w).alloc _)
  have hr0 : w.heap.size ≤ w.heap.size := Nat.le_refl _
  have HR0 := hid hr0
  clear hrg c0 c1 c2 hr0
  generalize w.alloc (.mapIter (some mb) clock #[] clock) = w1 at *
  obtain ⟨r, hr⟩ : ∃ r, r = w.heap.size := ⟨_, rfl⟩
  rw [← hr] at R0 ⊢
  have HR := hid (show w.heap.size ≤ r from by omega)
  have HMb := hid hmb
  clear hr HR0 hmb
  go_loopw [3] (fun n wr => ∃ (seen : Array Nat) (c0 s : Nat), n = .int .i64 (s : Nat) ∧ s = seenW wt es.toList seen ∧ wr.heap[r]? = some (.mapIter (some mb) clock seen c0) ∧ clock ≤ c0 ∧ Old w wr) (fun _ wr => (leftOf es (wr.iterSeen r)).size)
  case atStart => exact ⟨#[], clock, 0, rfl, (seenW_none wt _).symm, R0.out, Nat.le_refl _, U0.out⟩
  case round =>
    obtain ⟨seen, c0, s, rfl, hs, hr, hc, hu⟩ := hrel
    have UU := hid hu
    have HSs := hid hs
    have hb := hu.block HM1.out
    have hle := seenW_le wt seen es.toList
    rw [← hs, HS.out] at hle
    clear R0 U0 hs
    rcases run_next_at (P := Try.prog) wr 0 r mb clock c0 seen es clock hr hb HSt.out.1 hc with ⟨h0, hnx⟩ | ⟨e, he, w2, hw2, hnx⟩
    · have HE := hid (show s = T from by rw [HSs.out, seenW_all wt seen _ (left_none h0), HS.out])
      clear h0 hr hb HLo
      go_wp2
      go_ret
      exact ⟨ret_i (by rw [HE.out]), UU.out⟩
    · obtain ⟨he1, he2⟩ := mem_left he
      obtain ⟨f, ev, ew, hlo⟩ := HLo.out e he1
      have HP := hid (seenW_push wt seen e he2 es.toList HSt.out.2.1 he1)
      have hle2 := seenW_le wt (seen.push e.born) es.toList
      rw [HP.out, ← HSs.out, HS.out, ew] at hle2
      have u2 : Old w w2 := by rcases hw2 with rfl | rfl; exact UU.out; exact UU.out.drew
      have hr2 : w2.heap[r]? = some (.mapIter (some mb) clock seen c0) := by rcases hw2 with rfl | rfl; exact hr; exact hr
      have u3 : Old w (Go.ChangeMaps.setBlock w2 r (.mapIter (some mb) clock (seen.push e.born) clock)) := setBlock_old u2 HR.out
      have hr3 : (Go.ChangeMaps.setBlock w2 r (.mapIter (some mb) clock (seen.push e.born) clock)).heap[r]? = some (.mapIter (some mb) clock (seen.push e.born) clock) := setBlock_at hr2
      have hen := run_entry_at (P := Try.prog) _ r mb clock seen es clock e hr3 (u3.block HM1.out) he1 HSt.out.2.1
      have HMs := hid (show (leftOf es (seen.push e.born)).size < (leftOf es (wr.iterSeen r)).size from by rw [iterSeen_of hr]; exact left_shrinks es seen e he)
      have HLo2 := hid (hlo _ u3)
      have U3 := hid u3
      have R3 := hid hr3
      have HPc := hid (show seenW wt es.toList (seen.push e.born) = s + cntF f from by rw [HP.out, ew, HSs.out])
      rw [ev] at hen hnx
      clear hlo u2 u3 hr2 hr3 hw2 hb hr he he1 he2 HLo HP ew ev HSs UU
      generalize Go.ChangeMaps.setBlock w2 r (.mapIter (some mb) clock (seen.push e.born) clock) = w3 at *
      generalize e.key = ky at *
      generalize f.fb = fb at *
      obtain ⟨cn, hcn⟩ : ∃ cn, cntF f = cn := ⟨_, rfl⟩
      rw [hcn] at hle2 HPc
      have HCn := hid (show (nI (looL f.now f.safe)).length = cn from by rw [← hcn]; simp [nI, cntF])
      clear hcn
      have lw : IntKind.i64.wrap ((s : Int) + (cn : Int)) = ((s + cn : Nat) : Int) := by rw [IntWalk.i64_in _ (by omega)]; omega
      go_wp2_with (go_at_call 26; refine HLo2.out.mono ?_; rintro e w4 ⟨v', rfl, o4, u4⟩; obtain ⟨pa, pc, ep⟩ := o4.len; rw [HCn.out] at ep; subst ep; have U4 := hid u4; clear o4 u4)
      go_roundw
      case rel => exact ⟨seen.push _, clock, s + cn, by go_num, HPc.out.symm, U4.out.block R3.out, Nat.le_refl _, U3.out.trans U4.out⟩
      case measure => rw [iterSeen_of (U4.out.block R3.out)]; exact HMs.out
end Go.Proofs.Ytibeeamenhcngaa
