/- Bytes taken apart, plainly: numbers, keys, rows of keys, a submission; what is taken apart has just these bytes; no condition. -/
import Derived.Test.YtbkklemhhdejpaaGreatPkE
import Derived.Test.YtbkklemhhdejpaaGreatTB
import Derived.Test.YtbkklemhhdejpaaGreatOum
import Derived.Test.YtbkklemhhdejpaaGreatTA
namespace Go.Proofs.YtbkklemhhdejpaaGreat
open Go.RowKit Go.Lib
set_option linter.unusedVariables false
set_option linter.unusedSimpArgs false
set_option maxRecDepth 20000
/-- Bytes are below 256. -/
def LB (L : List Nat) : Prop := ∀ b ∈ L, b < 256
theorem LB.gd {L : List Nat} (h : LB L) : ∀ i, i < L.length → Pk.gd L i < 256 := fun i hi => by
  have e : Pk.gd L i = L[i] := by simp [Pk.gd, hi]
  rw [e]; exact h _ (List.getElem_mem hi)
theorem LB.right {A B : List Nat} (h : LB (A ++ B)) : LB B := fun b hb => h b (List.mem_append_right A hb)
theorem gd_drop (L : List Nat) (k : Nat) : Pk.gd (L.drop k) = Pk.sh k (Pk.gd L) := by
  funext i
  simp [Pk.gd, Pk.sh]
theorem byL_take (L : List Nat) (k : Nat) (hk : k ≤ L.length) : Pk.byL k (Pk.gd L) = L.take k := by
  apply List.ext_getElem
  · simp [Pk.byL, hk]
  · intro i h1 h2
    simp only [Pk.byL_len] at h1
    have : i < L.length := by omega
    simp [Pk.byL, Pk.gd, this]
def tkN (L : List Nat) : Option (Int × List Nat) := if Pk.lnK (Pk.gd L) L.length = 0 then none else some (Pk.lnV (Pk.gd L) L.length, L.drop (Pk.lnK (Pk.gd L) L.length))
def tkK (L : List Nat) : Option (Nat × List Nat) := if Pk.lkK (Pk.gd L) L.length = 0 then none else some (Pk.lkV (Pk.gd L) L.length, L.drop (Pk.lkK (Pk.gd L) L.length))
def tkC (most : Nat) (L : List Nat) : Option (Nat × List Nat) := match tkN L with | none => none | some (z, B) => if 0 ≤ z ∧ z ≤ (most : Int) then some (z.toNat, B) else none
def tkKs : Nat → List Nat → Option (List Nat × List Nat)
  | 0, L => some ([], L)
  | n + 1, L => match tkK L with | none => none | some (x, B) => match tkKs n B with | none => none | some (xs, C) => some (x :: xs, C)
def tkR (most each : Nat) (L : List Nat) : Option (List Nat × List Nat) := match tkC most L with | none => none | some (n, B) => tkKs (n * each) B
theorem tkN_some {L B : List Nat} {z : Int} (hL : LB L) (h : tkN L = some (z, B)) : L = Pk.numL z ++ B ∧ (-9223372036854775808 ≤ z ∧ z ≤ 9223372036854775807) ∧ LB B := by
  unfold tkN at h
  split at h
  · cases h
  · rename_i hk
    cases h
    have hk2 : Pk.lnK (Pk.gd L) L.length ≤ L.length := Pk.ln_le _ _ 11 0
    refine ⟨?_, Pk.lnV_in _ _ hL.gd, fun b hb => hL b (List.mem_of_mem_drop hb)⟩
    rw [Pk.num_back _ _ hL.gd hk, byL_take L _ hk2, List.take_append_drop]
theorem tkN_at (z : Int) (h : -9223372036854775808 ≤ z ∧ z ≤ 9223372036854775807) (B : List Nat) : tkN (Pk.numL z ++ B) = some (z, B) := by
  obtain ⟨e1, e2⟩ := Pk.num_at_head z h.1 h.2 (Pk.gd (Pk.numL z ++ B)) (Pk.numL z ++ B).length (by simp) (fun i hi => Pk.gd_left _ _ _ hi)
  have hp := (Pk.num_len z h.1 h.2).1
  unfold tkN
  rw [e1, e2, if_neg (by omega), List.drop_left]
theorem tkK_some {L B : List Nat} {x : Nat} (hL : LB L) (h : tkK L = some (x, B)) : L = keyB x ++ B ∧ (Fl.W x ∧ Fl.canon x = x) ∧ LB B := by
  unfold tkK at h
  split at h
  · cases h
  · rename_i hk
    cases h
    have hc : 8 ≤ L.length ∧ Fl.isCode (Pk.lkC (Pk.gd L) 8) = true := by
      unfold Pk.lkK at hk
      by_cases q : 8 ≤ L.length ∧ Fl.isCode (Pk.lkC (Pk.gd L) 8) = true
      · exact q
      · rw [if_neg q] at hk; exact absurd rfl hk
    have e1 : Pk.lkK (Pk.gd L) L.length = 8 := by unfold Pk.lkK; rw [if_pos hc]
    have e2 : Pk.lkV (Pk.gd L) L.length = Fl.of (Pk.lkC (Pk.gd L) 8) := by unfold Pk.lkV; rw [if_pos hc]
    have hW : Fl.W (Pk.lkC (Pk.gd L) 8) := by
      have := Pk.lkC_lt (Pk.gd L) L.length hL.gd 8 hc.1
      unfold Fl.W; exact Nat.lt_of_lt_of_le this (by decide)
    rw [e1, e2]
    refine ⟨?_, ⟨Fl.of_lt _ hW, Pk.canon_of _ hW hc.2⟩, fun b hb => hL b (List.mem_of_mem_drop hb)⟩
    unfold keyB
    rw [Fl.code_of _ hW hc.2, Pk.key_back _ (fun i hi => hL.gd i (by omega)), byL_take L 8 hc.1, List.take_append_drop]
theorem tkK_at (x : Nat) (hx : Fl.W x) (hc : Fl.canon x = x) (B : List Nat) : tkK (keyB x ++ B) = some (x, B) := by
  have hl : (keyB x ++ B).length = 8 + B.length := by rw [List.length_append, keyB_len]
  have e0 : Pk.lkC (Pk.gd (keyB x ++ B)) 8 = Fl.code x := Pk.key_read (Fl.code x) (by have := Fl.code_le x hx; omega) _ (fun i hi => Pk.gd_left _ _ _ (by rw [keyB_len]; exact hi))
  have hI := Fl.isCode_code x hx
  have ek : Pk.lkK (Pk.gd (keyB x ++ B)) (keyB x ++ B).length = 8 := by
    unfold Pk.lkK
    rw [e0, hI, if_pos ⟨by omega, rfl⟩]
  have ev : Pk.lkV (Pk.gd (keyB x ++ B)) (keyB x ++ B).length = x := by
    unfold Pk.lkV
    rw [e0, hI, if_pos ⟨by omega, rfl⟩, Fl.of_code x hx, hc]
  unfold tkK
  rw [ek, ev, if_neg (by omega), show (8 : Nat) = (keyB x).length from (keyB_len x).symm, List.drop_left]
theorem tkC_some {L B : List Nat} {most n : Nat} (hL : LB L) (h : tkC most L = some (n, B)) : L = Pk.numL (n : Int) ++ B ∧ n ≤ most ∧ LB B := by
  unfold tkC at h
  cases e : tkN L with
  | none => rw [e] at h; cases h
  | some p =>
    obtain ⟨z, C⟩ := p
    rw [e] at h
    simp only at h
    split at h
    · rename_i q
      cases h
      obtain ⟨a, b, c⟩ := tkN_some hL e
      refine ⟨?_, by omega, c⟩
      rw [show ((z.toNat : Nat) : Int) = z by omega]
      exact a
    · cases h
theorem tkC_at (most n : Nat) (hn : n ≤ most) (hm : most ≤ 1000000) (B : List Nat) : tkC most (Pk.numL (n : Int) ++ B) = some (n, B) := by
  unfold tkC
  rw [tkN_at _ ⟨by omega, by omega⟩]
  simp only
  rw [if_pos ⟨by omega, by omega⟩]
  simp
theorem tkKs_some : ∀ {n : Nat} {L B xs : List Nat}, LB L → tkKs n L = some (xs, B) → L = xs.flatMap keyB ++ B ∧ xs.length = n ∧ (∀ x ∈ xs, Fl.W x ∧ Fl.canon x = x) ∧ LB B
  | 0, L, B, xs, hL, h => by cases h; exact ⟨rfl, rfl, (fun x hx => by cases hx), hL⟩
  | n + 1, L, B, xs, hL, h => by
    unfold tkKs at h
    cases e : tkK L with
    | none => rw [e] at h; cases h
    | some p =>
      obtain ⟨x, C⟩ := p
      rw [e] at h
      simp only at h
      cases e2 : tkKs n C with
      | none => rw [e2] at h; cases h
      | some q =>
        obtain ⟨ys, E⟩ := q
        rw [e2] at h
        cases h
        obtain ⟨a, b, c⟩ := tkK_some hL e
        obtain ⟨a2, b2, c2, d2⟩ := tkKs_some c e2
        refine ⟨?_, by rw [List.length_cons, b2], fun y hy => ?_, d2⟩
        · rw [List.flatMap_cons, List.append_assoc, ← a2]; exact a
        · rcases List.mem_cons.1 hy with rfl | hy
          · exact b
          · exact c2 y hy
theorem tkKs_at : ∀ (xs : List Nat) (B : List Nat), (∀ x ∈ xs, Fl.W x ∧ Fl.canon x = x) → tkKs xs.length (xs.flatMap keyB ++ B) = some (xs, B)
  | [], B, h => rfl
  | x :: t, B, h => by
    have hx := h x (List.mem_cons_self ..)
    rw [List.flatMap_cons, List.append_assoc, List.length_cons]
    unfold tkKs
    rw [tkK_at x hx.1 hx.2]
    simp only
    rw [tkKs_at t B (fun y hy => h y (List.mem_cons_of_mem _ hy))]
theorem tkR_some {most each : Nat} {L B xs : List Nat} (hL : LB L) (h : tkR most each L = some (xs, B)) : ∃ n, n ≤ most ∧ xs.length = n * each ∧ L = Pk.numL (n : Int) ++ (xs.flatMap keyB ++ B) ∧ (∀ x ∈ xs, Fl.W x ∧ Fl.canon x = x) ∧ LB B := by
  unfold tkR at h
  cases e : tkC most L with
  | none => rw [e] at h; cases h
  | some p =>
    obtain ⟨n, C⟩ := p
    rw [e] at h
    obtain ⟨a, b, c⟩ := tkC_some hL e
    obtain ⟨a2, b2, c2, d2⟩ := tkKs_some c h
    exact ⟨n, b, b2, by rw [← a2]; exact a, c2, d2⟩
theorem tkR_at (most each n : Nat) (hn : n ≤ most) (hm : most ≤ 1000000) (xs B : List Nat) (hl : xs.length = n * each) (hx : ∀ x ∈ xs, Fl.W x ∧ Fl.canon x = x) : tkR most each (Pk.numL (n : Int) ++ (xs.flatMap keyB ++ B)) = some (xs, B) := by
  unfold tkR
  rw [tkC_at most n hn hm]
  simp only
  rw [← hl]
  exact tkKs_at xs B hx
/-- Ends, two by two. -/
def prs : List Nat → List Sp
  | a :: b :: t => ⟨a, b, false, false⟩ :: prs t
  | _ => []
theorem prs_len : ∀ (n : Nat) (y : List Nat), y.length = n * 2 → (prs y).length = n
  | 0, [], _ => rfl
  | 0, _ :: _, h => by simp at h
  | n + 1, [], h => by simp at h
  | n + 1, [_], h => by simp at h; omega
  | n + 1, a :: b :: t, h => by
    show (prs t).length + 1 = n + 1
    rw [prs_len n t (by simp at h; omega)]
theorem prs_flat : ∀ (n : Nat) (y : List Nat), y.length = n * 2 → (prs y).flatMap sB = y.flatMap keyB
  | 0, [], _ => rfl
  | 0, _ :: _, h => by simp at h
  | n + 1, [], h => by simp at h
  | n + 1, [_], h => by simp at h; omega
  | n + 1, a :: b :: t, h => by
    show (⟨a, b, false, false⟩ :: prs t : List Sp).flatMap sB = _
    rw [List.flatMap_cons, List.flatMap_cons, List.flatMap_cons, prs_flat n t (by simp at h; omega)]
    simp [sB, List.append_assoc]
theorem prs_all {P : Nat → Prop} : ∀ (n : Nat) (y : List Nat), y.length = n * 2 → (∀ x ∈ y, P x) → ∀ s ∈ prs y, (P s.a ∧ P s.b) ∧ s.p = false ∧ s.q = false
  | 0, [], _, _ => fun s hs => by cases hs
  | 0, _ :: _, h, _ => by simp at h
  | n + 1, [], h, _ => by simp at h
  | n + 1, [_], h, _ => by simp at h; omega
  | n + 1, a :: b :: t, h, hP => fun s hs => by
    rcases List.mem_cons.1 (show s ∈ (⟨a, b, false, false⟩ :: prs t : List Sp) from hs) with rfl | hs
    · exact ⟨⟨hP a (by simp), hP b (by simp)⟩, rfl, rfl⟩
    · exact prs_all n t (by simp at h; omega) (fun x hx => hP x (by simp [hx])) s hs
theorem rl_atN (L : List Nat) : rl (atN L) L.length = L := by
  apply List.ext_getElem
  · simp [rl]
  · intro i h1 h2
    simp [rl, atN, h2]
theorem rl_atS (L : List Sp) : rl (atS L) L.length = L := by
  apply List.ext_getElem
  · simp [rl]
  · intro i h1 h2
    simp [rl, atS, h2]
/-- A submission's parts as bytes have them: three numbers, the keys that are read, the spans' ends, the keys that are written. -/
structure Raw where
  s1 : Int
  s2 : Int
  s3 : Int
  xs : List Nat
  ys : List Nat
  zs : List Nat
def tkSub (L : List Nat) : Option (Raw × List Nat) :=
  match tkN L with
  | none => none
  | some (s1, A) => match tkN A with
    | none => none
    | some (s2, B) => match tkN B with
      | none => none
      | some (s3, C) => match tkR 16 1 C with
        | none => none
        | some (xs, D) => match tkR 8 2 D with
          | none => none
          | some (ys, E) => match tkR 16 1 E with
            | none => none
            | some (zs, F) => some (⟨s1, s2, s3, xs, ys, zs⟩, F)
/-- What such parts are like. -/
structure Raw.Ok (r : Raw) : Prop where
  r1 : -9223372036854775808 ≤ r.s1 ∧ r.s1 ≤ 9223372036854775807
  r2 : -9223372036854775808 ≤ r.s2 ∧ r.s2 ≤ 9223372036854775807
  r3 : -9223372036854775808 ≤ r.s3 ∧ r.s3 ≤ 9223372036854775807
  n1 : r.xs.length ≤ 16
  n2 : (prs r.ys).length ≤ 8
  l2 : r.ys.length = (prs r.ys).length * 2
  n3 : r.zs.length ≤ 16
  x1 : ∀ x ∈ r.xs, Fl.W x ∧ Fl.canon x = x
  x2 : ∀ x ∈ r.ys, Fl.W x ∧ Fl.canon x = x
  x3 : ∀ x ∈ r.zs, Fl.W x ∧ Fl.canon x = x
/-- Such parts' bytes. -/
def Raw.enc (r : Raw) (B : List Nat) : List Nat := Pk.numL r.s1 ++ (Pk.numL r.s2 ++ (Pk.numL r.s3 ++ (Pk.numL (r.xs.length : Int) ++ (r.xs.flatMap keyB ++ (Pk.numL ((prs r.ys).length : Int) ++ (r.ys.flatMap keyB ++ (Pk.numL (r.zs.length : Int) ++ (r.zs.flatMap keyB ++ B))))))))
theorem Raw.enc_app (r : Raw) (B T : List Nat) : r.enc B ++ T = r.enc (B ++ T) := by simp [Raw.enc, List.append_assoc]
theorem tkSub_some {L B : List Nat} {r : Raw} (hL : LB L) (h : tkSub L = some (r, B)) : L = r.enc B ∧ r.Ok ∧ LB B := by
  unfold tkSub at h
  cases e1 : tkN L with
  | none => rw [e1] at h; cases h
  | some p1 =>
  obtain ⟨s1, A1⟩ := p1
  rw [e1] at h; simp only at h
  cases e2 : tkN A1 with
  | none => rw [e2] at h; cases h
  | some p2 =>
  obtain ⟨s2, A2⟩ := p2
  rw [e2] at h; simp only at h
  cases e3 : tkN A2 with
  | none => rw [e3] at h; cases h
  | some p3 =>
  obtain ⟨s3, A3⟩ := p3
  rw [e3] at h; simp only at h
  cases e4 : tkR 16 1 A3 with
  | none => rw [e4] at h; cases h
  | some p4 =>
  obtain ⟨xs, A4⟩ := p4
  rw [e4] at h; simp only at h
  cases e5 : tkR 8 2 A4 with
  | none => rw [e5] at h; cases h
  | some p5 =>
  obtain ⟨ys, A5⟩ := p5
  rw [e5] at h; simp only at h
  cases e6 : tkR 16 1 A5 with
  | none => rw [e6] at h; cases h
  | some p6 =>
  obtain ⟨zs, A6⟩ := p6
  rw [e6] at h
  cases h
  obtain ⟨a1, b1, c1⟩ := tkN_some hL e1
  obtain ⟨a2, b2, c2⟩ := tkN_some c1 e2
  obtain ⟨a3, b3, c3⟩ := tkN_some c2 e3
  obtain ⟨m1, b4, l4, a4, x4, c4⟩ := tkR_some c3 e4
  obtain ⟨m2, b5, l5, a5, x5, c5⟩ := tkR_some c4 e5
  obtain ⟨m3, b6, l6, a6, x6, c6⟩ := tkR_some c5 e6
  have q2 := prs_len m2 ys l5
  rw [Nat.mul_one] at l4 l6
  refine ⟨?_, ⟨b1, b2, b3, by simp only; omega, by simp only; omega, by simp only; omega, by simp only; omega, x4, x5, x6⟩, c6⟩
  unfold Raw.enc
  simp only
  rw [l4, q2, l6, ← a6, ← a5, ← a4, ← a3, ← a2]
  exact a1
theorem tkSub_at (r : Raw) (h : r.Ok) (B : List Nat) : tkSub (r.enc B) = some (r, B) := by
  unfold tkSub Raw.enc
  rw [tkN_at _ h.r1]; simp only
  rw [tkN_at _ h.r2]; simp only
  rw [tkN_at _ h.r3]; simp only
  rw [tkR_at 16 1 _ h.n1 (by omega) _ _ (by omega) h.x1]; simp only
  rw [tkR_at 8 2 _ h.n2 (by omega) _ _ h.l2 h.x2]; simp only
  rw [tkR_at 16 1 _ h.n3 (by omega) _ _ (by omega) h.x3]
/-- Such parts' bytes, as a submission's. -/
theorem Raw.enc_bytes (r : Raw) (h : r.Ok) (B : List Nat) : r.enc B = bytesS r.s1 r.s2 r.s3 r.xs.length (prs r.ys).length r.zs.length (atN r.xs) (atN r.zs) (atS (prs r.ys)) B := by
  unfold Raw.enc bytesS kRest sRest
  rw [List.drop_zero, List.drop_zero, List.drop_zero, rl_atN, rl_atN, rl_atS, prs_flat _ r.ys h.l2]
theorem atN_mem (L : List Nat) (i : Nat) (hi : i < L.length) : atN L i ∈ L := by rw [atN_get _ i hi]; exact List.getElem_mem hi
theorem atS_mem (L : List Sp) (i : Nat) (hi : i < L.length) : atS L i ∈ L := by
  have e : atS L i = L[i] := by simp [atS, hi]
  rw [e]; exact List.getElem_mem hi
theorem Raw.Ok.f1 {r : Raw} (h : r.Ok) : ∀ i, i < r.xs.length → Fl.W (atN r.xs i) ∧ Fl.canon (atN r.xs i) = atN r.xs i := fun i hi => h.x1 _ (atN_mem _ i hi)
theorem Raw.Ok.f3 {r : Raw} (h : r.Ok) : ∀ i, i < r.zs.length → Fl.W (atN r.zs i) ∧ Fl.canon (atN r.zs i) = atN r.zs i := fun i hi => h.x3 _ (atN_mem _ i hi)
theorem Raw.Ok.f2 {r : Raw} (h : r.Ok) : (∀ i, i < (prs r.ys).length → (Fl.W (atS (prs r.ys) i).a ∧ Fl.canon (atS (prs r.ys) i).a = (atS (prs r.ys) i).a) ∧ (Fl.W (atS (prs r.ys) i).b ∧ Fl.canon (atS (prs r.ys) i).b = (atS (prs r.ys) i).b)) ∧ ∀ i, i < (prs r.ys).length → (atS (prs r.ys) i).p = false ∧ (atS (prs r.ys) i).q = false :=
  ⟨fun i hi => (prs_all _ r.ys h.l2 h.x2 _ (atS_mem _ i hi)).1, fun i hi => (prs_all _ r.ys h.l2 h.x2 _ (atS_mem _ i hi)).2⟩
/-- Is it right? -/
def Raw.chk (r : Raw) : Int := chkV r.s1 r.s2 r.s3 r.xs.length (prs r.ys).length r.zs.length (atN r.xs) (atN r.zs) (atS (prs r.ys))
end Go.Proofs.YtbkklemhhdejpaaGreat
namespace Go.Proofs.YtbkklemhhdejpaaGreat
open Go.RowKit Go.Lib
set_option linter.unusedVariables false
set_option linter.unusedSimpArgs false
set_option maxRecDepth 20000
/-- A Reader's own end: an error of form. -/
def Ends (R : Nat) (w : World) (e : Ending) (w' : World) : Prop := e = .panicked (Pk.ended R) ∧ Pk.RF w' R 30 ∧ Pk.Chg [R] w w'
theorem RL.drop {w : World} {R b0 k : Nat} {L : List Nat} (h : Pk.RB w R b0 (L.length - k) (Pk.sh k (Pk.gd L))) : RL w R b0 (L.drop k) := by
  unfold RL
  rw [gd_drop, List.length_drop]
  exact h
theorem tkN_none {L : List Nat} (h : tkN L = none) : Pk.lnK (Pk.gd L) L.length = 0 := by
  unfold tkN at h
  split at h
  · assumption
  · cases h
theorem tkK_none {L : List Nat} (h : tkK L = none) : Pk.lkK (Pk.gd L) L.length = 0 := by
  unfold tkK at h
  split at h
  · assumption
  · cases h
theorem rdNum_no (R b0 : Nat) (L : List Nat) (w : World) (h : RL w R b0 L) (hn : tkN L = none) : Calls Tryz.prog 47 #[.pointer (some ⟨R, 0, none⟩)] w fun e w' => Ends R w e w' :=
  Pk.rnum_no R b0 _ _ w h (tkN_none hn)
theorem rdKey_no (R b0 : Nat) (L : List Nat) (w : World) (h : RL w R b0 L) (hn : tkK L = none) : Calls Tryz.prog 76 #[.pointer (some ⟨R, 0, none⟩)] w fun e w' => Ends R w e w' :=
  Pk.rkey_no R b0 _ _ w h (tkK_none hn)
theorem rdKey_at (R b0 : Nat) (L : List Nat) (x : Nat) (B : List Nat) (w : World) (h : RL w R b0 L) (hb : b0 ≠ R) (hn : tkK L = some (x, B)) : Calls Tryz.prog 76 #[.pointer (some ⟨R, 0, none⟩)] w fun e w' => e = .returned (.float .f64 x) ∧ RL w' R b0 B ∧ Pk.Chg [R] w w' := by
  unfold tkK at hn
  split at hn
  · cases hn
  · rename_i hk
    cases hn
    refine (Pk.rkey_ok R b0 _ _ w h hb hk).mono fun e w' q => ⟨q.1, RL.drop q.2.1, q.2.2⟩
theorem rdCount_no (R b0 most : Nat) (L : List Nat) (w : World) (h : RL w R b0 L) (hb : b0 ≠ R) (hn : tkC most L = none) : Calls Tryz.prog 75 #[.pointer (some ⟨R, 0, none⟩), .int .i64 (most : Int)] w fun e w' => Ends R w e w' := by
  refine Pk.rcount_no R b0 _ _ (most : Int) w h hb ?_
  unfold tkC tkN at hn
  by_cases q : Pk.lnK (Pk.gd L) L.length = 0
  · exact .inl q
  · rw [if_neg q] at hn
    simp only at hn
    split at hn
    · cases hn
    · rename_i k
      right; omega
theorem rdCount_at (R b0 most n : Nat) (L B : List Nat) (w : World) (h : RL w R b0 L) (hb : b0 ≠ R) (hm : most ≤ 1000000) (hn : tkC most L = some (n, B)) : Calls Tryz.prog 75 #[.pointer (some ⟨R, 0, none⟩), .int .i64 (most : Int)] w fun e w' => e = .returned (.int .i64 (n : Int)) ∧ RL w' R b0 B ∧ Pk.Chg [R] w w' := by
  unfold tkC tkN at hn
  by_cases q : Pk.lnK (Pk.gd L) L.length = 0
  · rw [if_pos q] at hn; cases hn
  · rw [if_neg q] at hn
    simp only at hn
    split at hn
    · rename_i k
      cases hn
      refine (Pk.rcount_ok R b0 _ _ (most : Int) w h hb q k.1 k.2 (by omega)).mono fun e w' p => ⟨?_, RL.drop p.2.1, p.2.2⟩
      rw [p.1, show ((Pk.lnV (Pk.gd L) L.length).toNat : Int) = Pk.lnV (Pk.gd L) L.length by omega]
    · cases hn
theorem RowG.any {w : World} {g n : Nat} {x : Nat → Nat} (h : RowG w g n x 0) (k : Nat) (v : Value) : RowG (w.setCell ⟨g, k, none⟩ v) g n x 0 := by
  obtain ⟨cur, h1, h2, h3⟩ := h
  exact ⟨cur.setIfInBounds k v, heap_setCell_same w g k _ _ _ h1, by simp [h2], fun i hi => by omega⟩
def RowK (w : World) (g n : Nat) : Prop := ∃ cur : Array Value, w.heap[g]? = some (.cells cur 31 (0, 0)) ∧ cur.size = n * 4
theorem RowH.toK {w : World} {g n k : Nat} {f : Nat → Sp} (h : RowH w g n f k) : RowK w g n := by
  obtain ⟨cur, h1, h2, _⟩ := h
  exact ⟨cur, h1, h2⟩
theorem RowK.chg {S : List Nat} {w w' : World} {g n : Nat} (h : RowK w g n) (c : Pk.Chg S w w') (hn : g ∉ S) : RowK w' g n := by
  obtain ⟨cur, h1, h2⟩ := h
  exact ⟨cur, by rw [c.block g (heapLt h1) hn]; exact h1, h2⟩
theorem RowK.cell {w : World} {g n : Nat} (h : RowK w g n) (i : Nat) (hi : i < n * 4) : (∃ z, w.cell? ⟨g, i, none⟩ = some z) ∧ w.frozen? ⟨g, i, none⟩ = false := by
  obtain ⟨cur, h1, h2⟩ := h
  refine ⟨⟨cur[i]'(by omega), ?_⟩, by simp [World.frozen?, h1]⟩
  simp [World.cell?, h1, h2, hi]
theorem RowK.any {w : World} {g n : Nat} (h : RowK w g n) (k : Nat) (v : Value) : RowK (w.setCell ⟨g, k, none⟩ v) g n := by
  obtain ⟨cur, h1, h2⟩ := h
  exact ⟨cur.setIfInBounds k v, heap_setCell_same w g k _ _ _ h1, by simp [h2]⟩
attribute [local go_sem] run_bits run_frombits run_store_float eqF
set_option maxHeartbeats 400000 in
set_option maxRecDepth 20000 in
theorem readKeys_no1 (R b0 most : Nat) (L : List Nat) (w : World) (h : RL w R b0 L) (hb : b0 ≠ R) (hn : tkC most L = none) :
    Calls Tryz.prog 48 #[.pointer (some ⟨R, 0, none⟩), .int .i64 (most : Int)] w fun e w' => Ends R w e w' := by
  have HC := hid (rdCount_no R b0 most L w h hb hn)
  clear h hn
  unfold Ends at *
  unfold Pk.ended at *
  go_enter Tryz.func48, Tryz.ntmps48
  go_wp2_with (first | (go_at_call 75; refine HC.out.mono ?_; rintro e w1 ⟨rfl, r1, c1⟩))
  exact ⟨rfl, rfl, r1, c1⟩
set_option maxHeartbeats 1000000 in
set_option maxRecDepth 20000 in
theorem readKeys_no2 (R b0 most n : Nat) (L B : List Nat) (hm : most ≤ 1000000) (w : World) (h : RL w R b0 L) (hb : b0 ≠ R) (hR : R < w.heap.size) (hb0 : b0 < w.heap.size) (hL : tkC most L = some (n, B)) (hnm : n ≤ most) (hn : tkKs n B = none) :
    Calls Tryz.prog 48 #[.pointer (some ⟨R, 0, none⟩), .int .i64 (most : Int)] w fun e w' => Ends R w e w' := by
  have HC := hid (rdCount_at R b0 most n L B w h hb hm hL)
  have hn1 : n ≤ 1000000 := by omega
  have hmk := fun W => mkF n hn1 W
  have HN := hid hn
  clear h hn hL
  unfold Ends at *
  unfold Pk.ended at *
  go_enter Tryz.func48, Tryz.ntmps48
  go_upto_region 2 with (first | (go_at_call 75; refine HC.out.mono ?_; rintro e w1 ⟨rfl, r1, c1⟩; have R1 := hid r1; have C1 := hid c1; clear r1 c1))
  clear hmk HC
  generalize hw2 : w1.alloc (.cells (madeCells #[.float .f64 0] n) 22) = w2 at *
  generalize hg : w1.heap.size = g at *
  obtain ⟨hG, hU⟩ := RowG.new w1 n (fun _ => 0) w2 hw2 g hg
  have HG := hid (show w.heap.size ≤ g by have := C1.out.size; omega)
  have HI := hid (show RowG w2 g n (fun _ => 0) 0 ∧ RL w2 R b0 B ∧ Pk.Chg [R] w w2 from ⟨hG, R1.out.chg (S := []) (Pk.Chg.old hU) (by simp) (by simp), C1.out.trans (Pk.Chg.old hU)⟩)
  clear hw2 hg hG hU R1 C1
  go_wp2
  go_loopw [13] (fun i wr => ∃ (k : Nat) (D : List Nat), k ≤ n ∧ i = .int .i64 (k : Nat) ∧ RowG wr g n (fun _ => 0) 0 ∧ RL wr R b0 D ∧ tkKs (n - k) D = none ∧ Pk.Chg [R] w wr) (fun i _ => n - (intOf i).toNat)
  case atStart => exact ⟨0, B, Nat.zero_le _, rfl, HI.out.1, HI.out.2.1, HN.out, HI.out.2.2⟩
  case round =>
    obtain ⟨k, D, hk, rfl, hG, hL, hD, hU⟩ := hrel
    have G := hid hG
    have U := hid hU
    have hlt : k < n := by
      by_cases q : k < n
      · exact q
      · rw [show n - k = 0 by omega] at hD; cases hD
    rw [show n - k = (n - k - 1) + 1 by omega] at hD
    unfold tkKs at hD
    have l1 : (0 : Int) ≤ (k : Int) := by omega
    have l2 : (k : Int) < (n : Int) := by omega
    cases e : tkK D with
    | none =>
      have HK := hid (rdKey_no R b0 D wr hL e)
      unfold Ends Pk.ended at HK
      clear hG hL hU HI hD e HN
      go_wp2_with (first | (go_at_call 76; refine HK.out.mono ?_; rintro e w3 ⟨rfl, r3, c3⟩))
      exact ⟨rfl, rfl, r3, U.out.trans c3⟩
    | some p =>
      obtain ⟨xk, D'⟩ := p
      rw [e] at hD
      simp only at hD
      have HD := hid (show tkKs (n - (k + 1)) D' = none from by
        rw [show n - (k + 1) = n - k - 1 by omega]
        cases e2 : tkKs (n - k - 1) D' with
        | none => rfl
        | some q => rw [e2] at hD; cases hD)
      have HK := hid (rdKey_at R b0 D xk D' wr hL hb e)
      clear hG hL hU HI hD e HN
      go_wp2_with (first | (go_at_call 76; refine HK.out.mono ?_; rintro e w3 ⟨rfl, r3, c3⟩; have G3 := hid (G.out.chg c3 (by simp; have := HG.out; omega)); have R3 := hid r3; have U3 := hid (U.out.trans c3); obtain ⟨⟨z3, q3⟩, f3⟩ := G3.out.cell k hlt; clear r3 c3))
      go_roundw
      case rel => exact ⟨k + 1, D', hlt, by go_num, G3.out.any k _, R3.out.chg (S := [g]) (Pk.Chg.set' _ ⟨g, k, none⟩ _) (by simp; have := HG.out; omega) (by simp; have := HG.out; omega), HD.out, U3.out.trans' (Pk.Chg.set' _ ⟨g, k, none⟩ _) (by simp; have := HG.out; omega)⟩
      case measure => simp [intOf]; omega
theorem readKeys_no (R b0 most : Nat) (L : List Nat) (hm : most ≤ 1000000) (w : World) (h : RL w R b0 L) (hL : LB L) (hb : b0 ≠ R) (hR : R < w.heap.size) (hb0 : b0 < w.heap.size) (hn : tkR most 1 L = none) :
    Calls Tryz.prog 48 #[.pointer (some ⟨R, 0, none⟩), .int .i64 (most : Int)] w fun e w' => Ends R w e w' := by
  cases e : tkC most L with
  | none => exact readKeys_no1 R b0 most L w h hb e
  | some p =>
    obtain ⟨n, B⟩ := p
    unfold tkR at hn
    rw [e] at hn
    simp only [Nat.mul_one] at hn
    exact readKeys_no2 R b0 most n L B hm w h hb hR hb0 e (tkC_some hL e).2.1 hn
set_option maxHeartbeats 400000 in
set_option maxRecDepth 20000 in
theorem readSpans_no1 (R b0 most : Nat) (L : List Nat) (w : World) (h : RL w R b0 L) (hb : b0 ≠ R) (hn : tkC most L = none) :
    Calls Tryz.prog 49 #[.pointer (some ⟨R, 0, none⟩), .int .i64 (most : Int)] w fun e w' => Ends R w e w' := by
  have HC := hid (rdCount_no R b0 most L w h hb hn)
  clear h hn
  unfold Ends at *
  unfold Pk.ended at *
  go_enter Tryz.func49, Tryz.ntmps49
  go_wp2_with (first | (go_at_call 75; refine HC.out.mono ?_; rintro e w1 ⟨rfl, r1, c1⟩))
  exact ⟨rfl, rfl, r1, c1⟩
set_option maxHeartbeats 1000000 in
set_option maxRecDepth 20000 in
theorem readSpans_no2 (R b0 most n : Nat) (L B : List Nat) (hm : most ≤ 1000000) (w : World) (h : RL w R b0 L) (hb : b0 ≠ R) (hR : R < w.heap.size) (hb0 : b0 < w.heap.size) (hL : tkC most L = some (n, B)) (hnm : n ≤ most) (hn : tkKs (n * 2) B = none) :
    Calls Tryz.prog 49 #[.pointer (some ⟨R, 0, none⟩), .int .i64 (most : Int)] w fun e w' => Ends R w e w' := by
  have HC := hid (rdCount_at R b0 most n L B w h hb hm hL)
  have hn1 : n ≤ 1000000 := by omega
  have hmk := fun W => mkS n hn1 W
  have HN := hid hn
  clear h hn hL
  unfold Ends at *
  unfold Pk.ended at *
  go_enter Tryz.func49, Tryz.ntmps49
  go_upto_region 2 with (first | (go_at_call 75; refine HC.out.mono ?_; rintro e w1 ⟨rfl, r1, c1⟩; have R1 := hid r1; have C1 := hid c1; clear r1 c1))
  clear hmk HC
  generalize hw2 : w1.alloc (.cells (madeCells #[.float .f64 0, .float .f64 0, .bool false, .bool false] (n * 4)) 31) = w2 at *
  generalize hg : w1.heap.size = g at *
  obtain ⟨hG, hU⟩ := RowH.new w1 n (fun _ => ⟨0, 0, false, false⟩) w2 hw2 g hg
  have HG := hid (show w.heap.size ≤ g by have := C1.out.size; omega)
  have HI := hid (show RowK w2 g n ∧ RL w2 R b0 B ∧ Pk.Chg [R] w w2 from ⟨hG.toK, R1.out.chg (S := []) (Pk.Chg.old hU) (by simp) (by simp), C1.out.trans (Pk.Chg.old hU)⟩)
  clear hw2 hg hG hU R1 C1
  go_wp2
  go_loopw [13] (fun i wr => ∃ (k : Nat) (D : List Nat), k ≤ n ∧ i = .int .i64 (k : Nat) ∧ RowK wr g n ∧ RL wr R b0 D ∧ tkKs ((n - k) * 2) D = none ∧ Pk.Chg [R] w wr) (fun i _ => n - (intOf i).toNat)
  case atStart => exact ⟨0, B, Nat.zero_le _, rfl, HI.out.1, HI.out.2.1, HN.out, HI.out.2.2⟩
  case round =>
    obtain ⟨k, D, hk, rfl, hG, hL, hD, hU⟩ := hrel
    have G := hid hG
    have U := hid hU
    have hlt : k < n := by
      by_cases q : k < n
      · exact q
      · rw [show (n - k) * 2 = 0 by omega] at hD; cases hD
    rw [show (n - k) * 2 = ((n - (k + 1)) * 2 + 1) + 1 by omega] at hD
    unfold tkKs at hD
    have l1 : (0 : Int) ≤ (k : Int) := by omega
    have l2 : (k : Int) < (n : Int) := by omega
    have HNE := hid (show g ∉ [R] by simp; have := HG.out; omega)
    cases e : tkK D with
    | none =>
      have HK := hid (rdKey_no R b0 D wr hL e)
      unfold Ends Pk.ended at HK
      clear hG hL hU HI hD e HN
      go_wp2_with (first | (go_at_call 76; refine HK.out.mono ?_; rintro e w3 ⟨rfl, r3, c3⟩))
      exact ⟨rfl, rfl, r3, U.out.trans c3⟩
    | some p =>
      obtain ⟨xa, D1⟩ := p
      rw [e] at hD
      simp only at hD
      have hD1 : tkKs ((n - (k + 1)) * 2 + 1) D1 = none := by
        cases e2 : tkKs ((n - (k + 1)) * 2 + 1) D1 with
        | none => rfl
        | some q => rw [e2] at hD; cases hD
      unfold tkKs at hD1
      have HK := hid (rdKey_at R b0 D xa D1 wr hL hb e)
      cases e3 : tkK D1 with
      | none =>
        have HK2 := hid (fun (W : World) (q : RL W R b0 D1) => rdKey_no R b0 D1 W q e3)
        unfold Ends Pk.ended at HK2
        clear hG hL hU HI hD e HN hD1 e3
        go_wp2_with (first | (go_at_call 76; first | (refine HK.out.mono ?_; rintro e w3 ⟨rfl, r3, c3⟩; have R3 := hid r3; have U3 := hid (U.out.trans c3); clear r3 c3) | (refine (HK2.out _ R3.out).mono ?_; rintro e w4 ⟨rfl, r4, c4⟩)))
        exact ⟨rfl, rfl, r4, U3.out.trans c4⟩
      | some p3 =>
        obtain ⟨xb, D2⟩ := p3
        rw [e3] at hD1
        simp only at hD1
        have HD := hid (show tkKs ((n - (k + 1)) * 2) D2 = none from by
          cases e2 : tkKs ((n - (k + 1)) * 2) D2 with
          | none => rfl
          | some q => rw [e2] at hD1; cases hD1)
        have HK2 := hid (fun (W : World) (q : RL W R b0 D1) => rdKey_at R b0 D1 xb D2 W q hb e3)
        clear hG hL hU HI hD e HN hD1 e3
        go_upto_region 6 with (first | (go_at_call 76; first | (refine HK.out.mono ?_; rintro e w3 ⟨rfl, r3, c3⟩; have G3 := hid (G.out.chg c3 HNE.out); have R3 := hid r3; have U3 := hid (U.out.trans c3); clear r3 c3) | (refine (HK2.out _ R3.out).mono ?_; rintro e w4 ⟨rfl, r4, c4⟩; have G4 := hid (G3.out.chg c4 HNE.out); have R4 := hid r4; have U4 := hid (U3.out.trans c4); obtain ⟨⟨z3, q3⟩, f3⟩ := G4.out.cell (k * 4) (by omega); obtain ⟨⟨z4, q4⟩, f4⟩ := G4.out.cell (k * 4 + 1) (by omega); clear r4 c4)))
        go_wp2
        go_roundw
        case rel => exact ⟨k + 1, D2, hlt, by go_num, (G4.out.any (k * 4) _).any (k * 4 + 1) _, (R4.out.chg (S := [g]) (Pk.Chg.set' _ ⟨g, k * 4, none⟩ _) (by simp; have := HG.out; omega) (by simp; have := HG.out; omega)).chg (S := [g]) (Pk.Chg.set' _ ⟨g, k * 4 + 1, none⟩ _) (by simp; have := HG.out; omega) (by simp; have := HG.out; omega), HD.out, (U4.out.trans' (Pk.Chg.set' _ ⟨g, k * 4, none⟩ _) (by simp; have := HG.out; omega)).trans' (Pk.Chg.set' _ ⟨g, k * 4 + 1, none⟩ _) (by simp; have := HG.out; omega)⟩
        case measure => simp [intOf]; omega
theorem readSpans_no (R b0 most : Nat) (L : List Nat) (hm : most ≤ 1000000) (w : World) (h : RL w R b0 L) (hL : LB L) (hb : b0 ≠ R) (hR : R < w.heap.size) (hb0 : b0 < w.heap.size) (hn : tkR most 2 L = none) :
    Calls Tryz.prog 49 #[.pointer (some ⟨R, 0, none⟩), .int .i64 (most : Int)] w fun e w' => Ends R w e w' := by
  cases e : tkC most L with
  | none => exact readSpans_no1 R b0 most L w h hb e
  | some p =>
    obtain ⟨n, B⟩ := p
    unfold tkR at hn
    rw [e] at hn
    exact readSpans_no2 R b0 most n L B hm w h hb hR hb0 e (tkC_some hL e).2.1 hn
end Go.Proofs.YtbkklemhhdejpaaGreat
namespace Go.Proofs.YtbkklemhhdejpaaGreat
open Go.RowKit Go.Lib
set_option linter.unusedVariables false
set_option linter.unusedSimpArgs false
set_option maxRecDepth 20000
attribute [local go_sem] run_bits run_frombits run_store_float eqF
set_option maxHeartbeats 4000000 in
set_option maxRecDepth 20000 in
theorem read_no1 (R b0 : Nat) (L : List Nat) (hL : LB L) (w : World) (h : RL w R b0 (L)) (hb : b0 ≠ R) (hR : R < w.heap.size) (hb0 : b0 < w.heap.size) (hn : tkN L = none) :
    Calls Tryz.prog 24 #[.pointer (some ⟨R, 0, none⟩)] w fun e w' => Ends R w e w' := by
  have HNo := hid (fun W (q : RL W R b0 L) => rdNum_no R b0 L W q hn)
  unfold Ends Pk.ended at HNo
  unfold Ends Pk.ended
  have HH := hid h
  clear h hn hL
  go_enter Tryz.func24, Tryz.ntmps24
  go_upto_region 1 with fail
  generalize hw1 : w.alloc (.cells #[.int .i64 0, .int .i64 0, .int .i64 0, .slice none 0 0, .slice none 0 0, .slice none 0 0] 28) = w1 at *
  generalize hrb : w.heap.size = rb at *
  have HB1 := hid (BX.new w w1 hw1 rb hrb)
  have HRB := hid hrb
  clear hw1 hrb
  go_upto_region 2 with fail
  generalize hw2 : w1.alloc (.cells #[.int .i64 0, .int .i64 0, .int .i64 0, .slice none 0 0, .slice none 0 0, .slice none 0 0] 28) = w2 at *
  generalize hsb : w1.heap.size = sb at *
  obtain ⟨hb2, hu2, hz2⟩ := BX.new w1 w2 hw2 sb hsb
  obtain ⟨hb1, hu1, hz1⟩ := HB1.out
  have hrb := HRB.out
  have HZ := hid (show sb = rb + 1 ∧ w.heap.size = rb ∧ R < rb ∧ b0 < rb ∧ w2.heap.size = rb + 2 from ⟨by omega, hrb, by omega, by omega, by omega⟩)
  have BR := hid (hb1.chg (S := []) (Pk.Chg.old hu2) (by simp))
  have BS := hid hb2
  have L0 := hid (HH.out.chg (S := []) (Pk.Chg.old (hu1.trans hu2)) (by simp) (by simp))
  have C0 := hid (show Pk.Chg [R] w w2 from Pk.Chg.old (hu1.trans hu2))
  have N1 := hid (show sb ∉ [R] by simp; have := HZ.out; omega)
  have N2 := hid (show rb ∉ [R] by simp; have := HZ.out; omega)
  clear hw2 hsb hrb hb1 hu1 hz1 hb2 hu2 hz2 HH HB1 HRB
  go_wp2_with (first | (go_at_call 47; first | (refine (HNo.out _ L0.out).mono ?_; rintro e yy ⟨rfl, rr, cc⟩; have FF := hid rr; have CC := hid (C0.out.trans cc); clear rr cc)))
  exact ⟨rfl, rfl, FF.out, CC.out⟩
set_option maxHeartbeats 4000000 in
set_option maxRecDepth 20000 in
theorem read_no2 (R b0 : Nat) (s1 : Int) (hs1 : (-9223372036854775808 ≤ s1 ∧ s1 ≤ 9223372036854775807)) (L : List Nat) (hL : LB L) (w : World) (h : RL w R b0 (Pk.numL s1 ++ (L))) (hb : b0 ≠ R) (hR : R < w.heap.size) (hb0 : b0 < w.heap.size) (hn : tkN L = none) :
    Calls Tryz.prog 24 #[.pointer (some ⟨R, 0, none⟩)] w fun e w' => Ends R w e w' := by
  have HN1 := hid (fun W L (q : RL W R b0 (Pk.numL s1 ++ L)) => rdNum R b0 s1 hs1.1 hs1.2 L W q hb)
  have HNo := hid (fun W (q : RL W R b0 L) => rdNum_no R b0 L W q hn)
  unfold Ends Pk.ended at HNo
  unfold Ends Pk.ended
  have HH := hid h
  clear h hn hL hs1
  go_enter Tryz.func24, Tryz.ntmps24
  go_upto_region 1 with fail
  generalize hw1 : w.alloc (.cells #[.int .i64 0, .int .i64 0, .int .i64 0, .slice none 0 0, .slice none 0 0, .slice none 0 0] 28) = w1 at *
  generalize hrb : w.heap.size = rb at *
  have HB1 := hid (BX.new w w1 hw1 rb hrb)
  have HRB := hid hrb
  clear hw1 hrb
  go_upto_region 2 with fail
  generalize hw2 : w1.alloc (.cells #[.int .i64 0, .int .i64 0, .int .i64 0, .slice none 0 0, .slice none 0 0, .slice none 0 0] 28) = w2 at *
  generalize hsb : w1.heap.size = sb at *
  obtain ⟨hb2, hu2, hz2⟩ := BX.new w1 w2 hw2 sb hsb
  obtain ⟨hb1, hu1, hz1⟩ := HB1.out
  have hrb := HRB.out
  have HZ := hid (show sb = rb + 1 ∧ w.heap.size = rb ∧ R < rb ∧ b0 < rb ∧ w2.heap.size = rb + 2 from ⟨by omega, hrb, by omega, by omega, by omega⟩)
  have BR := hid (hb1.chg (S := []) (Pk.Chg.old hu2) (by simp))
  have BS := hid hb2
  have L0 := hid (HH.out.chg (S := []) (Pk.Chg.old (hu1.trans hu2)) (by simp) (by simp))
  have C0 := hid (show Pk.Chg [R] w w2 from Pk.Chg.old (hu1.trans hu2))
  have N1 := hid (show sb ∉ [R] by simp; have := HZ.out; omega)
  have N2 := hid (show rb ∉ [R] by simp; have := HZ.out; omega)
  clear hw2 hsb hrb hb1 hu1 hz1 hb2 hu2 hz2 HH HB1 HRB
  go_wp2_with (first | (go_at_call 47; first | (refine (HN1.out _ _ L0.out).mono ?_; rintro e y1 ⟨rfl, r1, c1⟩; have M1 := hid r1; have C1 := hid (C0.out.trans c1); have S1 := hid (BS.out.chg c1 N1.out); have T1 := hid (BR.out.chg c1 N2.out); have Z1 := hid c1.size; clear r1 c1) | (refine (HNo.out _ M1.out).mono ?_; rintro e yy ⟨rfl, rr, cc⟩; have FF := hid rr; have CC := hid (C1.out.trans cc); clear rr cc)))
  exact ⟨rfl, rfl, FF.out, CC.out⟩
set_option maxHeartbeats 4000000 in
set_option maxRecDepth 20000 in
theorem read_no3 (R b0 : Nat) (s1 : Int) (hs1 : (-9223372036854775808 ≤ s1 ∧ s1 ≤ 9223372036854775807)) (s2 : Int) (hs2 : (-9223372036854775808 ≤ s2 ∧ s2 ≤ 9223372036854775807)) (L : List Nat) (hL : LB L) (w : World) (h : RL w R b0 (Pk.numL s1 ++ (Pk.numL s2 ++ (L)))) (hb : b0 ≠ R) (hR : R < w.heap.size) (hb0 : b0 < w.heap.size) (hn : tkN L = none) :
    Calls Tryz.prog 24 #[.pointer (some ⟨R, 0, none⟩)] w fun e w' => Ends R w e w' := by
  have HN1 := hid (fun W L (q : RL W R b0 (Pk.numL s1 ++ L)) => rdNum R b0 s1 hs1.1 hs1.2 L W q hb)
  have HN2 := hid (fun W L (q : RL W R b0 (Pk.numL s2 ++ L)) => rdNum R b0 s2 hs2.1 hs2.2 L W q hb)
  have HNo := hid (fun W (q : RL W R b0 L) => rdNum_no R b0 L W q hn)
  unfold Ends Pk.ended at HNo
  unfold Ends Pk.ended
  have HH := hid h
  clear h hn hL hs1 hs2
  go_enter Tryz.func24, Tryz.ntmps24
  go_upto_region 1 with fail
  generalize hw1 : w.alloc (.cells #[.int .i64 0, .int .i64 0, .int .i64 0, .slice none 0 0, .slice none 0 0, .slice none 0 0] 28) = w1 at *
  generalize hrb : w.heap.size = rb at *
  have HB1 := hid (BX.new w w1 hw1 rb hrb)
  have HRB := hid hrb
  clear hw1 hrb
  go_upto_region 2 with fail
  generalize hw2 : w1.alloc (.cells #[.int .i64 0, .int .i64 0, .int .i64 0, .slice none 0 0, .slice none 0 0, .slice none 0 0] 28) = w2 at *
  generalize hsb : w1.heap.size = sb at *
  obtain ⟨hb2, hu2, hz2⟩ := BX.new w1 w2 hw2 sb hsb
  obtain ⟨hb1, hu1, hz1⟩ := HB1.out
  have hrb := HRB.out
  have HZ := hid (show sb = rb + 1 ∧ w.heap.size = rb ∧ R < rb ∧ b0 < rb ∧ w2.heap.size = rb + 2 from ⟨by omega, hrb, by omega, by omega, by omega⟩)
  have BR := hid (hb1.chg (S := []) (Pk.Chg.old hu2) (by simp))
  have BS := hid hb2
  have L0 := hid (HH.out.chg (S := []) (Pk.Chg.old (hu1.trans hu2)) (by simp) (by simp))
  have C0 := hid (show Pk.Chg [R] w w2 from Pk.Chg.old (hu1.trans hu2))
  have N1 := hid (show sb ∉ [R] by simp; have := HZ.out; omega)
  have N2 := hid (show rb ∉ [R] by simp; have := HZ.out; omega)
  clear hw2 hsb hrb hb1 hu1 hz1 hb2 hu2 hz2 HH HB1 HRB
  go_wp2_with (first | (go_at_call 47; first | (refine (HN1.out _ _ L0.out).mono ?_; rintro e y1 ⟨rfl, r1, c1⟩; have M1 := hid r1; have C1 := hid (C0.out.trans c1); have S1 := hid (BS.out.chg c1 N1.out); have T1 := hid (BR.out.chg c1 N2.out); have Z1 := hid c1.size; clear r1 c1) | (refine (HN2.out _ _ M1.out).mono ?_; rintro e y2 ⟨rfl, r2, c2⟩; have M2 := hid r2; have C2 := hid (C1.out.trans c2); have S2 := hid (S1.out.chg c2 N1.out); have T2 := hid (T1.out.chg c2 N2.out); have Z2 := hid (Nat.le_trans Z1.out c2.size); clear r2 c2) | (refine (HNo.out _ M2.out).mono ?_; rintro e yy ⟨rfl, rr, cc⟩; have FF := hid rr; have CC := hid (C2.out.trans cc); clear rr cc)))
  exact ⟨rfl, rfl, FF.out, CC.out⟩
set_option maxHeartbeats 4000000 in
set_option maxRecDepth 20000 in
theorem read_no4 (R b0 : Nat) (s1 : Int) (hs1 : (-9223372036854775808 ≤ s1 ∧ s1 ≤ 9223372036854775807)) (s2 : Int) (hs2 : (-9223372036854775808 ≤ s2 ∧ s2 ≤ 9223372036854775807)) (s3 : Int) (hs3 : (-9223372036854775808 ≤ s3 ∧ s3 ≤ 9223372036854775807)) (L : List Nat) (hL : LB L) (w : World) (h : RL w R b0 (Pk.numL s1 ++ (Pk.numL s2 ++ (Pk.numL s3 ++ (L))))) (hb : b0 ≠ R) (hR : R < w.heap.size) (hb0 : b0 < w.heap.size) (hn : tkR 16 1 L = none) :
    Calls Tryz.prog 24 #[.pointer (some ⟨R, 0, none⟩)] w fun e w' => Ends R w e w' := by
  have HN1 := hid (fun W L (q : RL W R b0 (Pk.numL s1 ++ L)) => rdNum R b0 s1 hs1.1 hs1.2 L W q hb)
  have HN2 := hid (fun W L (q : RL W R b0 (Pk.numL s2 ++ L)) => rdNum R b0 s2 hs2.1 hs2.2 L W q hb)
  have HN3 := hid (fun W L (q : RL W R b0 (Pk.numL s3 ++ L)) => rdNum R b0 s3 hs3.1 hs3.2 L W q hb)
  have HNo := hid (fun W (q : RL W R b0 L) (z1 : R < W.heap.size) (z2 : b0 < W.heap.size) => readKeys_no R b0 16 L (by omega) W q hL hb z1 z2 hn)
  unfold Ends Pk.ended at HNo
  unfold Ends Pk.ended
  have HH := hid h
  clear h hn hL hs1 hs2 hs3
  go_enter Tryz.func24, Tryz.ntmps24
  go_upto_region 1 with fail
  generalize hw1 : w.alloc (.cells #[.int .i64 0, .int .i64 0, .int .i64 0, .slice none 0 0, .slice none 0 0, .slice none 0 0] 28) = w1 at *
  generalize hrb : w.heap.size = rb at *
  have HB1 := hid (BX.new w w1 hw1 rb hrb)
  have HRB := hid hrb
  clear hw1 hrb
  go_upto_region 2 with fail
  generalize hw2 : w1.alloc (.cells #[.int .i64 0, .int .i64 0, .int .i64 0, .slice none 0 0, .slice none 0 0, .slice none 0 0] 28) = w2 at *
  generalize hsb : w1.heap.size = sb at *
  obtain ⟨hb2, hu2, hz2⟩ := BX.new w1 w2 hw2 sb hsb
  obtain ⟨hb1, hu1, hz1⟩ := HB1.out
  have hrb := HRB.out
  have HZ := hid (show sb = rb + 1 ∧ w.heap.size = rb ∧ R < rb ∧ b0 < rb ∧ w2.heap.size = rb + 2 from ⟨by omega, hrb, by omega, by omega, by omega⟩)
  have BR := hid (hb1.chg (S := []) (Pk.Chg.old hu2) (by simp))
  have BS := hid hb2
  have L0 := hid (HH.out.chg (S := []) (Pk.Chg.old (hu1.trans hu2)) (by simp) (by simp))
  have C0 := hid (show Pk.Chg [R] w w2 from Pk.Chg.old (hu1.trans hu2))
  have N1 := hid (show sb ∉ [R] by simp; have := HZ.out; omega)
  have N2 := hid (show rb ∉ [R] by simp; have := HZ.out; omega)
  clear hw2 hsb hrb hb1 hu1 hz1 hb2 hu2 hz2 HH HB1 HRB
  go_upto_region 3 with (first | (go_at_call 47; first | (refine (HN1.out _ _ L0.out).mono ?_; rintro e y1 ⟨rfl, r1, c1⟩; have M1 := hid r1; have C1 := hid (C0.out.trans c1); have S1 := hid (BS.out.chg c1 N1.out); have T1 := hid (BR.out.chg c1 N2.out); have Z1 := hid c1.size; clear r1 c1) | (refine (HN2.out _ _ M1.out).mono ?_; rintro e y2 ⟨rfl, r2, c2⟩; have M2 := hid r2; have C2 := hid (C1.out.trans c2); have S2 := hid (S1.out.chg c2 N1.out); have T2 := hid (T1.out.chg c2 N2.out); have Z2 := hid (Nat.le_trans Z1.out c2.size); clear r2 c2) | (refine (HN3.out _ _ M2.out).mono ?_; rintro e y3 ⟨rfl, r3, c3⟩; have M3 := hid r3; have C3 := hid (C2.out.trans c3); have S3 := hid (S2.out.chg c3 N1.out); have T3 := hid (T2.out.chg c3 N2.out); have Z3 := hid (Nat.le_trans Z2.out c3.size); obtain ⟨⟨k0, k1, k2, k3, k4, k5⟩, kf⟩ := S3.out; have f0 := kf 0 (by omega); have f1 := kf 1 (by omega); have f2' := kf 2 (by omega); clear r3 c3 kf)))
  clear M1 C1 S1 T1 M2 C2 S2 T2 Z1 Z2 HN1 HN2 HN3 L0 C0 BS BR
  generalize hw4 : ((y3.setCell ⟨sb, 0, none⟩ (.int .i64 s1)).setCell ⟨sb, 1, none⟩ (.int .i64 s2)).setCell ⟨sb, 2, none⟩ (.int .i64 s3) = w4 at *
  have c4 : Pk.Chg [sb] y3 w4 := by rw [← hw4]; exact set012_chg _ _ _ _ _
  have S4 := hid (show BX w4 sb s1 s2 s3 (.slice none 0 0) (.slice none 0 0) (.slice none 0 0) from by rw [← hw4]; exact S3.out.set012 s1 s2 s3)
  have T4 := hid (T3.out.chg c4 (by simp; have := HZ.out; omega))
  have M4 := hid (M3.out.chg c4 (by simp; have := HZ.out; omega) (by simp; have := HZ.out; omega))
  have C4 := hid (C3.out.trans' c4 (by simp; have := HZ.out; omega))
  have Z4 := hid (show rb + 2 ≤ w4.heap.size by have := c4.size; have := Z3.out; have := HZ.out; omega)
  clear hw4 c4 S3 T3 M3 C3 Z3 k0 k1 k2 k3 k4 k5 f0 f1 f2'
  obtain ⟨⟨k0, k1, k2, k3, k4, k5⟩, kf⟩ := S4.out
  have f3 := kf 3 (by omega)
  have KF := hid kf
  clear kf
  go_wp2_with (first | (go_at_call 48; refine (HNo.out _ M4.out (by have := HZ.out; have := Z4.out; omega) (by have := HZ.out; have := Z4.out; omega)).mono ?_; rintro e yy ⟨rfl, rr, cc⟩; have FF := hid rr; have CC := hid (C4.out.trans cc); clear rr cc))
  exact ⟨rfl, rfl, FF.out, CC.out⟩
set_option maxHeartbeats 4000000 in
set_option maxRecDepth 20000 in
theorem read_no5 (R b0 : Nat) (s1 : Int) (hs1 : (-9223372036854775808 ≤ s1 ∧ s1 ≤ 9223372036854775807)) (s2 : Int) (hs2 : (-9223372036854775808 ≤ s2 ∧ s2 ≤ 9223372036854775807)) (s3 : Int) (hs3 : (-9223372036854775808 ≤ s3 ∧ s3 ≤ 9223372036854775807)) (n1 : Nat) (x1 : Nat → Nat) (hn1 : n1 ≤ 16) (hx1 : ∀ i, i < n1 → Fl.W (x1 i) ∧ Fl.canon (x1 i) = x1 i) (L : List Nat) (hL : LB L) (w : World) (h : RL w R b0 (Pk.numL s1 ++ (Pk.numL s2 ++ (Pk.numL s3 ++ (Pk.numL n1 ++ kRest x1 n1 0 L))))) (hb : b0 ≠ R) (hR : R < w.heap.size) (hb0 : b0 < w.heap.size) (hn : tkR 8 2 L = none) :
    Calls Tryz.prog 24 #[.pointer (some ⟨R, 0, none⟩)] w fun e w' => Ends R w e w' := by
  have HN1 := hid (fun W L (q : RL W R b0 (Pk.numL s1 ++ L)) => rdNum R b0 s1 hs1.1 hs1.2 L W q hb)
  have HN2 := hid (fun W L (q : RL W R b0 (Pk.numL s2 ++ L)) => rdNum R b0 s2 hs2.1 hs2.2 L W q hb)
  have HN3 := hid (fun W L (q : RL W R b0 (Pk.numL s3 ++ L)) => rdNum R b0 s3 hs3.1 hs3.2 L W q hb)
  have HK1 := hid (fun W L (q : RL W R b0 (Pk.numL n1 ++ kRest x1 n1 0 L)) (z1 : R < W.heap.size) (z2 : b0 < W.heap.size) => readKeys_ok R b0 n1 x1 16 (by omega) (by omega) hx1 L W q hb z1 z2)
  have HNo := hid (fun W (q : RL W R b0 L) (z1 : R < W.heap.size) (z2 : b0 < W.heap.size) => readSpans_no R b0 8 L (by omega) W q hL hb z1 z2 hn)
  unfold Ends Pk.ended at HNo
  unfold Ends Pk.ended
  generalize hL1 : Pk.numL n1 ++ kRest x1 n1 0 L = L1 at *
  have HL1 := hid hL1
  have HH := hid h
  clear hL1 h hn hL hs1 hs2 hs3 hx1 hn1
  go_enter Tryz.func24, Tryz.ntmps24
  go_upto_region 1 with fail
  generalize hw1 : w.alloc (.cells #[.int .i64 0, .int .i64 0, .int .i64 0, .slice none 0 0, .slice none 0 0, .slice none 0 0] 28) = w1 at *
  generalize hrb : w.heap.size = rb at *
  have HB1 := hid (BX.new w w1 hw1 rb hrb)
  have HRB := hid hrb
  clear hw1 hrb
  go_upto_region 2 with fail
  generalize hw2 : w1.alloc (.cells #[.int .i64 0, .int .i64 0, .int .i64 0, .slice none 0 0, .slice none 0 0, .slice none 0 0] 28) = w2 at *
  generalize hsb : w1.heap.size = sb at *
  obtain ⟨hb2, hu2, hz2⟩ := BX.new w1 w2 hw2 sb hsb
  obtain ⟨hb1, hu1, hz1⟩ := HB1.out
  have hrb := HRB.out
  have HZ := hid (show sb = rb + 1 ∧ w.heap.size = rb ∧ R < rb ∧ b0 < rb ∧ w2.heap.size = rb + 2 from ⟨by omega, hrb, by omega, by omega, by omega⟩)
  have BR := hid (hb1.chg (S := []) (Pk.Chg.old hu2) (by simp))
  have BS := hid hb2
  have L0 := hid (HH.out.chg (S := []) (Pk.Chg.old (hu1.trans hu2)) (by simp) (by simp))
  have C0 := hid (show Pk.Chg [R] w w2 from Pk.Chg.old (hu1.trans hu2))
  have N1 := hid (show sb ∉ [R] by simp; have := HZ.out; omega)
  have N2 := hid (show rb ∉ [R] by simp; have := HZ.out; omega)
  clear hw2 hsb hrb hb1 hu1 hz1 hb2 hu2 hz2 HH HB1 HRB
  go_upto_region 3 with (first | (go_at_call 47; first | (refine (HN1.out _ _ L0.out).mono ?_; rintro e y1 ⟨rfl, r1, c1⟩; have M1 := hid r1; have C1 := hid (C0.out.trans c1); have S1 := hid (BS.out.chg c1 N1.out); have T1 := hid (BR.out.chg c1 N2.out); have Z1 := hid c1.size; clear r1 c1) | (refine (HN2.out _ _ M1.out).mono ?_; rintro e y2 ⟨rfl, r2, c2⟩; have M2 := hid r2; have C2 := hid (C1.out.trans c2); have S2 := hid (S1.out.chg c2 N1.out); have T2 := hid (T1.out.chg c2 N2.out); have Z2 := hid (Nat.le_trans Z1.out c2.size); clear r2 c2) | (refine (HN3.out _ _ M2.out).mono ?_; rintro e y3 ⟨rfl, r3, c3⟩; have M3 := hid r3; have C3 := hid (C2.out.trans c3); have S3 := hid (S2.out.chg c3 N1.out); have T3 := hid (T2.out.chg c3 N2.out); have Z3 := hid (Nat.le_trans Z2.out c3.size); obtain ⟨⟨k0, k1, k2, k3, k4, k5⟩, kf⟩ := S3.out; have f0 := kf 0 (by omega); have f1 := kf 1 (by omega); have f2' := kf 2 (by omega); clear r3 c3 kf)))
  clear M1 C1 S1 T1 M2 C2 S2 T2 Z1 Z2 HN1 HN2 HN3 L0 C0 BS BR
  generalize hw4 : ((y3.setCell ⟨sb, 0, none⟩ (.int .i64 s1)).setCell ⟨sb, 1, none⟩ (.int .i64 s2)).setCell ⟨sb, 2, none⟩ (.int .i64 s3) = w4 at *
  have c4 : Pk.Chg [sb] y3 w4 := by rw [← hw4]; exact set012_chg _ _ _ _ _
  have S4 := hid (show BX w4 sb s1 s2 s3 (.slice none 0 0) (.slice none 0 0) (.slice none 0 0) from by rw [← hw4]; exact S3.out.set012 s1 s2 s3)
  have T4 := hid (T3.out.chg c4 (by simp; have := HZ.out; omega))
  have M4 := hid (M3.out.chg c4 (by simp; have := HZ.out; omega) (by simp; have := HZ.out; omega))
  have C4 := hid (C3.out.trans' c4 (by simp; have := HZ.out; omega))
  have Z4 := hid (show rb + 2 ≤ w4.heap.size by have := c4.size; have := Z3.out; have := HZ.out; omega)
  rw [← HL1.out] at M4
  clear hw4 c4 S3 T3 M3 C3 Z3 k0 k1 k2 k3 k4 k5 f0 f1 f2' HL1
  obtain ⟨⟨k0, k1, k2, k3, k4, k5⟩, kf⟩ := S4.out
  have f3 := kf 3 (by omega)
  have KF := hid kf
  clear kf
  go_upto_region 4 with (first | (go_at_call 48; refine (HK1.out _ _ M4.out (by have := HZ.out; have := Z4.out; omega) (by have := HZ.out; have := Z4.out; omega)).mono ?_; rintro e y5 ⟨vr5, rfl, o5, r5, c5⟩; obtain ⟨p1, q1, hv5⟩ := o5.len2; subst hv5; have O1a := hid (o5.mono2 (show rb + 2 ≤ w4.heap.size from Z4.out)); have M5a := hid r5; have S5a := hid (S4.out.chg c5 N1.out); have T5a := hid (T4.out.chg c5 N2.out); have C5a := hid (C4.out.trans c5); have Z5a := hid (Nat.le_trans Z4.out c5.size); obtain ⟨⟨j0, j1, j2, j3, j4, j5⟩, jf⟩ := S5a.out; have g3 := jf 3 (by omega); clear o5 r5 c5 jf))
  generalize hw5 : y5.setCell ⟨sb, 3, none⟩ (.slice p1 n1 q1) = w5 at *
  have c5 : Pk.Chg [sb] y5 w5 := by rw [← hw5]; exact Pk.Chg.set' _ ⟨sb, 3, none⟩ _
  have S5 := hid (show BX w5 sb s1 s2 s3 (.slice p1 n1 q1) (.slice none 0 0) (.slice none 0 0) from by rw [← hw5]; exact (S5a.out.setV _).1)
  have T5 := hid (T5a.out.chg c5 (by simp; have := HZ.out; omega))
  have M5 := hid (M5a.out.chg c5 (by simp; have := HZ.out; omega) (by simp; have := HZ.out; omega))
  have C5 := hid (C5a.out.trans' c5 (by simp; have := HZ.out; omega))
  have Z5 := hid (show rb + 2 ≤ w5.heap.size by have := c5.size; have := Z5a.out; omega)
  have O1x5 := hid (O1a.out.chg c5 (by simp; have := HZ.out; omega))
  clear hw5 c5 S5a T5a M5a C5a Z5a O1a j0 j1 j2 j3 j4 j5 k0 k1 k2 k3 k4 k5 g3 S4 T4 M4 C4 Z4
  obtain ⟨⟨k0, k1, k2, k3, k4, k5⟩, kf⟩ := S5.out
  clear kf
  go_wp2_with (first | (go_at_call 49; refine (HNo.out _ M5.out (by have := HZ.out; have := Z5.out; omega) (by have := HZ.out; have := Z5.out; omega)).mono ?_; rintro e yy ⟨rfl, rr, cc⟩; have FF := hid rr; have CC := hid (C5.out.trans cc); clear rr cc))
  exact ⟨rfl, rfl, FF.out, CC.out⟩
set_option maxHeartbeats 4000000 in
set_option maxRecDepth 20000 in
theorem read_no6 (R b0 : Nat) (s1 : Int) (hs1 : (-9223372036854775808 ≤ s1 ∧ s1 ≤ 9223372036854775807)) (s2 : Int) (hs2 : (-9223372036854775808 ≤ s2 ∧ s2 ≤ 9223372036854775807)) (s3 : Int) (hs3 : (-9223372036854775808 ≤ s3 ∧ s3 ≤ 9223372036854775807)) (n1 : Nat) (x1 : Nat → Nat) (hn1 : n1 ≤ 16) (hx1 : ∀ i, i < n1 → Fl.W (x1 i) ∧ Fl.canon (x1 i) = x1 i) (n2 : Nat) (f2 : Nat → Sp) (hn2 : n2 ≤ 8) (hf : (∀ i, i < n2 → (Fl.W (f2 i).a ∧ Fl.canon (f2 i).a = (f2 i).a) ∧ (Fl.W (f2 i).b ∧ Fl.canon (f2 i).b = (f2 i).b)) ∧ ∀ i, i < n2 → (f2 i).p = false ∧ (f2 i).q = false) (L : List Nat) (hL : LB L) (w : World) (h : RL w R b0 (Pk.numL s1 ++ (Pk.numL s2 ++ (Pk.numL s3 ++ (Pk.numL n1 ++ kRest x1 n1 0 (Pk.numL n2 ++ sRest f2 n2 0 L)))))) (hb : b0 ≠ R) (hR : R < w.heap.size) (hb0 : b0 < w.heap.size) (hn : tkR 16 1 L = none) :
    Calls Tryz.prog 24 #[.pointer (some ⟨R, 0, none⟩)] w fun e w' => Ends R w e w' := by
  have HN1 := hid (fun W L (q : RL W R b0 (Pk.numL s1 ++ L)) => rdNum R b0 s1 hs1.1 hs1.2 L W q hb)
  have HN2 := hid (fun W L (q : RL W R b0 (Pk.numL s2 ++ L)) => rdNum R b0 s2 hs2.1 hs2.2 L W q hb)
  have HN3 := hid (fun W L (q : RL W R b0 (Pk.numL s3 ++ L)) => rdNum R b0 s3 hs3.1 hs3.2 L W q hb)
  have HK1 := hid (fun W L (q : RL W R b0 (Pk.numL n1 ++ kRest x1 n1 0 L)) (z1 : R < W.heap.size) (z2 : b0 < W.heap.size) => readKeys_ok R b0 n1 x1 16 (by omega) (by omega) hx1 L W q hb z1 z2)
  have HK2 := hid (fun W L (q : RL W R b0 (Pk.numL n2 ++ sRest f2 n2 0 L)) (z1 : R < W.heap.size) (z2 : b0 < W.heap.size) => readSpans_ok R b0 n2 f2 8 (by omega) (by omega) hf.1 hf.2 L W q hb z1 z2)
  have HNo := hid (fun W (q : RL W R b0 L) (z1 : R < W.heap.size) (z2 : b0 < W.heap.size) => readKeys_no R b0 16 L (by omega) W q hL hb z1 z2 hn)
  unfold Ends Pk.ended at HNo
  unfold Ends Pk.ended
  generalize hL2 : Pk.numL n2 ++ sRest f2 n2 0 L = L2 at *
  generalize hL1 : Pk.numL n1 ++ kRest x1 n1 0 L2 = L1 at *
  have HL1 := hid hL1
  have HL2 := hid hL2
  have HH := hid h
  clear hL1 hL2 h hn hL hs1 hs2 hs3 hx1 hn1 hf hn2
  go_enter Tryz.func24, Tryz.ntmps24
  go_upto_region 1 with fail
  generalize hw1 : w.alloc (.cells #[.int .i64 0, .int .i64 0, .int .i64 0, .slice none 0 0, .slice none 0 0, .slice none 0 0] 28) = w1 at *
  generalize hrb : w.heap.size = rb at *
  have HB1 := hid (BX.new w w1 hw1 rb hrb)
  have HRB := hid hrb
  clear hw1 hrb
  go_upto_region 2 with fail
  generalize hw2 : w1.alloc (.cells #[.int .i64 0, .int .i64 0, .int .i64 0, .slice none 0 0, .slice none 0 0, .slice none 0 0] 28) = w2 at *
  generalize hsb : w1.heap.size = sb at *
  obtain ⟨hb2, hu2, hz2⟩ := BX.new w1 w2 hw2 sb hsb
  obtain ⟨hb1, hu1, hz1⟩ := HB1.out
  have hrb := HRB.out
  have HZ := hid (show sb = rb + 1 ∧ w.heap.size = rb ∧ R < rb ∧ b0 < rb ∧ w2.heap.size = rb + 2 from ⟨by omega, hrb, by omega, by omega, by omega⟩)
  have BR := hid (hb1.chg (S := []) (Pk.Chg.old hu2) (by simp))
  have BS := hid hb2
  have L0 := hid (HH.out.chg (S := []) (Pk.Chg.old (hu1.trans hu2)) (by simp) (by simp))
  have C0 := hid (show Pk.Chg [R] w w2 from Pk.Chg.old (hu1.trans hu2))
  have N1 := hid (show sb ∉ [R] by simp; have := HZ.out; omega)
  have N2 := hid (show rb ∉ [R] by simp; have := HZ.out; omega)
  clear hw2 hsb hrb hb1 hu1 hz1 hb2 hu2 hz2 HH HB1 HRB
  go_upto_region 3 with (first | (go_at_call 47; first | (refine (HN1.out _ _ L0.out).mono ?_; rintro e y1 ⟨rfl, r1, c1⟩; have M1 := hid r1; have C1 := hid (C0.out.trans c1); have S1 := hid (BS.out.chg c1 N1.out); have T1 := hid (BR.out.chg c1 N2.out); have Z1 := hid c1.size; clear r1 c1) | (refine (HN2.out _ _ M1.out).mono ?_; rintro e y2 ⟨rfl, r2, c2⟩; have M2 := hid r2; have C2 := hid (C1.out.trans c2); have S2 := hid (S1.out.chg c2 N1.out); have T2 := hid (T1.out.chg c2 N2.out); have Z2 := hid (Nat.le_trans Z1.out c2.size); clear r2 c2) | (refine (HN3.out _ _ M2.out).mono ?_; rintro e y3 ⟨rfl, r3, c3⟩; have M3 := hid r3; have C3 := hid (C2.out.trans c3); have S3 := hid (S2.out.chg c3 N1.out); have T3 := hid (T2.out.chg c3 N2.out); have Z3 := hid (Nat.le_trans Z2.out c3.size); obtain ⟨⟨k0, k1, k2, k3, k4, k5⟩, kf⟩ := S3.out; have f0 := kf 0 (by omega); have f1 := kf 1 (by omega); have f2' := kf 2 (by omega); clear r3 c3 kf)))
  clear M1 C1 S1 T1 M2 C2 S2 T2 Z1 Z2 HN1 HN2 HN3 L0 C0 BS BR
  generalize hw4 : ((y3.setCell ⟨sb, 0, none⟩ (.int .i64 s1)).setCell ⟨sb, 1, none⟩ (.int .i64 s2)).setCell ⟨sb, 2, none⟩ (.int .i64 s3) = w4 at *
  have c4 : Pk.Chg [sb] y3 w4 := by rw [← hw4]; exact set012_chg _ _ _ _ _
  have S4 := hid (show BX w4 sb s1 s2 s3 (.slice none 0 0) (.slice none 0 0) (.slice none 0 0) from by rw [← hw4]; exact S3.out.set012 s1 s2 s3)
  have T4 := hid (T3.out.chg c4 (by simp; have := HZ.out; omega))
  have M4 := hid (M3.out.chg c4 (by simp; have := HZ.out; omega) (by simp; have := HZ.out; omega))
  have C4 := hid (C3.out.trans' c4 (by simp; have := HZ.out; omega))
  have Z4 := hid (show rb + 2 ≤ w4.heap.size by have := c4.size; have := Z3.out; have := HZ.out; omega)
  rw [← HL1.out] at M4
  clear hw4 c4 S3 T3 M3 C3 Z3 k0 k1 k2 k3 k4 k5 f0 f1 f2' HL1
  obtain ⟨⟨k0, k1, k2, k3, k4, k5⟩, kf⟩ := S4.out
  have f3 := kf 3 (by omega)
  have KF := hid kf
  clear kf
  go_upto_region 4 with (first | (go_at_call 48; refine (HK1.out _ _ M4.out (by have := HZ.out; have := Z4.out; omega) (by have := HZ.out; have := Z4.out; omega)).mono ?_; rintro e y5 ⟨vr5, rfl, o5, r5, c5⟩; obtain ⟨p1, q1, hv5⟩ := o5.len2; subst hv5; have O1a := hid (o5.mono2 (show rb + 2 ≤ w4.heap.size from Z4.out)); have M5a := hid r5; have S5a := hid (S4.out.chg c5 N1.out); have T5a := hid (T4.out.chg c5 N2.out); have C5a := hid (C4.out.trans c5); have Z5a := hid (Nat.le_trans Z4.out c5.size); obtain ⟨⟨j0, j1, j2, j3, j4, j5⟩, jf⟩ := S5a.out; have g3 := jf 3 (by omega); clear o5 r5 c5 jf))
  generalize hw5 : y5.setCell ⟨sb, 3, none⟩ (.slice p1 n1 q1) = w5 at *
  have c5 : Pk.Chg [sb] y5 w5 := by rw [← hw5]; exact Pk.Chg.set' _ ⟨sb, 3, none⟩ _
  have S5 := hid (show BX w5 sb s1 s2 s3 (.slice p1 n1 q1) (.slice none 0 0) (.slice none 0 0) from by rw [← hw5]; exact (S5a.out.setV _).1)
  have T5 := hid (T5a.out.chg c5 (by simp; have := HZ.out; omega))
  have M5 := hid (M5a.out.chg c5 (by simp; have := HZ.out; omega) (by simp; have := HZ.out; omega))
  have C5 := hid (C5a.out.trans' c5 (by simp; have := HZ.out; omega))
  have Z5 := hid (show rb + 2 ≤ w5.heap.size by have := c5.size; have := Z5a.out; omega)
  have O1x5 := hid (O1a.out.chg c5 (by simp; have := HZ.out; omega))
  rw [← HL2.out] at M5
  clear hw5 c5 S5a T5a M5a C5a Z5a O1a j0 j1 j2 j3 j4 j5 k0 k1 k2 k3 k4 k5 g3 S4 T4 M4 C4 Z4
  obtain ⟨⟨k0, k1, k2, k3, k4, k5⟩, kf⟩ := S5.out
  clear kf
  go_upto_region 5 with (first | (go_at_call 49; refine (HK2.out _ _ M5.out (by have := HZ.out; have := Z5.out; omega) (by have := HZ.out; have := Z5.out; omega)).mono ?_; rintro e y6 ⟨vr6, rfl, o6, r6, c6⟩; obtain ⟨p2, q2, hv6⟩ := o6.len2; subst hv6; have O2a := hid (o6.mono2 (show rb + 2 ≤ w5.heap.size from Z5.out)); have O1b := hid (O1x5.out.chg c6 (by simp; have := HZ.out; have := Z5.out; omega)); have M6a := hid r6; have S6a := hid (S5.out.chg c6 N1.out); have T6a := hid (T5.out.chg c6 N2.out); have C6a := hid (C5.out.trans c6); have Z6a := hid (Nat.le_trans Z5.out c6.size); obtain ⟨⟨j0, j1, j2, j3, j4, j5⟩, jf⟩ := S6a.out; have g4 := jf 4 (by omega); clear o6 r6 c6 jf))
  generalize hw6 : y6.setCell ⟨sb, 4, none⟩ (.slice p2 n2 q2) = w6 at *
  have c6 : Pk.Chg [sb] y6 w6 := by rw [← hw6]; exact Pk.Chg.set' _ ⟨sb, 4, none⟩ _
  have S6 := hid (show BX w6 sb s1 s2 s3 (.slice p1 n1 q1) (.slice p2 n2 q2) (.slice none 0 0) from by rw [← hw6]; exact (S6a.out.setV _).2.1)
  have T6 := hid (T6a.out.chg c6 (by simp; have := HZ.out; omega))
  have M6 := hid (M6a.out.chg c6 (by simp; have := HZ.out; omega) (by simp; have := HZ.out; omega))
  have C6 := hid (C6a.out.trans' c6 (by simp; have := HZ.out; omega))
  have Z6 := hid (show rb + 2 ≤ w6.heap.size by have := c6.size; have := Z6a.out; omega)
  have O1x6 := hid (O1b.out.chg c6 (by simp; have := HZ.out; omega))
  clear O1b
  have O2x6 := hid (O2a.out.chg c6 (by simp; have := HZ.out; omega))
  clear hw6 c6 S6a T6a M6a C6a Z6a O2a j0 j1 j2 j3 j4 j5 k0 k1 k2 k3 k4 k5 g4 S5 T5 M5 C5 Z5
  obtain ⟨⟨k0, k1, k2, k3, k4, k5⟩, kf⟩ := S6.out
  clear kf
  go_wp2_with (first | (go_at_call 48; refine (HNo.out _ M6.out (by have := HZ.out; have := Z6.out; omega) (by have := HZ.out; have := Z6.out; omega)).mono ?_; rintro e yy ⟨rfl, rr, cc⟩; have FF := hid rr; have CC := hid (C6.out.trans cc); clear rr cc))
  exact ⟨rfl, rfl, FF.out, CC.out⟩
theorem kRest_atN (xs B : List Nat) (n : Nat) (h : xs.length = n) : kRest (atN xs) n 0 B = xs.flatMap keyB ++ B := by
  subst h
  unfold kRest
  rw [List.drop_zero, rl_atN]
theorem sRest_prs (ys B : List Nat) (n : Nat) (h : ys.length = n * 2) : sRest (atS (prs ys)) n 0 B = ys.flatMap keyB ++ B := by
  have e := prs_len n ys h
  unfold sRest
  rw [List.drop_zero, ← prs_flat n ys h]
  have q := rl_atS (prs ys)
  rw [e] at q
  rw [q]
/-- What read does at all bytes. -/
theorem read_all (R b0 : Nat) (L : List Nat) (hL : LB L) (w : World) (h : RL w R b0 L) (hb : b0 ≠ R) (hR : R < w.heap.size) (hb0 : b0 < w.heap.size) :
    (∃ r B, tkSub L = some (r, B) ∧ r.Ok ∧ L = r.enc B) ∨ tkSub L = none ∧ Calls Tryz.prog 24 #[.pointer (some ⟨R, 0, none⟩)] w fun e w' => Ends R w e w' := by
  cases e : tkSub L with
  | some p =>
    obtain ⟨r, B⟩ := p
    have q := tkSub_some hL e
    exact .inl ⟨r, B, rfl, q.2.1, q.1⟩
  | none =>
    refine .inr ⟨rfl, ?_⟩
    unfold tkSub at e
    cases e1 : tkN L with
    | none => exact read_no1 R b0 L hL w h hb hR hb0 e1
    | some p1 =>
    obtain ⟨s1, A1⟩ := p1
    obtain ⟨rfl, b1, c1⟩ := tkN_some hL e1
    rw [e1] at e; simp only at e
    cases e2 : tkN A1 with
    | none => exact read_no2 R b0 s1 b1 A1 c1 w h hb hR hb0 e2
    | some p2 =>
    obtain ⟨s2, A2⟩ := p2
    obtain ⟨rfl, b2, c2⟩ := tkN_some c1 e2
    rw [e2] at e; simp only at e
    cases e3 : tkN A2 with
    | none => exact read_no3 R b0 s1 b1 s2 b2 A2 c2 w h hb hR hb0 e3
    | some p3 =>
    obtain ⟨s3, A3⟩ := p3
    obtain ⟨rfl, b3, c3⟩ := tkN_some c2 e3
    rw [e3] at e; simp only at e
    cases e4 : tkR 16 1 A3 with
    | none => exact read_no4 R b0 s1 b1 s2 b2 s3 b3 A3 c3 w h hb hR hb0 e4
    | some p4 =>
    obtain ⟨xs, A4⟩ := p4
    obtain ⟨m1, b4, l4, rfl, x4, c4⟩ := tkR_some c3 e4
    rw [e4] at e; simp only at e
    rw [Nat.mul_one] at l4
    rw [← kRest_atN xs A4 m1 l4] at h
    have g4 : ∀ i, i < m1 → Fl.W (atN xs i) ∧ Fl.canon (atN xs i) = atN xs i := fun i hi => x4 _ (atN_mem _ i (by omega))
    cases e5 : tkR 8 2 A4 with
    | none => exact read_no5 R b0 s1 b1 s2 b2 s3 b3 m1 (atN xs) b4 g4 A4 c4 w h hb hR hb0 e5
    | some p5 =>
    obtain ⟨ys, A5⟩ := p5
    obtain ⟨m2, b5, l5, rfl, x5, c5⟩ := tkR_some c4 e5
    rw [e5] at e; simp only at e
    rw [← sRest_prs ys A5 m2 l5] at h
    have q2 := prs_len m2 ys l5
    cases e6 : tkR 16 1 A5 with
    | none => exact read_no6 R b0 s1 b1 s2 b2 s3 b3 m1 (atN xs) b4 g4 m2 (atS (prs ys)) b5 ⟨fun i hi => (prs_all m2 ys l5 x5 _ (atS_mem _ i (by omega))).1, fun i hi => (prs_all m2 ys l5 x5 _ (atS_mem _ i (by omega))).2⟩ A5 c5 w h hb hR hb0 e6
    | some p6 => rw [e6] at e; cases e
end Go.Proofs.YtbkklemhhdejpaaGreat
namespace Go.Proofs.YtbkklemhhdejpaaGreat
open Go.RowKit Go.Lib
set_option linter.unusedVariables false
set_option linter.unusedSimpArgs false
set_option maxRecDepth 20000
theorem RL.rd {w : World} {R b0 : Nat} {L : List Nat} (h : RL w R b0 L) : ∃ a c, Pk.Rd w R (.slice a L.length c) 0 true := by
  obtain ⟨v, h1, h2, _⟩ := h
  obtain ⟨a, c, e⟩ := Pk.ByRow.slice h2
  exact ⟨a, c, by rw [← e]; exact h1⟩
theorem RL.opened' (w : World) (a0 : Option Addr) (c : Nat) (L : List Nat) (h : Pk.ByRow w (.slice a0 L.length c) L.length (Pk.gd L)) (sb : Nat) (hsb : sb < w.heap.size) (hfar : ∀ a, a0 = some a → 0 < L.length → a.block ≠ sb) : ∃ b0, b0 ≠ w.heap.size + 1 ∧ b0 < (Pk.opened w (.slice a0 L.length c)).heap.size ∧ sb ≠ b0 ∧ RL (Pk.opened w (.slice a0 L.length c)) (w.heap.size + 1) b0 L := by
  have hos := Pk.opened_size w (.slice a0 L.length c)
  by_cases hz : 0 < L.length
  · obtain ⟨b, off, cap, e, hcc, _⟩ := h.cells hz
    cases e
    have hb : b < w.heap.size := World.block_lt_of_cell? w _ (hcc 0 hz).2
    exact ⟨b, by omega, by omega, fun q => hfar _ rfl hz q.symm, _, Pk.opened_R w _, h.up (Pk.opened_up w _), .inr rfl⟩
  · exact ⟨w.heap.size, by omega, by omega, by omega, _, Pk.opened_R w _, h.up (Pk.opened_up w _), .inl (by omega)⟩
attribute [local go_sem] run_bits run_frombits run_store_float eqF
set_option maxHeartbeats 1000000 in
set_option maxRecDepth 20000 in
theorem dec1_end (R b0 sb : Nat) (L : List Nat) (w : World) (HR0 : Calls Tryz.prog 24 #[.pointer (some ⟨R, 0, none⟩)] w fun e w' => Ends R w e w') :
    Calls Tryz.prog 23 #[.pointer (some ⟨R, 0, none⟩), .pointer (some ⟨sb, 0, none⟩)] w fun e w' => Pk.Chg [R, sb] w w' ∧ e = .panicked (Pk.ended R) ∧ Pk.RF w' R 30 := by
  have HR := hid HR0
  clear HR0
  unfold Ends Pk.ended at HR
  unfold Pk.ended
  go_enter Tryz.func23, Tryz.ntmps23
  go_wp2_with (first | (go_at_call 24; refine HR.out.mono ?_; rintro e y1 ⟨rfl, r1, c1⟩))
  exact ⟨rfl, c1.mono' (by simp), rfl, r1⟩
set_option maxHeartbeats 2000000 in
set_option maxRecDepth 20000 in
theorem dec1_some (R b0 sb : Nat) (r : Raw) (hr : r.Ok) (B : List Nat) (w : World) (h : RL w R b0 (r.enc B)) (hb : b0 ≠ R) (hR : R < w.heap.size) (hb0 : b0 < w.heap.size) (hsb : BX w sb 0 0 0 (.slice none 0 0) (.slice none 0 0) (.slice none 0 0)) (hne : sb ≠ R) (hne2 : sb ≠ b0) (hc : r.chk = 0) :
    Calls Tryz.prog 23 #[.pointer (some ⟨R, 0, none⟩), .pointer (some ⟨sb, 0, none⟩)] w fun e w' => Pk.Chg [R, sb] w w' ∧ e = .returned (.tuple #[]) ∧ RL w' R b0 B := by
  rw [r.enc_bytes hr] at h
  have hn1 := hr.n1
  have hn2 := hr.n2
  have hn3 := hr.n3
  have h1 := hr.f1
  have h2 := hr.f2
  have h3 := hr.f3
  have HR := hid (read_gen R b0 r.s1 r.s2 r.s3 _ _ _ _ _ _ ⟨hr.r1, hr.r2, hr.r3⟩ ⟨hn1, hn2, hn3⟩ h1 h3 h2 B w h hb hR hb0)
  unfold Raw.chk at hc
  generalize r.xs.length = n1 at *
  generalize (prs r.ys).length = n2 at *
  generalize r.zs.length = n3 at *
  generalize atN r.xs = x1 at *
  generalize atN r.zs = x3 at *
  generalize atS (prs r.ys) = f2 at *
  generalize r.s1 = s1 at *
  generalize r.s2 = s2 at *
  generalize r.s3 = s3 at *
  have HSZ := hid (show sb < w.heap.size from World.block_lt_of_cell? w _ hsb.1.1)
  have HCk := hid (show ∀ (W : World) (p1 p2 p3 : Option Addr) (q1 q2 q3 : Nat), FOwn w.heap.size W (.slice p1 n1 q1) (rl x1 n1) → SOwn w.heap.size W (.slice p2 n2 q2) (rl f2 n2) → FOwn w.heap.size W (.slice p3 n3 q3) (rl x3 n3) → Calls Tryz.prog 16 #[.agg #[.int .i64 s1, .int .i64 s2, .int .i64 s3, .slice p1 n1 q1, .slice p2 n2 q2, .slice p3 n3 q3]] W fun e w' => e = .returned (.int .i64 0) ∧ Old W w' from fun W p1 p2 p3 q1 q2 q3 o1 o2 o3 => by
    have q := check_any s1 s2 s3 p1 p2 p3 n1 n2 n3 q1 q2 q3 x1 x3 f2 (by omega) (by omega) (by omega) W (o1.row' (fun i hi => (h1 i hi).1) (by omega)) (o2.row' (fun i hi => ⟨(h2.1 i hi).1.1, (h2.1 i hi).2.1⟩) (by omega)) (o3.row' (fun i hi => (h3 i hi).1) (by omega))
    rw [hc] at q
    exact q)
  have HS := hid hsb
  clear h hsb h1 h2 h3 hc hr hn1 hn2 hn3
  go_enter Tryz.func23, Tryz.ntmps23
  go_upto_region 1 with (first | (go_at_call 24; refine HR.out.mono ?_; rintro e y1 ⟨p1, p2, p3, q1, q2, q3, rfl, o1, o2, o3, r1, c1⟩; have O1 := hid o1; have O2 := hid o2; have O3 := hid o3; have M1 := hid r1; have C1 := hid c1; have S1 := hid (HS.out.chg c1 (by simp; exact hne)); obtain ⟨⟨k0, k1, k2, k3, k4, k5⟩, kf⟩ := S1.out; have f0 := kf 0 (by omega); have f1 := kf 1 (by omega); have f2' := kf 2 (by omega); have f3 := kf 3 (by omega); have f4 := kf 4 (by omega); have f5 := kf 5 (by omega); clear o1 o2 o3 r1 c1 kf))
  generalize hw2 : (((((y1.setCell ⟨sb, 0, none⟩ (.int .i64 s1)).setCell ⟨sb, 1, none⟩ (.int .i64 s2)).setCell ⟨sb, 2, none⟩ (.int .i64 s3)).setCell ⟨sb, 3, none⟩ (.slice p1 n1 q1)).setCell ⟨sb, 4, none⟩ (.slice p2 n2 q2)).setCell ⟨sb, 5, none⟩ (.slice p3 n3 q3) = w2 at *
  have c2 : Pk.Chg [sb] y1 w2 := by rw [← hw2]; exact put_chg _ _ _ _ _ _ _ _
  have S2 := hid (show BX w2 sb s1 s2 s3 (.slice p1 n1 q1) (.slice p2 n2 q2) (.slice p3 n3 q3) from by rw [← hw2]; exact S1.out.put)
  have M2 := hid (M1.out.chg c2 (by simp; exact fun q => hne q.symm) (by simp; exact fun q => hne2 q.symm))
  have hSS : ∀ k ∈ [sb], k < w.heap.size := fun k hk => by simp at hk; subst hk; exact HSZ.out
  have P1 := hid (O1.out.chg c2 hSS)
  have P2 := hid (O2.out.chg c2 hSS)
  have P3 := hid (O3.out.chg c2 hSS)
  have C2 := hid (show Pk.Chg [R, sb] w w2 from (C1.out.mono' (by simp)).trans (c2.mono' (by simp)))
  have HC2 := hid (HCk.out w2 p1 p2 p3 q1 q2 q3 P1.out P2.out P3.out)
  clear hw2 c2 hSS k0 k1 k2 k3 k4 k5 f0 f1 f2' f3 f4 f5 S1 M1 O1 O2 O3 C1 HR HCk HS
  obtain ⟨⟨k0, k1, k2, k3, k4, k5⟩, kf⟩ := S2.out
  clear kf
  go_wp2_with (first | (go_at_call 16; refine HC2.out.mono ?_; rintro e y3 ⟨rfl, u3⟩; have U3 := hid u3; clear u3))
  have c3 : ∀ S, Pk.Chg S w2 y3 := fun S => Pk.Chg.old U3.out
  exact bodyPost_end (v := .tuple #[]) (by simp [results, Tryz.results23, go_sem]) rfl ⟨C2.out.trans (c3 _), rfl, M2.out.chg (c3 []) (by simp) (by simp)⟩
set_option maxHeartbeats 2000000 in
set_option maxRecDepth 20000 in
theorem dec1_bad (R b0 sb : Nat) (r : Raw) (hr : r.Ok) (B : List Nat) (w : World) (h : RL w R b0 (r.enc B)) (hb : b0 ≠ R) (hR : R < w.heap.size) (hb0 : b0 < w.heap.size) (hsb : BX w sb 0 0 0 (.slice none 0 0) (.slice none 0 0) (.slice none 0 0)) (hne : sb ≠ R) (hne2 : sb ≠ b0) (hc : r.chk ≠ 0) :
    Calls Tryz.prog 23 #[.pointer (some ⟨R, 0, none⟩), .pointer (some ⟨sb, 0, none⟩)] w fun e w' => Pk.Chg [R, sb] w w' ∧ e = .panicked (Pk.ended R) ∧ Pk.RF w' R 30 := by
  rw [r.enc_bytes hr] at h
  have hn1 := hr.n1
  have hn2 := hr.n2
  have hn3 := hr.n3
  have h1 := hr.f1
  have h2 := hr.f2
  have h3 := hr.f3
  have HR := hid (read_gen R b0 r.s1 r.s2 r.s3 _ _ _ _ _ _ ⟨hr.r1, hr.r2, hr.r3⟩ ⟨hn1, hn2, hn3⟩ h1 h3 h2 B w h hb hR hb0)
  unfold Raw.chk at hc
  generalize r.xs.length = n1 at *
  generalize (prs r.ys).length = n2 at *
  generalize r.zs.length = n3 at *
  generalize atN r.xs = x1 at *
  generalize atN r.zs = x3 at *
  generalize atS (prs r.ys) = f2 at *
  generalize r.s1 = s1 at *
  generalize r.s2 = s2 at *
  generalize r.s3 = s3 at *
  have hc0 : chkV s1 s2 s3 n1 n2 n3 x1 x3 f2 ≠ 0 := hc
  clear hc
  generalize hck : chkV s1 s2 s3 n1 n2 n3 x1 x3 f2 = ck at *
  have HSZ := hid (show sb < w.heap.size from World.block_lt_of_cell? w _ hsb.1.1)
  have HCk := hid (show ∀ (W : World) (p1 p2 p3 : Option Addr) (q1 q2 q3 : Nat), FOwn w.heap.size W (.slice p1 n1 q1) (rl x1 n1) → SOwn w.heap.size W (.slice p2 n2 q2) (rl f2 n2) → FOwn w.heap.size W (.slice p3 n3 q3) (rl x3 n3) → Calls Tryz.prog 16 #[.agg #[.int .i64 s1, .int .i64 s2, .int .i64 s3, .slice p1 n1 q1, .slice p2 n2 q2, .slice p3 n3 q3]] W fun e w' => e = .returned (.int .i64 ck) ∧ Old W w' from fun W p1 p2 p3 q1 q2 q3 o1 o2 o3 => by
    have q := check_any s1 s2 s3 p1 p2 p3 n1 n2 n3 q1 q2 q3 x1 x3 f2 (by omega) (by omega) (by omega) W (o1.row' (fun i hi => (h1 i hi).1) (by omega)) (o2.row' (fun i hi => ⟨(h2.1 i hi).1.1, (h2.1 i hi).2.1⟩) (by omega)) (o3.row' (fun i hi => (h3 i hi).1) (by omega))
    rw [hck] at q
    exact q)
  have HS := hid hsb
  unfold Pk.ended
  clear h hsb h1 h2 h3 hr hn1 hn2 hn3 hck
  go_enter Tryz.func23, Tryz.ntmps23
  go_upto_region 1 with (first | (go_at_call 24; refine HR.out.mono ?_; rintro e y1 ⟨p1, p2, p3, q1, q2, q3, rfl, o1, o2, o3, r1, c1⟩; have O1 := hid o1; have O2 := hid o2; have O3 := hid o3; have M1 := hid r1; have C1 := hid c1; have S1 := hid (HS.out.chg c1 (by simp; exact hne)); obtain ⟨⟨k0, k1, k2, k3, k4, k5⟩, kf⟩ := S1.out; have f0 := kf 0 (by omega); have f1 := kf 1 (by omega); have f2' := kf 2 (by omega); have f3 := kf 3 (by omega); have f4 := kf 4 (by omega); have f5 := kf 5 (by omega); clear o1 o2 o3 r1 c1 kf))
  generalize hw2 : (((((y1.setCell ⟨sb, 0, none⟩ (.int .i64 s1)).setCell ⟨sb, 1, none⟩ (.int .i64 s2)).setCell ⟨sb, 2, none⟩ (.int .i64 s3)).setCell ⟨sb, 3, none⟩ (.slice p1 n1 q1)).setCell ⟨sb, 4, none⟩ (.slice p2 n2 q2)).setCell ⟨sb, 5, none⟩ (.slice p3 n3 q3) = w2 at *
  have c2 : Pk.Chg [sb] y1 w2 := by rw [← hw2]; exact put_chg _ _ _ _ _ _ _ _
  have S2 := hid (show BX w2 sb s1 s2 s3 (.slice p1 n1 q1) (.slice p2 n2 q2) (.slice p3 n3 q3) from by rw [← hw2]; exact S1.out.put)
  have M2 := hid (M1.out.chg c2 (by simp; exact fun q => hne q.symm) (by simp; exact fun q => hne2 q.symm))
  have hSS : ∀ k ∈ [sb], k < w.heap.size := fun k hk => by simp at hk; subst hk; exact HSZ.out
  have P1 := hid (O1.out.chg c2 hSS)
  have P2 := hid (O2.out.chg c2 hSS)
  have P3 := hid (O3.out.chg c2 hSS)
  have C2 := hid (show Pk.Chg [R, sb] w w2 from (C1.out.mono' (by simp)).trans (c2.mono' (by simp)))
  have HC2 := hid (HCk.out w2 p1 p2 p3 q1 q2 q3 P1.out P2.out P3.out)
  clear hw2 c2 hSS k0 k1 k2 k3 k4 k5 f0 f1 f2' f3 f4 f5 S1 M1 O1 O2 O3 C1 HR HCk HS
  obtain ⟨⟨k0, k1, k2, k3, k4, k5⟩, kf⟩ := S2.out
  clear kf
  have HNZ := hid hc0
  have tz : (ck != 0) = true := by rw [bne_iff_ne]; exact hc0
  have tz2 : (ck == 0) = false := by rw [beq_eq_false_iff_ne]; exact hc0
  clear hc0
  go_upto_region 2 with (first | (go_at_call 16; refine HC2.out.mono ?_; rintro e y3 ⟨rfl, u3⟩; have U3 := hid u3; clear u3))
  have c3 : ∀ S, Pk.Chg S w2 y3 := fun S => Pk.Chg.old U3.out
  have M3 := M2.out.chg (c3 []) (by simp) (by simp)
  obtain ⟨ra, rc, rr⟩ := M3.rd
  have HF := hid (Pk.fail_any R _ 30 y3 rr 30 (by simp))
  have HE := hid (show Pk.RF ((y3.setCell ⟨R, 1, none⟩ (.int .i64 30)).setCell ⟨R, 0, none⟩ (.slice none 0 0)) R 30 from (rr.s1 30).s0 _)
  have HCh := hid (show Pk.Chg [R, sb] w ((y3.setCell ⟨R, 1, none⟩ (.int .i64 30)).setCell ⟨R, 0, none⟩ (.slice none 0 0)) from ((C2.out.trans (c3 _)).trans ((Pk.Chg.set' _ ⟨R, 1, none⟩ _).mono' (by simp))).trans ((Pk.Chg.set' _ ⟨R, 0, none⟩ _).mono' (by simp)))
  clear c3 M3 rr k0 k1 k2 k3 k4 k5
  go_wp2_with (first | (go_at_call 25; refine HF.out.mono ?_; rintro e y4 ⟨rfl, rfl⟩))
  exact ⟨rfl, HCh.out, rfl, HE.out⟩
/-- Read where no right submission's bytes stand: an error of form. -/
theorem decode_read_no (L : List Nat) (hL : LB L) (hno : ∀ r : Raw, r.Ok → r.chk = 0 → L ≠ r.enc []) (w : World) (a0 : Option Addr) (c sb : Nat) (hB : Pk.ByRow w (.slice a0 L.length c) L.length (Pk.gd L)) (hfar : ∀ a, a0 = some a → 0 < L.length → a.block ≠ sb) (hsb : BX w sb 0 0 0 (.slice none 0 0) (.slice none 0 0) (.slice none 0 0)) :
    Calls Tryz.prog 22 #[.slice a0 L.length c, .func (.func 23) #[] #[.pointer (some ⟨sb, 0, none⟩)]] w fun e w' => e = .returned (.int .i64 30) ∧ Pk.Chg [sb] w w' := by
  have hz : sb < w.heap.size := World.block_lt_of_cell? w _ hsb.1.1
  have hos := Pk.opened_size w (.slice a0 L.length c)
  obtain ⟨b0, g1, g2, g3, hR⟩ := RL.opened' w a0 c L hB sb hz hfar
  have hbx : BX (Pk.opened w (.slice a0 L.length c)) sb 0 0 0 (.slice none 0 0) (.slice none 0 0) (.slice none 0 0) := hsb.chg (S := []) (Pk.Chg.old (Pk.opened_up w _)) (by simp)
  have hd : Calls Tryz.prog 23 #[.pointer (some ⟨w.heap.size + 1, 0, none⟩), .pointer (some ⟨sb, 0, none⟩)] (Pk.opened w (.slice a0 L.length c)) fun e w' => Pk.Chg [w.heap.size + 1, sb] (Pk.opened w (.slice a0 L.length c)) w' ∧ ((e = .returned (.tuple #[]) ∧ ∃ n, (∃ a cap, Pk.Rd w' (w.heap.size + 1) (.slice a n cap) 0 true) ∧ 0 < n) ∨ (e = .panicked (Pk.ended (w.heap.size + 1)) ∧ ∃ cd, cd ≠ 0 ∧ Pk.RF w' (w.heap.size + 1) cd ∧ cd = 30)) := by
    rcases read_all (w.heap.size + 1) b0 L hL _ hR g1 (by omega) g2 with ⟨r, B, _, hr, hE⟩ | ⟨_, hend⟩
    · have hR2 : RL (Pk.opened w (.slice a0 L.length c)) (w.heap.size + 1) b0 (r.enc B) := by rw [← hE]; exact hR
      by_cases hc : r.chk = 0
      · refine (dec1_some (w.heap.size + 1) b0 sb r hr B _ hR2 g1 (by omega) g2 hbx (by omega) g3 hc).mono ?_
        rintro e w' ⟨c1, rfl, r1⟩
        obtain ⟨ra, rc, rr⟩ := r1.rd
        refine ⟨c1, .inl ⟨rfl, _, ⟨ra, rc, rr⟩, ?_⟩⟩
        cases B with
        | nil => exact absurd hE (hno r hr hc)
        | cons b t => simp
      · refine (dec1_bad (w.heap.size + 1) b0 sb r hr B _ hR2 g1 (by omega) g2 hbx (by omega) g3 hc).mono ?_
        rintro e w' ⟨c1, rfl, r1⟩
        exact ⟨c1, .inr ⟨rfl, 30, by omega, r1, rfl⟩⟩
    · refine (dec1_end (w.heap.size + 1) b0 sb L _ hend).mono ?_
      rintro e w' ⟨c1, rfl, r1⟩
      exact ⟨c1, .inr ⟨rfl, 30, by omega, r1, rfl⟩⟩
  refine (Pk.read_of2 23 #[.pointer (some ⟨sb, 0, none⟩)] ent_dec1 w a0 L.length c [sb] (by simp; exact hz) (fun W n => 0 < n) (fun W cd => cd = 30) hd).mono ?_
  rintro e w' ⟨c1, W2, c2, ⟨k, hk, rfl⟩ | ⟨cd, rfl, rfl⟩⟩
  · rw [if_pos hk]; exact ⟨rfl, c1⟩
  · exact ⟨rfl, c1⟩
/-- What Decode answers where nothing is right. -/
def NoPost (w : World) (e : Ending) (w' : World) : Prop := e = .returned (.tuple #[.agg #[.int .i64 0, .int .i64 0, .int .i64 0, .slice none 0 0, .slice none 0 0, .slice none 0 0], .int .i64 30]) ∧ Old w w'
set_option maxHeartbeats 2000000 in
set_option maxRecDepth 20000 in
theorem decode_no (L : List Nat) (hL : LB L) (hno : ∀ r : Raw, r.Ok → r.chk = 0 → L ≠ r.enc []) (w : World) (v : Value) (hB : Pk.ByRow w v L.length (Pk.gd L)) :
    Calls Tryz.prog 11 #[v] w fun e w' => NoPost w e w' := by
  obtain ⟨a0, cap, rfl⟩ := hB.slice
  have HFar := hid (show ∀ a, a0 = some a → 0 < L.length → a.block < w.heap.size from fun a ha hl => by
    obtain ⟨b, off, cp, e, hcc, _⟩ := hB.cells hl
    have hb : b < w.heap.size := World.block_lt_of_cell? w _ (hcc 0 hl).2
    cases e; cases ha; exact hb)
  have HRd := hid (fun (W : World) (sb : Nat) (q : Pk.ByRow W (.slice a0 L.length cap) L.length (Pk.gd L)) (hf : ∀ a, a0 = some a → 0 < L.length → a.block ≠ sb) (hx : BX W sb 0 0 0 (.slice none 0 0) (.slice none 0 0) (.slice none 0 0)) => decode_read_no L hL hno W a0 cap sb q hf hx)
  have HB := hid hB
  clear hB hL hno
  generalize hN : L.length = N at *
  clear hN
  unfold NoPost
  have hmf : ∀ (fn : Fn) (first cap : Array Value) (w : World), (Instr.makeFunc fn first cap).run Tryz.prog w = .ok (.func fn first cap) w := fun _ _ _ _ => rfl
  go_enter Tryz.func11, Tryz.ntmps11
  go_upto_region 1 with fail
  generalize hw1 : w.alloc (.cells #[.int .i64 0, .int .i64 0, .int .i64 0, .slice none 0 0, .slice none 0 0, .slice none 0 0] 28) = w1 at *
  generalize hrb : w.heap.size = rb at *
  have HB1 := hid (BX.new w w1 hw1 rb hrb)
  have HRB := hid hrb
  clear hw1 hrb
  go_upto_region 2 with fail
  generalize hw2 : w1.alloc (.cells #[.int .i64 0, .int .i64 0, .int .i64 0, .slice none 0 0, .slice none 0 0, .slice none 0 0] 28) = w2 at *
  generalize hsb : w1.heap.size = sb at *
  obtain ⟨hb2, hu2, hz2⟩ := BX.new w1 w2 hw2 sb hsb
  obtain ⟨hb1, hu1, hz1⟩ := HB1.out
  have HZ := hid (show sb = rb + 1 ∧ w.heap.size = rb ∧ w2.heap.size = rb + 2 from ⟨by omega, HRB.out, by omega⟩)
  have U2 := hid (hu1.trans hu2)
  have BR := hid (hb1.chg (S := []) (Pk.Chg.old hu2) (by simp))
  have HR2 := hid (HRd.out w2 sb (HB.out.up U2.out) (fun a ha hl => by have := HFar.out a ha hl; have := HZ.out; omega) hb2)
  clear hw2 hsb hb1 hu1 hz1 hb2 hu2 hz2 HB1 HRB HRd HB
  go_upto_region 3 with (first | (go_at_call 22; refine HR2.out.mono ?_; rintro e w3 ⟨rfl, c3⟩; have C3 := hid c3; clear c3))
  have T3 := hid (BR.out.chg C3.out (by simp; have := HZ.out; omega))
  have U3 := hid (show Old w w3 from Pk.Chg.toOld U2.out C3.out (by simp; have := HZ.out; omega))
  obtain ⟨⟨t0, t1, t2, t3, t4, t5⟩, tf⟩ := T3.out
  have e0 := tf 0 (by omega)
  have e1 := tf 1 (by omega)
  have e2 := tf 2 (by omega)
  have e3 := tf 3 (by omega)
  have e4 := tf 4 (by omega)
  have e5 := tf 5 (by omega)
  clear tf C3 BR U2 HR2 hmf
  go_wp2
  have cF := put_chg w3 rb (.int .i64 0) (.int .i64 0) (.int .i64 0) (.slice none 0 0) (.slice none 0 0) (.slice none 0 0)
  have hzz := HZ.out
  refine bodyPost_ret (v := .tuple #[.agg #[.int .i64 0, .int .i64 0, .int .i64 0, .slice none 0 0, .slice none 0 0, .slice none 0 0], .int .i64 30]) (by simp [results, Tryz.results11, go_sem, *]) rfl ⟨rfl, Pk.Chg.toOld U3.out cF (by simp; omega)⟩
/-- Decode at all bytes: they are a right submission's, or none's. -/
theorem decode_all (L : List Nat) (hL : LB L) (w : World) (v : Value) (hB : Pk.ByRow w v L.length (Pk.gd L)) :
    (∃ r : Raw, r.Ok ∧ r.chk = 0 ∧ L = r.enc [] ∧ Calls Tryz.prog 11 #[v] w fun e w' => DecPost r.s1 r.s2 r.s3 r.xs.length (prs r.ys).length r.zs.length (atN r.xs) (atN r.zs) (atS (prs r.ys)) w e w') ∨ (∀ r : Raw, r.Ok → r.chk = 0 → L ≠ r.enc []) ∧ Calls Tryz.prog 11 #[v] w fun e w' => NoPost w e w' := by
  by_cases h : ∃ r : Raw, r.Ok ∧ r.chk = 0 ∧ L = r.enc []
  · obtain ⟨r, hr, hc, hE⟩ := h
    refine .inl ⟨r, hr, hc, hE, ?_⟩
    have hE2 := hE
    rw [r.enc_bytes hr] at hE2
    rw [hE2] at hB
    exact decode_ok r.s1 r.s2 r.s3 _ _ _ _ _ _ (fun i hi => (hr.f1 i hi).1) (fun i hi => ⟨(hr.f2.1 i hi).1.1, (hr.f2.1 i hi).2.1⟩) (fun i hi => (hr.f3 i hi).1) hc w v hB
  · have h2 : ∀ r : Raw, r.Ok → r.chk = 0 → L ≠ r.enc [] := fun r hr hc hE => h ⟨r, hr, hc, hE⟩
    exact .inr ⟨h2, decode_no L hL h2 w v hB⟩
end Go.Proofs.YtbkklemhhdejpaaGreat
namespace Go.Proofs.YtbkklemhhdejpaaGreat
open Go.RowKit Go.Lib
set_option linter.unusedVariables false
set_option linter.unusedSimpArgs false
set_option maxRecDepth 20000
/-- Bytes that came in, as a list. -/
theorem row_list {w : World} {v : Value} {n : Nat} {x : Nat → Nat} (h : Pk.ByRow w v n x) : ∃ L : List Nat, LB L ∧ Pk.ByRow w v L.length (Pk.gd L) := by
  refine ⟨(List.range n).map x, fun b hb => ?_, ?_⟩
  · obtain ⟨i, hi, rfl⟩ := List.mem_map.1 hb
    exact h.lt i (List.mem_range.1 hi)
  · have hl : ((List.range n).map x).length = n := by simp
    have hg : ∀ i, i < n → Pk.gd ((List.range n).map x) i = x i := fun i hi => by simp [Pk.gd, hi]
    rw [hl]
    rcases h with h | ⟨hn, hm, b, off, cap, hv, hc, hcp⟩
    · exact .inl h
    · exact .inr ⟨hn, hm, b, off, cap, hv, fun i hi => by rw [hg i hi]; exact hc i hi, hcp⟩
theorem LB.take {L : List Nat} (h : LB L) (k : Nat) : LB (L.take k) := fun b hb => h b (List.mem_of_mem_take hb)
theorem take_row {w : World} {b off cap : Nat} {L : List Nat} (h : Pk.ByRow w (.slice (some ⟨b, off, none⟩) L.length cap) L.length (Pk.gd L)) (k : Nat) (hk : k < L.length) : Pk.ByRow w (.slice (some ⟨b, off, none⟩) k cap) (L.take k).length (Pk.gd (L.take k)) := by
  have hl : (L.take k).length = k := by rw [List.length_take]; omega
  have hg : ∀ i, i < k → Pk.gd (L.take k) i = Pk.gd L i := fun i hi => by simp [Pk.gd, hi, List.getElem?_take]
  rw [hl]
  rcases h with ⟨h0, _⟩ | ⟨hn, hm, b', off', cap', hv, hc, hcp⟩
  · omega
  · cases hv
    by_cases h0 : k = 0
    · subst h0; exact .inl ⟨rfl, _, _, rfl, fun h => by cases h⟩
    · exact .inr ⟨by omega, by omega, b, off, cap, rfl, fun i hi => by rw [hg i hi]; exact hc i (by omega), by omega, hcp.2⟩
theorem no_part (r : Raw) (hr : r.Ok) (k : Nat) (hk : k < (r.enc []).length) : ∀ r' : Raw, r'.Ok → r'.chk = 0 → (r.enc []).take k ≠ r'.enc [] := by
  intro r' hr' _ he
  have e1 := tkSub_at r hr []
  have e2 : r.enc [] = r'.enc ((r.enc []).drop k) := by
    have q := r'.enc_app [] ((r.enc []).drop k)
    rw [← he, List.take_append_drop] at q
    exact q
  have e3 := tkSub_at r' hr' ((r.enc []).drop k)
  rw [← e2, e1] at e3
  have e4 : ([] : List Nat) = (r.enc []).drop k := by injection e3 with q; injection q
  have := congrArg List.length e4
  rw [List.length_drop] at this
  simp at this
  omega
theorem decode_yes (r : Raw) (hr : r.Ok) (hc : r.chk = 0) (w : World) (v : Value) (hB : Pk.ByRow w v (r.enc []).length (Pk.gd (r.enc []))) : Calls Tryz.prog 11 #[v] w fun e w' => DecPost r.s1 r.s2 r.s3 r.xs.length (prs r.ys).length r.zs.length (atN r.xs) (atN r.zs) (atS (prs r.ys)) w e w' := by
  rw [r.enc_bytes hr] at hB
  exact decode_ok r.s1 r.s2 r.s3 _ _ _ _ _ _ (fun i hi => (hr.f1 i hi).1) (fun i hi => ⟨(hr.f2.1 i hi).1.1, (hr.f2.1 i hi).2.1⟩) (fun i hi => (hr.f3 i hi).1) hc w v hB
/-- Parts as a submission whose rows lie somewhere. -/
def Raw.sb (r : Raw) (p1 p2 p3 : Option Addr) (q1 q2 q3 : Nat) : Sb := ⟨r.s1, r.s2, r.s3, p1, p2, p3, r.xs.length, (prs r.ys).length, r.zs.length, q1, q2, q3, atN r.xs, atN r.zs, atS (prs r.ys)⟩
theorem Raw.sb_enc (r : Raw) (hr : r.Ok) (p1 p2 p3 : Option Addr) (q1 q2 q3 : Nat) : (r.sb p1 p2 p3 q1 q2 q3).enc = r.enc [] := by
  rw [r.enc_bytes hr, ← encS_bytes]; rfl
theorem sameB_self (s : Sb) (h : s.chk = 0) : sameB s s = true := by
  unfold sameB
  rw [decide_eq_true h, decide_eq_true rfl]; rfl
theorem and_mask (a : Int) (m : Nat) (hm : m < 9223372036854775808) : ∃ M : Nat, M ≤ m ∧ bits .and .i64 a (m : Int) = (M : Int) := by
  refine ⟨(BitVec.ofInt 64 a &&& BitVec.ofInt 64 (m : Int)).toNat, ?_, ?_⟩
  · rw [BitVec.toNat_and, BitVec.ofInt_natCast, BitVec.toNat_ofNat, Nat.mod_eq_of_lt (by omega)]
    exact Nat.and_le_right
  · have h : (BitVec.ofInt 64 a &&& BitVec.ofInt 64 (m : Int)).toNat ≤ m := by
      rw [BitVec.toNat_and, BitVec.ofInt_natCast, BitVec.toNat_ofNat, Nat.mod_eq_of_lt (by omega)]
      exact Nat.and_le_right
    show IntKind.i64.wrap ((BitVec.ofInt 64 a &&& BitVec.ofInt 64 (m : Int)).toNat : Int) = _
    generalize (BitVec.ofInt 64 a &&& BitVec.ofInt 64 (m : Int)).toNat = r at *
    simp [IntKind.wrap, IntKind.bits, IntKind.signed]
    omega
theorem sameBytesL' (v u : Value) (L : List Nat) (w : World) (h1 : Pk.ByRow w v L.length (Pk.gd L)) (h2 : Pk.ByRow w u L.length (Pk.gd L)) : Calls Tryz.prog 15 #[v, u] w fun e w' => e = .returned (.bool true) ∧ Old w w' :=
  (Pk.sameBytes_eq v u L.length (Pk.gd L) (Pk.gd L) w h1 h2 (fun _ _ => rfl)).mono fun e w' h => ⟨h.1, by obtain ⟨m, q⟩ := h.2; rw [q]; exact (Old.refl w).drewN m⟩
attribute [local go_sem] run_bits run_frombits run_store_float eqF
set_option maxHeartbeats 2000000 in
set_option maxRecDepth 20000 in
theorem back_no (v : Value) (at_ : Int) (L : List Nat) (hL : LB L) (hno : ∀ r : Raw, r.Ok → r.chk = 0 → L ≠ r.enc []) (w : World) (hB : Pk.ByRow w v L.length (Pk.gd L)) :
    Calls Tryz.prog 5 #[v, .int .i64 at_] w fun e w' => e = .returned (.bool true) ∧ Old w w' := by
  have HD := hid (fun (W : World) (u : Old w W) => decode_no L hL hno W v (hB.up u))
  clear hB hno hL
  unfold NoPost at HD
  go_enter Tryz.func5, Tryz.ntmps5
  go_upto_region 3 with (first | (go_at_call 6; refine (coding_any _).mono ?_; rintro e w2 ⟨rfl, u2⟩; have U2 := hid u2; clear u2))
  go_upto_region 4 with (first | (go_at_call 11; refine (HD.out _ U2.out).mono ?_; rintro e w3 ⟨rfl, u3⟩; have U3 := hid (U2.out.trans u3); clear u3))
  have U4 := hid (U3.out.alloc (.cells #[.int .i64 0, .int .i64 0, .int .i64 0, .slice none 0 0, .slice none 0 0, .slice none 0 0] 28))
  clear HD U2 U3
  generalize w3.alloc (.cells #[.int .i64 0, .int .i64 0, .int .i64 0, .slice none 0 0, .slice none 0 0, .slice none 0 0] 28) = w4 at *
  go_wp2
  go_ret
  exact ⟨rfl, U4.out⟩
set_option maxHeartbeats 1000000 in
set_option maxRecDepth 20000 in
theorem back_yes (at_ : Int) (r : Raw) (hr : r.Ok) (hc : r.chk = 0) (hL : LB (r.enc [])) (w : World) (v : Value) (hB : Pk.ByRow w v (r.enc []).length (Pk.gd (r.enc []))) :
    Calls Tryz.prog 5 #[v, .int .i64 at_] w fun e w' => e = .returned (.bool true) ∧ Old w w' := by
  have hpos : 0 < (r.enc []).length := by
    have q := (Pk.num_len r.s1 hr.r1.1 hr.r1.2).1
    unfold Raw.enc
    rw [List.length_append]; omega
  obtain ⟨b, off, cap, rfl, hcc, hnc, hmx⟩ := hB.cells hpos
  obtain ⟨M, hM, eM⟩ := and_mask at_ 4095 (by omega)
  have hk : M % (r.enc []).length < (r.enc []).length := Nat.mod_lt _ hpos
  have HD := hid (fun (W : World) (u : Old w W) => decode_yes r hr hc W _ (hB.up u))
  have HN := hid (fun (W : World) (u : Old w W) => decode_no ((r.enc []).take (M % (r.enc []).length)) (hL.take _) (no_part r hr _ hk) W _ (take_row (hB.up u) _ hk))
  have HB := hid (fun (W : World) (u : Old w W) => hB.up u)
  have HS := hid (fun (W : World) (p1 p2 p3 : Option Addr) (q1 q2 q3 : Nat) (h1 : FRow W (.slice p1 r.xs.length q1) r.xs.length (atN r.xs)) (h2 : SRow W (.slice p2 (prs r.ys).length q2) (prs r.ys).length (atS (prs r.ys))) (h3 : FRow W (.slice p3 r.zs.length q3) r.zs.length (atN r.zs)) => (show (r.sb p1 p2 p3 q1 q2 q3).Ok W from ⟨h1, h2, h3, by have := hr.n1; simp only [Raw.sb]; omega, by have := hr.n2; simp only [Raw.sb]; omega, by have := hr.n3; simp only [Raw.sb]; omega⟩))
  have HE := hid (fun (W : World) (p1 p2 p3 : Option Addr) (q1 q2 q3 : Nat) (h : (r.sb p1 p2 p3 q1 q2 q3).Ok W) => by
    have q := (r.sb p1 p2 p3 q1 q2 q3).encode_ok W h hc
    rw [r.sb_enc hr] at q
    exact q)
  have HC := hid (fun (W : World) (p1 p2 p3 : Option Addr) (q1 q2 q3 : Nat) (h : (r.sb p1 p2 p3 q1 q2 q3).Ok W) => by
    have q := check_any r.s1 r.s2 r.s3 p1 p2 p3 r.xs.length (prs r.ys).length r.zs.length q1 q2 q3 (atN r.xs) (atN r.zs) (atS (prs r.ys)) h.b1 h.b2 h.b3 W h.h1 h.h2 h.h3
    rw [show chkV r.s1 r.s2 r.s3 r.xs.length (prs r.ys).length r.zs.length (atN r.xs) (atN r.zs) (atS (prs r.ys)) = 0 from hc] at q
    exact q)
  have HQ := hid (fun (W : World) (p1 p2 p3 : Option Addr) (q1 q2 q3 : Nat) (h : (r.sb p1 p2 p3 q1 q2 q3).Ok W) => by
    have q := subSame_any (r.sb p1 p2 p3 q1 q2 q3) (r.sb p1 p2 p3 q1 q2 q3) W h h
    rw [sameB_self (r.sb p1 p2 p3 q1 q2 q3) (show (r.sb p1 p2 p3 q1 q2 q3).chk = 0 from hc)] at q
    exact q)
  unfold NoPost at HN
  unfold DecPost at HD
  have HOk := hid (fun (W W' : World) (p1 p2 p3 : Option Addr) (q1 q2 q3 : Nat) (h : (r.sb p1 p2 p3 q1 q2 q3).Ok W) (u : Old W W') => h.old u)
  have HR := hid (fun (W : World) (u c : Value) (h1 : Pk.ByRow W u (r.enc []).length (Pk.gd (r.enc []))) (h2 : Pk.ByRow W c (r.enc []).length (Pk.gd (r.enc []))) => sameBytesL' u c (r.enc []) W h1 h2)
  unfold Raw.sb at *
  generalize r.xs.length = n1 at *
  generalize (prs r.ys).length = n2 at *
  generalize r.zs.length = n3 at *
  generalize atN r.xs = x1 at *
  generalize atN r.zs = x3 at *
  generalize atS (prs r.ys) = f2 at *
  generalize r.s1 = s1 at *
  generalize r.s2 = s2 at *
  generalize r.s3 = s3 at *
  generalize hNN : (r.enc []).length = N at *
  have HNN := hid hNN
  clear hNN
  unfold maxLen at hmx
  have hT : (bits .and .i64 at_ 4095).tmod (N : Int) = ((M % N : Nat) : Int) := by
    rw [show bits .and .i64 at_ 4095 = (M : Int) from eM, Int.tmod_eq_emod_of_nonneg (by omega)]
    rfl
  clear eM
  generalize M % N = k at *
  have l0 : (0 : Int) ≤ (k : Int) := by omega
  have l1 : (k : Int) ≤ (cap : Int) := by omega
  have l2 : ((N : Int) == 0) = false := by rw [beq_eq_false_iff_ne]; omega
  clear hcc hB hL hc hr
  go_enter Tryz.func5, Tryz.ntmps5
  go_upto_region 3 with (first | (go_at_call 6; refine (coding_any _).mono ?_; rintro e w2 ⟨rfl, u2⟩; have U2 := hid u2; clear u2))
  go_upto_region 4 with (first | (go_at_call 11; refine (HD.out _ U2.out).mono ?_; rintro e w3 ⟨p1, p2, p3, q1, q2, q3, rfl, h3, u3⟩; have H3 := hid h3; have U3 := hid (U2.out.trans u3); clear h3 u3))
  generalize hw4 : w3.alloc (.cells #[.int .i64 s1, .int .i64 s2, .int .i64 s3, .slice p1 n1 q1, .slice p2 n2 q2, .slice p3 n3 q3] 28) = w4 at *
  generalize htb : w3.heap.size = tb at *
  obtain ⟨hT, hV⟩ := sub_new w3 s1 s2 s3 _ _ _ w4 hw4 tb htb
  have T4 := hid hT
  have U4 := hid (U3.out.trans hV)
  have K4 := hid (HS.out w4 p1 p2 p3 q1 q2 q3 (H3.out.1.old hV) (H3.out.2.1.old hV) (H3.out.2.2.old hV))
  clear hw4 htb hT hV H3 U2 U3 HD HS
  obtain ⟨k0, k1, k2, k3, k4, k5⟩ := T4.out
  go_upto_region 7 with (first | (go_at_call 14; refine (HE.out _ _ _ _ _ _ _ K4.out).mono ?_; rintro e w5 ⟨b5, g5, c5, rfl, o5, q5, u5⟩; have O5 := hid (show Pk.ByRow w5 _ N (Pk.gd (r.enc [])) from by (have qq := o5.row; rw [HNN.out] at qq; exact qq)); have U5 := hid (U4.out.trans u5); have T5 := hid (SubAt.old u5 T4.out); have K5 := hid (HOk.out _ _ _ _ _ _ _ _ K4.out u5); clear o5 q5 u5))
  clear k0 k1 k2 k3 k4 k5 T4 K4 U4 HE
  go_upto_region 9 with (first | (go_at_call 15; refine (HR.out _ _ _ (HB.out _ U5.out) O5.out).mono ?_; rintro e w6 ⟨rfl, u6⟩; have U6 := hid (U5.out.trans u6); have K6 := hid (HOk.out _ _ _ _ _ _ _ _ K5.out u6); obtain ⟨k0, k1, k2, k3, k4, k5⟩ := SubAt.old u6 T5.out; have T6 := hid (SubAt.old u6 T5.out); clear u6) | (go_at_call 16; refine (HC.out _ _ _ _ _ _ _ K6.out).mono ?_; rintro e w7 ⟨rfl, u7⟩; have U7 := hid (U6.out.trans u7); have K7 := hid (HOk.out _ _ _ _ _ _ _ _ K6.out u7); clear k0 k1 k2 k3 k4 k5; obtain ⟨k0, k1, k2, k3, k4, k5⟩ := SubAt.old u7 T6.out; clear u7) | (go_at_call 17; refine (HQ.out _ _ _ _ _ _ _ K7.out).mono ?_; rintro e w8 ⟨rfl, u8⟩; have U8 := hid (U7.out.trans u8); clear u8))
  clear k0 k1 k2 k3 k4 k5 T5 T6 K5 K6 K7 U5 U6 U7 HC HQ HR HOk HB O5
  go_wp2_with (first | (go_at_call 11; refine (HN.out _ U8.out).mono ?_; rintro e w9 ⟨rfl, u9⟩; have U9 := hid (U8.out.trans u9); clear u9))
  go_ret
  exact ⟨rfl, U9.out.alloc _⟩
theorem backLaw (v : Value) (at_ : Int) (w : World) (h : ∃ (n : Nat) (x : Nat → Nat), Pk.ByRow w v n x) :
    Calls Tryz.prog 5 #[v, .int .i64 at_] w fun e w' => e = .returned (.bool true) ∧ Old w w' := by
  obtain ⟨n, x, h⟩ := h
  obtain ⟨L, hL, hB⟩ := row_list h
  by_cases q : ∃ r : Raw, r.Ok ∧ r.chk = 0 ∧ L = r.enc []
  · obtain ⟨r, hr, hc, rfl⟩ := q
    exact back_yes at_ r hr hc hL w v hB
  · exact back_no v at_ L hL (fun r hr hc e => q ⟨r, hr, hc, e⟩) w hB
end Go.Proofs.YtbkklemhhdejpaaGreat
namespace Go.Proofs.YtbkklemhhdejpaaGreat
open Go.RowKit Go.Lib
set_option linter.unusedVariables false
set_option linter.unusedSimpArgs false
set_option maxRecDepth 20000
/-- What is left of bytes. -/
theorem cut_row {w : World} {b off cap k : Nat} {L : List Nat} (h : Pk.ByRow w (.slice (some ⟨b, off, none⟩) L.length cap) L.length (Pk.gd L)) (hk : k ≤ L.length) (o : Nat) (ho : o = if cap = k then off else off + k) : Pk.ByRow w (.slice (some ⟨b, o, none⟩) (L.length - k) (cap - k)) (L.drop k).length (Pk.gd (L.drop k)) := by
  rw [gd_drop, List.length_drop]
  rcases h with ⟨h0, _⟩ | ⟨hn, hm, b', off', cap', hv, hc, hcp⟩
  · exact .inl ⟨by omega, _, _, by rw [show L.length - k = 0 by omega], fun h => by cases h⟩
  · cases hv
    by_cases hz : L.length - k = 0
    · exact .inl ⟨hz, _, _, by rw [hz], fun h => by cases h⟩
    · rw [if_neg (by omega)] at ho
      subst ho
      refine .inr ⟨by omega, by omega, b, off + k, cap - k, rfl, fun i hi => ?_, by omega, by omega⟩
      have q := hc (k + i) (by omega)
      rw [← Nat.add_assoc] at q
      exact q
theorem tkK_cut {D B : List Nat} {x : Nat} (h : tkK D = some (x, B)) : 8 ≤ D.length ∧ Pk.lkK (Pk.gd D) D.length = 8 ∧ Pk.lkV (Pk.gd D) D.length = x ∧ B = D.drop 8 := by
  unfold tkK at h
  split at h
  · cases h
  · rename_i hk
    have e : Pk.lkK (Pk.gd D) D.length = 8 ∧ 8 ≤ D.length := by
      unfold Pk.lkK at hk ⊢
      by_cases q : 8 ≤ D.length ∧ Fl.isCode (Pk.lkC (Pk.gd D) 8) = true
      · rw [if_pos q]; exact ⟨rfl, q.1⟩
      · rw [if_neg q] at hk; exact absurd rfl hk
    cases h
    exact ⟨e.2, e.1, rfl, by rw [e.1]⟩
theorem tkC_cut {most n : Nat} {L B : List Nat} (h : tkC most L = some (n, B)) : Pk.lnK (Pk.gd L) L.length ≠ 0 ∧ Pk.lnK (Pk.gd L) L.length ≤ L.length ∧ Pk.lnV (Pk.gd L) L.length = (n : Int) ∧ n ≤ most ∧ B = L.drop (Pk.lnK (Pk.gd L) L.length) := by
  unfold tkC tkN at h
  by_cases q : Pk.lnK (Pk.gd L) L.length = 0
  · rw [if_pos q] at h; cases h
  · rw [if_neg q] at h
    simp only at h
    split at h
    · rename_i k
      cases h
      exact ⟨q, Pk.ln_le _ _ 11 0, by omega, by omega, rfl⟩
    · cases h
theorem tkC_no {most : Nat} {L : List Nat} (h : tkC most L = none) : Pk.lnK (Pk.gd L) L.length = 0 ∨ Pk.lnK (Pk.gd L) L.length ≠ 0 ∧ (Pk.lnV (Pk.gd L) L.length < 0 ∨ 0 ≤ Pk.lnV (Pk.gd L) L.length ∧ (most : Int) < Pk.lnV (Pk.gd L) L.length) := by
  unfold tkC tkN at h
  by_cases q : Pk.lnK (Pk.gd L) L.length = 0
  · exact .inl q
  · rw [if_neg q] at h
    simp only at h
    split at h
    · cases h
    · rename_i k
      right; refine ⟨q, ?_⟩; omega
theorem tkKs_succ (n : Nat) (L : List Nat) : tkKs (n + 1) L = match tkK L with | none => none | some (x, B) => match tkKs n B with | none => none | some (xs, C) => some (x :: xs, C) := rfl
/-- What take answers. -/
def TakePost (base : Nat) (o : Option (List Nat × List Nat)) (w : World) (e : Ending) (w' : World) : Prop := Old w w' ∧ ((o = none ∧ e = .returned (.tuple #[.slice none 0 0, .slice none 0 0, .bool false])) ∨ ∃ xs B u v, o = some (xs, B) ∧ e = .returned (.tuple #[u, v, .bool true]) ∧ OwnF base w' u xs ∧ Pk.ByRow w' v B.length (Pk.gd B))
attribute [local go_sem] run_bits run_frombits run_store_float eqF
set_option maxHeartbeats 1000000 in
set_option maxRecDepth 20000 in
theorem take1_no (v : Value) (L : List Nat) (most : Nat) (hmo : most ≤ 16) (w : World) (hB : Pk.ByRow w v L.length (Pk.gd L)) (hn : tkC most L = none) :
    Calls Tryz.prog 27 #[v, .int .i64 (most : Int), .int .i64 1] w fun e w' => TakePost w.heap.size none w e w' := by
  have HG := hid (Pk.refGetNum_any v _ _ w hB)
  have hcase := tkC_no hn
  have hm1 : (most : Int) ≤ 16 := by omega
  clear hB hn
  generalize Pk.lnK (Pk.gd L) L.length = K at *
  generalize Pk.lnV (Pk.gd L) L.length = V at *
  have HP : Hid (∀ W, W = w → TakePost w.heap.size none w (.returned (.tuple #[.slice none 0 0, .slice none 0 0, .bool false])) W) := fun W e => by subst e; exact ⟨Old.refl _, .inl ⟨rfl, rfl⟩⟩
  rcases hcase with h0 | ⟨h0, h1 | ⟨h1, h2⟩⟩
  · subst h0
    go_enter Tryz.func27, Tryz.ntmps27
    go_wp2_with (first | (go_at_call 26; refine HG.out.mono ?_; rintro e w1 ⟨rfl, hw⟩; have hw2 := hw.symm; subst hw2))
    refine bodyPost_ret (v := .tuple #[.slice none 0 0, .slice none 0 0, .bool false]) (by simp [results, Tryz.results27, go_sem]) rfl (HP.out _ rfl)
  · have tk : ((K : Int) == 0) = false := by rw [beq_eq_false_iff_ne]; omega
    go_enter Tryz.func27, Tryz.ntmps27
    go_wp2_with (first | (go_at_call 26; refine HG.out.mono ?_; rintro e w1 ⟨rfl, hw⟩; have hw2 := hw.symm; subst hw2))
    refine bodyPost_ret (v := .tuple #[.slice none 0 0, .slice none 0 0, .bool false]) (by simp [results, Tryz.results27, go_sem]) rfl (HP.out _ rfl)
  · have tk : ((K : Int) == 0) = false := by rw [beq_eq_false_iff_ne]; omega
    go_enter Tryz.func27, Tryz.ntmps27
    go_wp2_with (first | (go_at_call 26; refine HG.out.mono ?_; rintro e w1 ⟨rfl, hw⟩; have hw2 := hw.symm; subst hw2))
    refine bodyPost_ret (v := .tuple #[.slice none 0 0, .slice none 0 0, .bool false]) (by simp [results, Tryz.results27, go_sem]) rfl (HP.out _ rfl)
set_option maxHeartbeats 2000000 in
set_option maxRecDepth 20000 in
theorem take1_some (v : Value) (L : List Nat) (hL : LB L) (most n : Nat) (B : List Nat) (hmo : most ≤ 16) (w : World) (hB : Pk.ByRow w v L.length (Pk.gd L)) (hn : tkC most L = some (n, B)) :
    Calls Tryz.prog 27 #[v, .int .i64 (most : Int), .int .i64 1] w fun e w' => TakePost w.heap.size (tkKs (n) B) w e w' := by
  have HG := hid (Pk.refGetNum_any v _ _ w hB)
  obtain ⟨hk0, hkl, hV, hnm, hBd⟩ := tkC_cut hn
  rw [hV] at HG
  obtain ⟨b, off, cap, rfl, hcc, hnc, hmx⟩ := hB.cells (by omega)
  unfold maxLen at hmx
  obtain ⟨o, hif, hro⟩ : ∃ o, (if cap = Pk.lnK (Pk.gd L) L.length then (some ⟨b, off, none⟩ : Option Addr) else some ⟨b, off + Pk.lnK (Pk.gd L) L.length, none⟩) = some ⟨b, o, none⟩ ∧ Pk.ByRow w (.slice (some ⟨b, o, none⟩) (L.length - Pk.lnK (Pk.gd L) L.length) (cap - Pk.lnK (Pk.gd L) L.length)) B.length (Pk.gd B) := by
    refine ⟨if cap = Pk.lnK (Pk.gd L) L.length then off else off + Pk.lnK (Pk.gd L) L.length, by split <;> rfl, ?_⟩
    rw [hBd]
    exact cut_row hB hkl _ rfl
  have HBr := hid hro
  clear hro
  have tk : ((Pk.lnK (Pk.gd L) L.length : Int) == 0) = false := by rw [beq_eq_false_iff_ne]; omega
  have HLB := hid (tkC_some hL hn).2.2
  clear hB hn hcc hV hBd hL
  generalize Pk.lnK (Pk.gd L) L.length = K at *
  generalize L.length = N at *
  have t1 : decide ((n : Int) < 0) = false := by rw [decide_eq_false_iff_not]; omega
  have t2 : decide (most < n) = false := by rw [decide_eq_false_iff_not]; omega
  have t3 : decide ((most : Int) < (n : Int)) = false := by rw [decide_eq_false_iff_not]; omega
  have l1 : (0 : Int) ≤ (n : Int) := by omega
  have l2 : (n : Int) ≤ (most : Int) := by omega
  have l3 : (most : Int) ≤ 16 := by omega
  have l4 : (0 : Int) ≤ (K : Int) := by omega
  have l5 : (K : Int) ≤ (N : Int) := by omega
  have l6 : (K : Int) ≤ (cap : Int) := by omega
  have HP : Hid (∀ xs B' u vv W, OwnF w.heap.size W u xs → Pk.ByRow W vv B'.length (Pk.gd B') → Old w W → tkKs (n) B = some (xs, B') → TakePost w.heap.size (tkKs (n) B) w (.returned (.tuple #[u, vv, .bool true])) W) := fun xs B' u vv W h1 h2 h3 h4 => ⟨h3, .inr ⟨xs, B', u, vv, h4, rfl, h1, h2⟩⟩
  have HPn : Hid (∀ W, Old w W → tkKs (n) B = none → TakePost w.heap.size (tkKs (n) B) w (.returned (.tuple #[.slice none 0 0, .slice none 0 0, .bool false])) W) := fun W h3 h4 => ⟨h3, .inl ⟨h4, rfl⟩⟩
  go_enter Tryz.func27, Tryz.ntmps27
  go_upto_region 4 with (first | (go_at_call 26; refine HG.out.mono ?_; rintro e w1 ⟨rfl, hw⟩; have hw2 := hw.symm; subst hw2))
  go_wp2
  go_loopw [0, 11, 12] (fun vb vo i wr => ∃ (j : Nat) (D xs : List Nat) (ub uo : Value), ub = vb ∧ uo = vo ∧ j ≤ n ∧ i = .int .i64 (j : Nat) ∧ OwnF w.heap.size wr uo xs ∧ Pk.ByRow w ub D.length (Pk.gd D) ∧ xs.length = j ∧ tkKs (n) B = (tkKs (n - j) D).map (fun p => (xs ++ p.1, p.2)) ∧ Old w wr) (fun _ _ i _ => n - (intOf i).toNat)
  case atStart => exact ⟨0, B, [], _, _, rfl, rfl, Nat.zero_le _, rfl, OwnF.empty (Nat.le_refl _) rfl, HBr.out, rfl, by rw [Nat.sub_zero]; cases tkKs (n) B <;> rfl, (Old.refl w).alloc _⟩
  case round =>
    obtain ⟨j, D, xs, ub, uo, rfl, rfl, hj, rfl, hO, hR, hl, hE, hU⟩ := hrel
    have HO := hid hO
    have HU := hid hU
    have HE := hid hE
    clear hO hE HBr
    by_cases hlt : j < n
    · have lj : (j : Int) < (n : Int) := by omega
      have lj0 : (0 : Int) ≤ (j : Int) := by omega
      cases e : tkK D with
      | none =>
        have HK := hid (Pk.one_key ub _ _ wr (hR.up hU))
        have hz : Pk.lkK (Pk.gd D) D.length = 0 := by
          unfold tkK at e
          split at e
          · assumption
          · cases e
        unfold Pk.OneK at HK
        rw [hz] at HK
        have HNo := hid (show tkKs (n) B = none from by
          rw [HE.out, show n - j = (n - j - 1) + 1 by omega, tkKs_succ, e]; rfl)
        clear hz e HE hR hU
        go_upto_region 10 with (first | (go_at_call 50; refine HK.out.mono ?_; rintro e w3 ⟨X, rfl, _, u3⟩; have U3 := hid (HU.out.trans u3); clear u3))
        have U4 := hid (U3.out.alloc (.cells #[.int .i64 2, .int .i64 0, .float .f64 X, .slice none 0 0, .bool false] 84))
        generalize w3.alloc (.cells #[.int .i64 2, .int .i64 0, .float .f64 X, .slice none 0 0, .bool false] 84) = w4 at *
        go_wp2
        refine bodyPost_ret (v := .tuple #[.slice none 0 0, .slice none 0 0, .bool false]) (by simp [results, Tryz.results27, go_sem]) rfl (HPn.out _ U4.out HNo.out)
      | some p =>
        obtain ⟨x, D'⟩ := p
        obtain ⟨h8, hK8, hVx, hD'⟩ := tkK_cut e
        obtain ⟨b1, off1, cap1, rfl, hcc1, hnc1, hmx1⟩ := hR.cells (by omega)
        unfold maxLen at hmx1
        have HK := hid (Pk.one_key _ _ _ wr (hR.up hU))
        unfold Pk.OneK at HK
        rw [hK8, hVx] at HK
        obtain ⟨o1, hif1, hro1⟩ : ∃ o1, (if cap1 = 8 then (some ⟨b1, off1, none⟩ : Option Addr) else some ⟨b1, off1 + 8, none⟩) = some ⟨b1, o1, none⟩ ∧ Pk.ByRow w (.slice (some ⟨b1, o1, none⟩) (D.length - 8) (cap1 - 8)) D'.length (Pk.gd D') := by
          refine ⟨if cap1 = 8 then off1 else off1 + 8, by split <;> rfl, ?_⟩
          rw [hD']
          exact cut_row hR h8 _ rfl
        have HR2 := hid hro1
        have HNx := hid (show tkKs (n) B = (tkKs (n - (j + 1)) D').map (fun p => ((xs ++ [x]) ++ p.1, p.2)) from by
          rw [HE.out, show n - j = (n - (j + 1)) + 1 by omega, tkKs_succ, e]
          simp only
          cases tkKs (n - (j + 1)) D' with
          | none => rfl
          | some q => simp)
        have m1 : (8 : Int) ≤ (D.length : Int) := by omega
        have m2 : (8 : Int) ≤ (cap1 : Int) := by omega
        have m3 : 8 ≤ cap1 := by omega
        have HL := hid (show xs.length + 1 ≤ 17592186044416 by omega)
        have HLx := hid hl
        clear hro1 e HE hR hU hD' hVx hK8 hcc1 hl
        generalize D.length = ND at *
        go_upto_region 10 with (first | (go_at_call 50; refine HK.out.mono ?_; rintro e w3 ⟨X, rfl, hX, u3⟩; have U3 := hid u3; have hX2 : X = x := hX (by omega); subst hX2; clear u3 hX))
        generalize hw4 : w3.alloc (.cells #[.int .i64 2, .int .i64 0, .float .f64 X, .slice none 0 0, .bool false] 84) = w4 at *
        generalize hbx : w3.heap.size = bx at *
        have c2 : w4.cell? ⟨bx, 2, none⟩ = some (.float .f64 X) := by rw [← hw4, ← hbx]; simp
        have V4 := hid (show Old wr w4 from by rw [← hw4]; exact U3.out.alloc _)
        have O4 := hid (HO.out.up V4.out)
        have U4 := hid (HU.out.trans V4.out)
        clear hw4 hbx U3 V4 HO HU HK
        go_wp2_with (first | (at_builtin; refine wp_appF rfl (.tmp 49) (.tmp 52) rfl w.heap.size _ xs _ 1 X rfl rfl (OwnF.up O4.out ((Old.refl _).alloc _)) (cell_one _ _ _ (by simp)) (by have := HL.out; omega) (by have := U4.out.size; simp; omega) ?_; intro v8 w8 o8 u8; have O8 := hid o8; have V8 := hid (below_up' U4.out ((Old.refl _).alloc _) u8); clear o8 u8))
        go_roundw
        case rel => exact ⟨j + 1, D', xs ++ [X], _, _, rfl, rfl, hlt, by go_num, O8.out, HR2.out, by rw [List.length_append, HLx.out]; rfl, HNx.out, V8.out⟩
        case measure => simp [intOf]; omega
    · have hjn : n = j := by omega
      have hE2 := HE.out
      rw [show n - j = 0 by omega] at hE2
      have HNo := hid (show tkKs (n) B = some (xs, D) from by rw [hE2]; simp [tkKs])
      have lj : ¬ ((j : Int) < (n : Int)) := by omega
      have HR := hid (hR.up hU)
      clear hE2 hR hU HE hjn
      go_wp2
      refine bodyPost_ret (v := .tuple #[uo, ub, .bool true]) (by simp [results, Tryz.results27, go_sem]) rfl (HP.out _ _ _ _ _ HO.out HR.out HU.out HNo.out)
theorem take1_any (v : Value) (L : List Nat) (hL : LB L) (most : Nat) (hmo : most ≤ 16) (w : World) (hB : Pk.ByRow w v L.length (Pk.gd L)) :
    Calls Tryz.prog 27 #[v, .int .i64 (most : Int), .int .i64 1] w fun e w' => TakePost w.heap.size (tkR most 1 L) w e w' := by
  unfold tkR
  cases e : tkC most L with
  | none => exact take1_no v L most hmo w hB e
  | some p =>
    obtain ⟨n, B⟩ := p
    simp only [Nat.mul_one]
    exact take1_some v L hL most n B hmo w hB e
set_option maxHeartbeats 1000000 in
set_option maxRecDepth 20000 in
theorem take2_no (v : Value) (L : List Nat) (most : Nat) (hmo : most ≤ 16) (w : World) (hB : Pk.ByRow w v L.length (Pk.gd L)) (hn : tkC most L = none) :
    Calls Tryz.prog 27 #[v, .int .i64 (most : Int), .int .i64 2] w fun e w' => TakePost w.heap.size none w e w' := by
  have HG := hid (Pk.refGetNum_any v _ _ w hB)
  have hcase := tkC_no hn
  have hm1 : (most : Int) ≤ 16 := by omega
  clear hB hn
  generalize Pk.lnK (Pk.gd L) L.length = K at *
  generalize Pk.lnV (Pk.gd L) L.length = V at *
  have HP : Hid (∀ W, W = w → TakePost w.heap.size none w (.returned (.tuple #[.slice none 0 0, .slice none 0 0, .bool false])) W) := fun W e => by subst e; exact ⟨Old.refl _, .inl ⟨rfl, rfl⟩⟩
  rcases hcase with h0 | ⟨h0, h1 | ⟨h1, h2⟩⟩
  · subst h0
    go_enter Tryz.func27, Tryz.ntmps27
    go_wp2_with (first | (go_at_call 26; refine HG.out.mono ?_; rintro e w1 ⟨rfl, hw⟩; have hw2 := hw.symm; subst hw2))
    refine bodyPost_ret (v := .tuple #[.slice none 0 0, .slice none 0 0, .bool false]) (by simp [results, Tryz.results27, go_sem]) rfl (HP.out _ rfl)
  · have tk : ((K : Int) == 0) = false := by rw [beq_eq_false_iff_ne]; omega
    go_enter Tryz.func27, Tryz.ntmps27
    go_wp2_with (first | (go_at_call 26; refine HG.out.mono ?_; rintro e w1 ⟨rfl, hw⟩; have hw2 := hw.symm; subst hw2))
    refine bodyPost_ret (v := .tuple #[.slice none 0 0, .slice none 0 0, .bool false]) (by simp [results, Tryz.results27, go_sem]) rfl (HP.out _ rfl)
  · have tk : ((K : Int) == 0) = false := by rw [beq_eq_false_iff_ne]; omega
    go_enter Tryz.func27, Tryz.ntmps27
    go_wp2_with (first | (go_at_call 26; refine HG.out.mono ?_; rintro e w1 ⟨rfl, hw⟩; have hw2 := hw.symm; subst hw2))
    refine bodyPost_ret (v := .tuple #[.slice none 0 0, .slice none 0 0, .bool false]) (by simp [results, Tryz.results27, go_sem]) rfl (HP.out _ rfl)
set_option maxHeartbeats 2000000 in
set_option maxRecDepth 20000 in
theorem take2_some (v : Value) (L : List Nat) (hL : LB L) (most n : Nat) (B : List Nat) (hmo : most ≤ 16) (w : World) (hB : Pk.ByRow w v L.length (Pk.gd L)) (hn : tkC most L = some (n, B)) :
    Calls Tryz.prog 27 #[v, .int .i64 (most : Int), .int .i64 2] w fun e w' => TakePost w.heap.size (tkKs (n * 2) B) w e w' := by
  have HG := hid (Pk.refGetNum_any v _ _ w hB)
  obtain ⟨hk0, hkl, hV, hnm, hBd⟩ := tkC_cut hn
  rw [hV] at HG
  obtain ⟨b, off, cap, rfl, hcc, hnc, hmx⟩ := hB.cells (by omega)
  unfold maxLen at hmx
  obtain ⟨o, hif, hro⟩ : ∃ o, (if cap = Pk.lnK (Pk.gd L) L.length then (some ⟨b, off, none⟩ : Option Addr) else some ⟨b, off + Pk.lnK (Pk.gd L) L.length, none⟩) = some ⟨b, o, none⟩ ∧ Pk.ByRow w (.slice (some ⟨b, o, none⟩) (L.length - Pk.lnK (Pk.gd L) L.length) (cap - Pk.lnK (Pk.gd L) L.length)) B.length (Pk.gd B) := by
    refine ⟨if cap = Pk.lnK (Pk.gd L) L.length then off else off + Pk.lnK (Pk.gd L) L.length, by split <;> rfl, ?_⟩
    rw [hBd]
    exact cut_row hB hkl _ rfl
  have HBr := hid hro
  clear hro
  have tk : ((Pk.lnK (Pk.gd L) L.length : Int) == 0) = false := by rw [beq_eq_false_iff_ne]; omega
  have HLB := hid (tkC_some hL hn).2.2
  clear hB hn hcc hV hBd hL
  generalize Pk.lnK (Pk.gd L) L.length = K at *
  generalize L.length = N at *
  have t1 : decide ((n : Int) < 0) = false := by rw [decide_eq_false_iff_not]; omega
  have t2 : decide (most < n) = false := by rw [decide_eq_false_iff_not]; omega
  have t3 : decide ((most : Int) < (n : Int)) = false := by rw [decide_eq_false_iff_not]; omega
  have l1 : (0 : Int) ≤ (n : Int) := by omega
  have l2 : (n : Int) ≤ (most : Int) := by omega
  have l3 : (most : Int) ≤ 16 := by omega
  have l4 : (0 : Int) ≤ (K : Int) := by omega
  have l5 : (K : Int) ≤ (N : Int) := by omega
  have l6 : (K : Int) ≤ (cap : Int) := by omega
  have HP : Hid (∀ xs B' u vv W, OwnF w.heap.size W u xs → Pk.ByRow W vv B'.length (Pk.gd B') → Old w W → tkKs (n * 2) B = some (xs, B') → TakePost w.heap.size (tkKs (n * 2) B) w (.returned (.tuple #[u, vv, .bool true])) W) := fun xs B' u vv W h1 h2 h3 h4 => ⟨h3, .inr ⟨xs, B', u, vv, h4, rfl, h1, h2⟩⟩
  have HPn : Hid (∀ W, Old w W → tkKs (n * 2) B = none → TakePost w.heap.size (tkKs (n * 2) B) w (.returned (.tuple #[.slice none 0 0, .slice none 0 0, .bool false])) W) := fun W h3 h4 => ⟨h3, .inl ⟨h4, rfl⟩⟩
  go_enter Tryz.func27, Tryz.ntmps27
  go_upto_region 4 with (first | (go_at_call 26; refine HG.out.mono ?_; rintro e w1 ⟨rfl, hw⟩; have hw2 := hw.symm; subst hw2))
  go_wp2
  go_loopw [0, 11, 12] (fun vb vo i wr => ∃ (j : Nat) (D xs : List Nat) (ub uo : Value), ub = vb ∧ uo = vo ∧ j ≤ n * 2 ∧ i = .int .i64 (j : Nat) ∧ OwnF w.heap.size wr uo xs ∧ Pk.ByRow w ub D.length (Pk.gd D) ∧ xs.length = j ∧ tkKs (n * 2) B = (tkKs (n * 2 - j) D).map (fun p => (xs ++ p.1, p.2)) ∧ Old w wr) (fun _ _ i _ => n * 2 - (intOf i).toNat)
  case atStart => exact ⟨0, B, [], _, _, rfl, rfl, Nat.zero_le _, rfl, OwnF.empty (Nat.le_refl _) rfl, HBr.out, rfl, by rw [Nat.sub_zero]; cases tkKs (n * 2) B <;> rfl, (Old.refl w).alloc _⟩
  case round =>
    obtain ⟨j, D, xs, ub, uo, rfl, rfl, hj, rfl, hO, hR, hl, hE, hU⟩ := hrel
    have HO := hid hO
    have HU := hid hU
    have HE := hid hE
    clear hO hE HBr
    by_cases hlt : j < n * 2
    · have lj : (j : Int) < (n : Int) * 2 := by omega
      have lj0 : (0 : Int) ≤ (j : Int) := by omega
      cases e : tkK D with
      | none =>
        have HK := hid (Pk.one_key ub _ _ wr (hR.up hU))
        have hz : Pk.lkK (Pk.gd D) D.length = 0 := by
          unfold tkK at e
          split at e
          · assumption
          · cases e
        unfold Pk.OneK at HK
        rw [hz] at HK
        have HNo := hid (show tkKs (n * 2) B = none from by
          rw [HE.out, show n * 2 - j = (n * 2 - j - 1) + 1 by omega, tkKs_succ, e]; rfl)
        clear hz e HE hR hU
        go_upto_region 10 with (first | (go_at_call 50; refine HK.out.mono ?_; rintro e w3 ⟨X, rfl, _, u3⟩; have U3 := hid (HU.out.trans u3); clear u3))
        have U4 := hid (U3.out.alloc (.cells #[.int .i64 2, .int .i64 0, .float .f64 X, .slice none 0 0, .bool false] 84))
        generalize w3.alloc (.cells #[.int .i64 2, .int .i64 0, .float .f64 X, .slice none 0 0, .bool false] 84) = w4 at *
        go_wp2
        refine bodyPost_ret (v := .tuple #[.slice none 0 0, .slice none 0 0, .bool false]) (by simp [results, Tryz.results27, go_sem]) rfl (HPn.out _ U4.out HNo.out)
      | some p =>
        obtain ⟨x, D'⟩ := p
        obtain ⟨h8, hK8, hVx, hD'⟩ := tkK_cut e
        obtain ⟨b1, off1, cap1, rfl, hcc1, hnc1, hmx1⟩ := hR.cells (by omega)
        unfold maxLen at hmx1
        have HK := hid (Pk.one_key _ _ _ wr (hR.up hU))
        unfold Pk.OneK at HK
        rw [hK8, hVx] at HK
        obtain ⟨o1, hif1, hro1⟩ : ∃ o1, (if cap1 = 8 then (some ⟨b1, off1, none⟩ : Option Addr) else some ⟨b1, off1 + 8, none⟩) = some ⟨b1, o1, none⟩ ∧ Pk.ByRow w (.slice (some ⟨b1, o1, none⟩) (D.length - 8) (cap1 - 8)) D'.length (Pk.gd D') := by
          refine ⟨if cap1 = 8 then off1 else off1 + 8, by split <;> rfl, ?_⟩
          rw [hD']
          exact cut_row hR h8 _ rfl
        have HR2 := hid hro1
        have HNx := hid (show tkKs (n * 2) B = (tkKs (n * 2 - (j + 1)) D').map (fun p => ((xs ++ [x]) ++ p.1, p.2)) from by
          rw [HE.out, show n * 2 - j = (n * 2 - (j + 1)) + 1 by omega, tkKs_succ, e]
          simp only
          cases tkKs (n * 2 - (j + 1)) D' with
          | none => rfl
          | some q => simp)
        have m1 : (8 : Int) ≤ (D.length : Int) := by omega
        have m2 : (8 : Int) ≤ (cap1 : Int) := by omega
        have m3 : 8 ≤ cap1 := by omega
        have HL := hid (show xs.length + 1 ≤ 17592186044416 by omega)
        have HLx := hid hl
        clear hro1 e HE hR hU hD' hVx hK8 hcc1 hl
        generalize D.length = ND at *
        go_upto_region 10 with (first | (go_at_call 50; refine HK.out.mono ?_; rintro e w3 ⟨X, rfl, hX, u3⟩; have U3 := hid u3; have hX2 : X = x := hX (by omega); subst hX2; clear u3 hX))
        generalize hw4 : w3.alloc (.cells #[.int .i64 2, .int .i64 0, .float .f64 X, .slice none 0 0, .bool false] 84) = w4 at *
        generalize hbx : w3.heap.size = bx at *
        have c2 : w4.cell? ⟨bx, 2, none⟩ = some (.float .f64 X) := by rw [← hw4, ← hbx]; simp
        have V4 := hid (show Old wr w4 from by rw [← hw4]; exact U3.out.alloc _)
        have O4 := hid (HO.out.up V4.out)
        have U4 := hid (HU.out.trans V4.out)
        clear hw4 hbx U3 V4 HO HU HK
        go_wp2_with (first | (at_builtin; refine wp_appF rfl (.tmp 49) (.tmp 52) rfl w.heap.size _ xs _ 1 X rfl rfl (OwnF.up O4.out ((Old.refl _).alloc _)) (cell_one _ _ _ (by simp)) (by have := HL.out; omega) (by have := U4.out.size; simp; omega) ?_; intro v8 w8 o8 u8; have O8 := hid o8; have V8 := hid (below_up' U4.out ((Old.refl _).alloc _) u8); clear o8 u8))
        go_roundw
        case rel => exact ⟨j + 1, D', xs ++ [X], _, _, rfl, rfl, hlt, by go_num, O8.out, HR2.out, by rw [List.length_append, HLx.out]; rfl, HNx.out, V8.out⟩
        case measure => simp [intOf]; omega
    · have hjn : n * 2 = j := by omega
      have hE2 := HE.out
      rw [show n * 2 - j = 0 by omega] at hE2
      have HNo := hid (show tkKs (n * 2) B = some (xs, D) from by rw [hE2]; simp [tkKs])
      have lj : ¬ ((j : Int) < (n : Int) * 2) := by omega
      have HR := hid (hR.up hU)
      clear hE2 hR hU HE hjn
      go_wp2
      refine bodyPost_ret (v := .tuple #[uo, ub, .bool true]) (by simp [results, Tryz.results27, go_sem]) rfl (HP.out _ _ _ _ _ HO.out HR.out HU.out HNo.out)
theorem take2_any (v : Value) (L : List Nat) (hL : LB L) (most : Nat) (hmo : most ≤ 16) (w : World) (hB : Pk.ByRow w v L.length (Pk.gd L)) :
    Calls Tryz.prog 27 #[v, .int .i64 (most : Int), .int .i64 2] w fun e w' => TakePost w.heap.size (tkR most 2 L) w e w' := by
  unfold tkR
  cases e : tkC most L with
  | none => exact take2_no v L most hmo w hB e
  | some p =>
    obtain ⟨n, B⟩ := p
    simp only [Nat.mul_one]
    exact take2_some v L hL most n B hmo w hB e
end Go.Proofs.YtbkklemhhdejpaaGreat
namespace Go.Proofs.YtbkklemhhdejpaaGreat
open Go.RowKit Go.Lib
set_option linter.unusedVariables false
set_option linter.unusedSimpArgs false
set_option maxRecDepth 20000
theorem step_lift1 {ops : Array Oper} {o : Oper} {a : Act} {w : World} {K : Act → World → Prop} {Q : Exit → Act → World → Prop} {E : Prop} (hgd : o.guard = none)
    (h2 : wpList Tryz.prog ops (fun e a' w' => e = .normal ∧ K a' w') [o] a w) : if Region.wanted o (yielded ops a.tmps) = true then Oper.wp Tryz.prog o a w K Q else E := by
  have hw : Region.wanted o (yielded ops a.tmps) = true := by simp [Region.wanted, hgd]
  rw [if_pos hw]
  unfold wpList at h2
  rw [if_pos hw] at h2
  rcases h2 with h2 | ⟨_, a', w', h3, _⟩
  · unfold Oper.wp at *
    generalize (execOp a.eval o).run Tryz.prog w = r at *
    cases r with
    | ok nx w' =>
      cases nx <;> simp only [Oper.upon] at h2 ⊢ <;>
        first
          | exact h2.2
          | exact h2
          | exact Calls.mono h2 (fun e w'' he => by
              cases e with
              | returned r => exact he.2
              | panicked c => exact absurd he.1 (by simp)
              | outgrown => obtain ⟨a', w', h3, _⟩ := he; exact absurd h3 (by simp))
          | exact Rows.mono h2 (fun _ _ he => he.2)
    | halt x w' => cases x <;> simp only [Oper.upon] at h2 ⊢ <;> first | exact h2 | exact absurd h2.1 (by simp)
  · exact absurd h3 (by simp)
theorem step_appS1 {ops : Array Oper} {o : Oper} {a : Act} {w : World} {K : Act → World → Prop} {Q : Exit → Act → World → Prop} {E : Prop} (hgd : o.guard = none) (s x : Operand)
    (ho : o.op = .call { callee := .builtin .append, args := #[s, x], argTypes := #[26, 26] }) (base : Nat) (v : Value) (L : List Sp) (g : Nat) (y : Sp)
    (hs : a.eval s = v) (hx : a.eval x = .slice (some ⟨g, 0, none⟩) 1 1) (hown : OwnS base w v L) (hc : SpIn w g 0 y) (hb : L.length + 1 ≤ 5864062014805) (hbase : base ≤ w.heap.size)
    (h : ∀ v' w', OwnS base w' v' (L ++ [y]) → w.grownBy w' v.ownBlock → K (a.put o.dst v') w') :
    if Region.wanted o (yielded ops a.tmps) = true then Oper.wp Tryz.prog o a w K Q else E := by
  refine step_lift1 hgd ?_
  obtain ⟨i0, hi, hz0, hz1, hz2⟩ := info_parts infoSpanZ
  refine wpList_append_own w hgd s x 26 ho base 31 i0 _ 4 24 Tryz.underlying26 hi hz0 hz1 hz2 rfl (by decide) v L.length (spcs L) hs hown ⟨g, 0, none⟩ 1 1 (spcs [y]) hx rfl ?_ (spcs_one _) (by unfold maxLen; omega) (by omega) hbase ?_
  · intro j u hj
    rw [Go.WideShapes.add_plain, Nat.zero_add]
    have e : spcs [y] = [.float .f64 y.a, .float .f64 y.b, .bool y.p, .bool y.q] := rfl
    rw [e] at hj
    match j, hj with
    | 0, hj => cases hj; exact hc.1
    | 1, hj => cases hj; exact hc.2.1
    | 2, hj => cases hj; exact hc.2.2.1
    | 3, hj => cases hj; exact hc.2.2.2
    | j + 4, hj => simp at hj
  · intro v' w' h1 h2 h3
    exact ⟨rfl, h v' w' (by unfold OwnS; rw [spcs_app] at h1; simpa using h1) h2⟩
theorem stepBuild1S {ops : Array Oper} {o : Oper} {a : Act} {w : World} {K : Act → World → Prop} {Q : Exit → Act → World → Prop} {E : Prop} (hg : o.guard = none) (x : Operand) (hop : o.op = Op.buildSlice 26 1 #[(0, x)]) (p : Sp)
    (hx : a.eval x = .agg #[.float .f64 p.a, .float .f64 p.b, .bool p.p, .bool p.q])
    (hK : ∀ m w', m = w.heap.size → w' = w.alloc (.cells #[.float .f64 p.a, .float .f64 p.b, .bool p.p, .bool p.q] 31) → K (a.put o.dst (.slice (some ⟨m, 0, none⟩) 1 1)) w') :
    if Region.wanted o (yielded ops a.tmps) = true then Oper.wp Tryz.prog o a w K Q else E := by
  have hw : Region.wanted o (yielded ops a.tmps) = true := by simp [Region.wanted, hg]
  rw [if_pos hw]
  obtain ⟨d, p', t, ps, af, gd⟩ := o
  subst hop
  unfold Oper.wp execOp
  simp only [List.map_toArray, List.map_cons, List.map_nil, hx]
  go_simp
  exact hK _ _ rfl rfl
def ils (L : List Int) : List Value := L.map fun b => .int .i64 b
theorem ils_app (L M : List Int) : ils L ++ ils M = ils (L ++ M) := by simp [ils]
theorem infoI64 : (Tryz.prog.info? 2).map (fun i => (i.zero, i.size, i.bytes)) = some (some (.int .i64 0), 1, 8) := by kernel_rfl
/-- The slice value v owns int64 among the call's own blocks. -/
def OwnN (base : Nat) (w : World) (v : Value) (L : List Int) : Prop := w.ownsRow base 2 1 v L.length (ils L)
theorem OwnN.empty {base g : Nat} {w : World} (hb : base ≤ w.heap.size) (hg : w.heap.size = g) : OwnN base (w.alloc (.cells #[] 2)) (.slice (some ⟨g, 0, none⟩) 0 0) [] := by
  subst hg
  exact World.ownsRow_made w #[] 0 hb (by unfold maxLen; omega) rfl
theorem OwnN.up {base : Nat} {w w' : World} {v : Value} {L : List Int} (h : OwnN base w v L) (u : Old w w') : OwnN base w' v L := by
  refine ⟨h.1, ?_⟩
  rcases h.2 with e | ⟨g, cap, cur, e, hb', hg, r⟩
  · exact .inl e
  · exact .inr ⟨g, cap, cur, e, hb', by rw [u.block g (lt_of_block hg)]; exact hg, r⟩
theorem OwnN.shape {base : Nat} {w : World} {v : Value} {L : List Int} (h : OwnN base w v L) (hn : 0 < L.length) :
    ∃ g cap, v = .slice (some ⟨g, 0, none⟩) L.length cap ∧ base ≤ g ∧ g < w.heap.size ∧ ∀ i (hi : i < L.length), w.cell? ⟨g, i, none⟩ = some (.int .i64 L[i]) := by
  have h2 := h
  unfold OwnN at h2
  rcases h2.2 with ⟨_, e⟩ | ⟨g, cap, cur, rfl, hb, hg, hnc, hcm, hcs, htk⟩
  · omega
  · refine ⟨g, cap, rfl, hb, lt_of_block hg, fun i hi => ?_⟩
    rw [h2.cellAt i (by omega)]
    simp [ils, hi]
theorem wp_appN {ops : Array Oper} {rest : List Oper} {o : Oper} {a : Act} {Q : Exit → Act → World → Prop} {w : World} (hgd : o.guard = none) (s x : Operand)
    (ho : o.op = .call { callee := .builtin .append, args := #[s, x], argTypes := #[55, 55] }) (base : Nat) (v : Value) (L : List Int) (g c1 : Nat) (y : Int)
    (hs : a.eval s = v) (hx : a.eval x = .slice (some ⟨g, 0, none⟩) 1 c1) (hown : OwnN base w v L) (hc : w.cell? ⟨g, 0, none⟩ = some (.int .i64 y)) (hb : L.length + 1 ≤ 1000) (hbase : base ≤ w.heap.size)
    (h : ∀ v' w', OwnN base w' v' (L ++ [y]) → w.grownBy w' v.ownBlock → wpList Tryz.prog ops Q rest (a.put o.dst v') w') : wpList Tryz.prog ops Q (o :: rest) a w := by
  obtain ⟨i0, hi, hz0, hz1, hz2⟩ := info_parts infoI64
  refine wpList_append_own w hgd s x 55 ho base 2 i0 _ 1 8 Tryz.underlying55 hi hz0 hz1 hz2 rfl (by decide) v L.length (ils L) hs hown ⟨g, 0, none⟩ 1 c1 (ils [y]) hx rfl ?_ ?_ (by unfold maxLen; omega) (by omega) hbase ?_
  · intro j u hj
    match j with
    | 0 => simp [ils] at hj; subst hj; rw [Go.WideShapes.add_plain]; exact hc
    | j + 1 => simp [ils] at hj
  · intro u hu; simp [ils] at hu; subst hu; rfl
  · intro v' w' h1 h2 h3
    exact h v' w' (by unfold OwnN; rw [ils_app] at h1; simpa using h1) h2
theorem cell_oneN (w : World) (y : Int) (g : Nat) (hg : w.heap.size = g) : (w.alloc (.cells #[.int .i64 y] 2)).cell? ⟨g, 0, none⟩ = some (.int .i64 y) := by subst hg; simp
theorem BX.grown {W W' : World} {m : Nat} {s1 s2 s3 : Int} {v1 v2 v3 : Value} {row : Option Nat} (h : BX W m s1 s2 s3 v1 v2 v3) (g : W.grownBy W' row) (hn : some m ≠ row) : BX W' m s1 s2 s3 v1 v2 v3 := by
  have hz : m < W.heap.size := World.block_lt_of_cell? W _ h.1.1
  exact ⟨h.1.grown g hn, fun j hj => by rw [g.frozen_far ⟨m, j, none⟩ hz hn]; exact h.2 j hj⟩
theorem BX.other {W : World} {m k o : Nat} {s1 s2 s3 : Int} {v1 v2 v3 : Value} (h : BX W m s1 s2 s3 v1 v2 v3) (hk : k ≠ m) (u : Value) : BX (W.setCell ⟨k, o, none⟩ u) m s1 s2 s3 v1 v2 v3 :=
  ⟨h.1.otherB hk u, fun j hj => by simp [h.2 j hj]⟩
/-- The box of the answer, and that of the submission under way. -/
structure DBx (w : World) (rb sb : Nat) (s1 s2 s3 : Int) (v1 v2 v3 : Value) (W : World) : Prop where
  hr : BX W rb 0 0 0 (.slice none 0 0) (.slice none 0 0) (.slice none 0 0)
  hs : BX W sb s1 s2 s3 v1 v2 v3
  u : Old w W
  le : w.heap.size ≤ rb
  lt : rb < sb
  z : sb < W.heap.size
theorem DBx.old {w W W' : World} {rb sb : Nat} {s1 s2 s3 : Int} {v1 v2 v3 : Value} (h : DBx w rb sb s1 s2 s3 v1 v2 v3 W) (u : Old W W') : DBx w rb sb s1 s2 s3 v1 v2 v3 W' :=
  ⟨h.hr.chg (S := []) (Pk.Chg.old u) (by simp), h.hs.chg (S := []) (Pk.Chg.old u) (by simp), h.u.trans u, h.le, h.lt, Nat.lt_of_lt_of_le h.z u.size⟩
theorem DBx.grown {w W W' : World} {rb sb : Nat} {s1 s2 s3 : Int} {v1 v2 v3 : Value} {row : Option Nat} (h : DBx w rb sb s1 s2 s3 v1 v2 v3 W) (g : W.grownBy W' row) (hr : ∀ k, row = some k → sb < k) : DBx w rb sb s1 s2 s3 v1 v2 v3 W' := by
  have n1 : some rb ≠ row := fun e => by have := hr rb e.symm; have := h.lt; omega
  have n2 : some sb ≠ row := fun e => by have := hr sb e.symm; omega
  exact ⟨h.hr.grown g n1, h.hs.grown g n2, Below.grown h.u g (by have := h.le; have := h.lt; have := h.z; omega) (fun k e => by have := hr k e; have := h.le; have := h.lt; omega), h.le, h.lt, Nat.lt_of_lt_of_le h.z g.size⟩
theorem DBx.set {w W : World} {rb sb : Nat} {s1 s2 s3 : Int} {v1 v2 v3 : Value} (h : DBx w rb sb s1 s2 s3 v1 v2 v3 W) (x : Value) : DBx w rb sb s1 s2 s3 x v2 v3 (W.setCell ⟨sb, 3, none⟩ x) ∧ DBx w rb sb s1 s2 s3 v1 x v3 (W.setCell ⟨sb, 4, none⟩ x) ∧ DBx w rb sb s1 s2 s3 v1 v2 x (W.setCell ⟨sb, 5, none⟩ x) := by
  have hn : sb ≠ rb := by have := h.lt; omega
  have U : ∀ o, Old w (W.setCell ⟨sb, o, none⟩ x) := fun o => h.u.setCell (by show w.heap.size ≤ sb; have := h.le; have := h.lt; omega) x
  have Z : ∀ o, sb < (W.setCell ⟨sb, o, none⟩ x).heap.size := fun o => by simpa using h.z
  exact ⟨⟨h.hr.other hn x, (h.hs.setV x).1, U 3, h.le, h.lt, Z 3⟩, ⟨h.hr.other hn x, (h.hs.setV x).2.1, U 4, h.le, h.lt, Z 4⟩, ⟨h.hr.other hn x, (h.hs.setV x).2.2, U 5, h.le, h.lt, Z 5⟩⟩
theorem DBx.set012 {w W : World} {rb sb : Nat} {r1 r2 r3 : Int} {v1 v2 v3 : Value} (h : DBx w rb sb r1 r2 r3 v1 v2 v3 W) (s1 s2 s3 : Int) : DBx w rb sb s1 s2 s3 v1 v2 v3 (((W.setCell ⟨sb, 0, none⟩ (.int .i64 s1)).setCell ⟨sb, 1, none⟩ (.int .i64 s2)).setCell ⟨sb, 2, none⟩ (.int .i64 s3)) := by
  have hn : sb ≠ rb := by have := h.lt; omega
  have hl : w.heap.size ≤ sb := by have := h.le; have := h.lt; omega
  exact ⟨((h.hr.other hn _).other hn _).other hn _, h.hs.set012 s1 s2 s3, ((h.u.setCell (p := ⟨sb, 0, none⟩) hl _).setCell (p := ⟨sb, 1, none⟩) hl _).setCell (p := ⟨sb, 2, none⟩) hl _, h.le, h.lt, by simpa using h.z⟩
theorem DBx.th {w W : World} {rb sb : Nat} {s1 s2 s3 : Int} {v1 v2 v3 : Value} (h : DBx w rb sb s1 s2 s3 v1 v2 v3 W) : (∃ z, W.cell? ⟨sb, 4, none⟩ = some z) ∧ W.frozen? ⟨sb, 4, none⟩ = false := ⟨⟨_, h.hs.1.2.2.2.2.1⟩, h.hs.2 4 (by omega)⟩
theorem own_far {base : Nat} {t : TypeId} {c n : Nat} {W : World} {v u : Value} {vs : List Value} {a : Addr} (h : W.ownsRow base t c v n vs) (ha : a.block < base) : (W.setCell a u).ownsRow base t c v n vs := by
  refine ⟨h.1, ?_⟩
  rcases h.2 with e | ⟨g, cap, cur, e, hb', hg, r⟩
  · exact .inl e
  · exact .inr ⟨g, cap, cur, e, hb', by rw [Below.heap_setCell W a u g (fun q => by omega)]; exact hg, r⟩
theorem one_S {W y : World} {p : Sp} {m : Nat} (hm : m = W.heap.size) (hy : y = W.alloc (.cells #[.float .f64 p.a, .float .f64 p.b, .bool p.p, .bool p.q] 31)) : SpIn y m 0 p := by
  subst hm hy; simp [SpIn]
theorem alloc_old {W y : World} {o : Obj} (hy : y = W.alloc o) : Old W y := by
  rw [hy]; exact (Old.refl W).alloc o
def tkNs : Nat → List Nat → Option (List Int × List Nat)
  | 0, L => some ([], L)
  | n + 1, L => match tkN L with | none => none | some (x, B) => match tkNs n B with | none => none | some (xs, C) => some (x :: xs, C)
theorem tkNs_succ (n : Nat) (L : List Nat) : tkNs (n + 1) L = match tkN L with | none => none | some (x, B) => match tkNs n B with | none => none | some (xs, C) => some (x :: xs, C) := rfl
def tkTail (zs : List Int) (C : List Nat) : Option (Raw × List Nat) := match tkR 16 1 C with
  | none => none
  | some (xs, D) => match tkR 8 2 D with
    | none => none
    | some (ys, E) => match tkR 16 1 E with
      | none => none
      | some (qs, F) => some (⟨zs.getD 0 0, zs.getD 1 0, zs.getD 2 0, xs, ys, qs⟩, F)
theorem tkSub_start (L : List Nat) : tkSub L = (tkNs 3 L).bind fun p => tkTail ([] ++ p.1) p.2 := by
  unfold tkSub
  rw [tkNs_succ]
  cases tkN L with
  | none => rfl
  | some p1 =>
  obtain ⟨s1, A⟩ := p1
  simp only
  rw [tkNs_succ]
  cases tkN A with
  | none => rfl
  | some p2 =>
  obtain ⟨s2, B⟩ := p2
  simp only
  rw [tkNs_succ]
  cases tkN B with
  | none => rfl
  | some p3 =>
  obtain ⟨s3, C⟩ := p3
  rfl
theorem no_raw {L : List Nat} (h : ∀ r : Raw, tkSub L = some (r, []) → r.chk ≠ 0) : ∀ r : Raw, r.Ok → r.chk = 0 → L ≠ r.enc [] := fun r hr hc e => by
  have q := tkSub_at r hr []
  rw [← e] at q
  exact h r q hc
theorem tkN_cut {L B : List Nat} {z : Int} (h : tkN L = some (z, B)) : Pk.lnK (Pk.gd L) L.length ≠ 0 ∧ Pk.lnK (Pk.gd L) L.length ≤ L.length ∧ Pk.lnV (Pk.gd L) L.length = z ∧ B = L.drop (Pk.lnK (Pk.gd L) L.length) := by
  unfold tkN at h
  split at h
  · cases h
  · rename_i k
    cases h
    exact ⟨k, Pk.ln_le _ _ 11 0, rfl, rfl⟩
end Go.Proofs.YtbkklemhhdejpaaGreat
namespace Go.Proofs.YtbkklemhhdejpaaGreat
open Go.RowKit Go.Lib
set_option linter.unusedVariables false
set_option linter.unusedSimpArgs false
set_option maxRecDepth 20000
/-- What the document's Decode answers. -/
def RDec (L : List Nat) (w : World) (e : Ending) (w' : World) : Prop := Old w w' ∧ (((∀ r : Raw, r.Ok → r.chk = 0 → L ≠ r.enc []) ∧ e = .returned (.tuple #[.agg #[.int .i64 0, .int .i64 0, .int .i64 0, .slice none 0 0, .slice none 0 0, .slice none 0 0], .bool false])) ∨ ∃ (r : Raw) (p1 p2 p3 : Option Addr) (q1 q2 q3 : Nat), (r.Ok ∧ r.chk = 0 ∧ L = r.enc []) ∧ e = .returned (.tuple #[.agg #[.int .i64 r.s1, .int .i64 r.s2, .int .i64 r.s3, .slice p1 r.xs.length q1, .slice p2 (prs r.ys).length q2, .slice p3 r.zs.length q3], .bool true]) ∧ FRow w' (.slice p1 r.xs.length q1) r.xs.length (atN r.xs) ∧ SRow w' (.slice p2 (prs r.ys).length q2) (prs r.ys).length (atS (prs r.ys)) ∧ FRow w' (.slice p3 r.zs.length q3) r.zs.length (atN r.zs))
theorem OwnF.frow {base : Nat} {w : World} {v : Value} {L : List Nat} (h : OwnF base w v L) (hW : ∀ x ∈ L, Fl.W x) (hn : L.length ≤ 1000000) : FRow w v L.length (atN L) := by
  have q := h.fown
  rw [← rl_atN L] at q
  exact q.row' (fun i hi => hW _ (atN_mem _ i hi)) hn
theorem prs_get : ∀ (n : Nat) (y : List Nat), y.length = n * 2 → ∀ j, j < n → (prs y)[j]? = some ⟨atN y (2 * j), atN y (2 * j + 1), false, false⟩
  | 0, _, _, j, hj => by omega
  | n + 1, [], h, _, _ => by simp at h
  | n + 1, [_], h, _, _ => by simp at h; omega
  | n + 1, a :: b :: t, h, j, hj => by
    show (⟨a, b, false, false⟩ :: prs t : List Sp)[j]? = _
    cases j with
    | zero => rfl
    | succ j =>
      rw [List.getElem?_cons_succ, prs_get n t (by simp at h; omega) j (by omega)]
      simp [atN, show 2 * (j + 1) = 2 * j + 1 + 1 from by omega]
theorem prs_step (n : Nat) (y : List Nat) (h : y.length = n * 2) (j t : Nat) (hj : j < n) (ht : t = 2 * j) : (prs y).take j ++ [⟨atN y t, atN y (t + 1), false, false⟩] = (prs y).take (j + 1) := by
  subst ht
  rw [List.take_add_one, prs_get n y h j hj]
  rfl
theorem own_cellN {base : Nat} {w : World} {a : Option Addr} {c : Nat} {L : List Nat} (h : OwnF base w (.slice a L.length c) L) (i : Nat) (hi : i < L.length) : ∃ g, a = some ⟨g, 0, none⟩ ∧ base ≤ g ∧ g < w.heap.size ∧ ∀ k, k < L.length → w.cell? ⟨g, k, none⟩ = some (.float .f64 (atN L k)) := by
  obtain ⟨g, cap, e, hb, hz, hc⟩ := h.shape (by omega)
  cases e
  exact ⟨g, rfl, hb, hz, fun k hk => by rw [hc k hk, atN_get _ k hk]⟩
attribute [local go_sem] run_bits run_frombits run_store_float eqF
set_option maxHeartbeats 8000000 in
set_option maxRecDepth 20000 in
theorem refDecode_any (v : Value) (L : List Nat) (hL : LB L) (w : World) (hB : Pk.ByRow w v L.length (Pk.gd L)) :
    Calls Tryz.prog 12 #[v] w fun e w' => RDec L w e w' := by
  have HPn : Hid (∀ W, Old w W → (∀ r : Raw, tkSub L = some (r, []) → r.chk ≠ 0) → RDec L w (.returned (.tuple #[.agg #[.int .i64 0, .int .i64 0, .int .i64 0, .slice none 0 0, .slice none 0 0, .slice none 0 0], .bool false])) W) := fun W u h => ⟨u, .inl ⟨no_raw h, rfl⟩⟩
  have HPy : Hid (∀ (W : World) (r : Raw) (p1 p2 p3 : Option Addr) (q1 q2 q3 : Nat), Old w W → tkSub L = some (r, []) → r.chk = 0 → FRow W (.slice p1 r.xs.length q1) r.xs.length (atN r.xs) → SRow W (.slice p2 (prs r.ys).length q2) (prs r.ys).length (atS (prs r.ys)) → FRow W (.slice p3 r.zs.length q3) r.zs.length (atN r.zs) → RDec L w (.returned (.tuple #[.agg #[.int .i64 r.s1, .int .i64 r.s2, .int .i64 r.s3, .slice p1 r.xs.length q1, .slice p2 (prs r.ys).length q2, .slice p3 r.zs.length q3], .bool true])) W) := fun W r p1 p2 p3 q1 q2 q3 u h hc h1 h2 h3 => ⟨u, .inr ⟨r, p1, p2, p3, q1, q2, q3, ⟨(tkSub_some hL h).2.1, hc, (tkSub_some hL h).1⟩, rfl, h1, h2, h3⟩⟩
  have HB := hid hB
  have HL := hid hL
  clear hB hL
  go_enter Tryz.func12, Tryz.ntmps12
  go_upto_region 1 with fail
  generalize hw1 : w.alloc (.cells #[.int .i64 0, .int .i64 0, .int .i64 0, .slice none 0 0, .slice none 0 0, .slice none 0 0] 28) = w1 at *
  generalize hrb : w.heap.size = rb at *
  have HB1 := hid (BX.new w w1 hw1 rb hrb)
  have HRB := hid hrb
  clear hw1 hrb
  go_upto_region 2 with fail
  generalize hw2 : w1.alloc (.cells #[.int .i64 0, .int .i64 0, .int .i64 0, .slice none 0 0, .slice none 0 0, .slice none 0 0] 28) = w2 at *
  generalize hsb : w1.heap.size = sb at *
  obtain ⟨hb2, hu2, hz2⟩ := BX.new w1 w2 hw2 sb hsb
  obtain ⟨hb1, hu1, hz1⟩ := HB1.out
  have HD := hid (show DBx w rb sb 0 0 0 (.slice none 0 0) (.slice none 0 0) (.slice none 0 0) w2 from ⟨hb1.chg (S := []) (Pk.Chg.old hu2) (by simp), hb2, hu1.trans hu2, by have := HRB.out; omega, by omega, by omega⟩)
  have HZ2 := hid (show w2.heap.size = sb + 1 by omega)
  clear hw2 hsb hb2 hu2 hz2 hb1 hu1 hz1 HB1 HRB
  go_wp2
  go_loopw [0, 5, 6] (fun vb vn i wr => ∃ (j : Nat) (D : List Nat) (zs : List Int) (ub un : Value), ub = vb ∧ un = vn ∧ j ≤ 3 ∧ i = .int .i64 (j : Nat) ∧ OwnN (sb + 1) wr un zs ∧ Pk.ByRow w ub D.length (Pk.gd D) ∧ LB D ∧ zs.length = j ∧ tkSub L = ((tkNs (3 - j) D).bind fun p => tkTail (zs ++ p.1) p.2) ∧ DBx w rb sb 0 0 0 (.slice none 0 0) (.slice none 0 0) (.slice none 0 0) wr) (fun _ _ i _ => 3 - (intOf i).toNat)
  case atStart => exact ⟨0, L, [], _, _, rfl, rfl, Nat.zero_le _, rfl, OwnN.empty (by have := HZ2.out; omega) rfl, HB.out, HL.out, rfl, tkSub_start L, HD.out.old ((Old.refl _).alloc _)⟩
  case round =>
    obtain ⟨j, D, zs, ub, un, rfl, rfl, hj, rfl, hO, hR, hLD, hl, hE, hT⟩ := hrel
    have HO := hid hO
    have HT := hid hT
    have HE := hid hE
    have HLD := hid hLD
    clear hO hE hLD HD HB HL
    by_cases hlt : j < 3
    · have lj : (j : Int) < 3 := by omega
      have lj0 : (0 : Int) ≤ (j : Int) := by omega
      cases e : tkN D with
      | none =>
        have HK := hid (Pk.refGetNum_any ub _ _ wr (hR.up hT.u))
        have hz : Pk.lnK (Pk.gd D) D.length = 0 := by
          unfold tkN at e
          split at e
          · assumption
          · cases e
        rw [hz] at HK
        have HNo := hid (show tkSub L = none from by rw [HE.out, show 3 - j = (3 - j - 1) + 1 by omega, tkNs_succ, e]; rfl)
        clear hz e HE hR hT
        generalize Pk.lnV (Pk.gd D) D.length = V at *
        go_upto_region 8 with (first | (go_at_call 26; refine HK.out.mono ?_; rintro e w3 ⟨rfl, hw⟩; have hw2 := hw.symm; subst hw2))
        obtain ⟨⟨t0, t1, t2, t3, t4, t5⟩, tf⟩ := HT.out.hr
        have e0 := tf 0 (by omega)
        have e1 := tf 1 (by omega)
        have e2 := tf 2 (by omega)
        have e3 := tf 3 (by omega)
        have e4 := tf 4 (by omega)
        have e5 := tf 5 (by omega)
        clear tf
        go_wp2
        have cF := put_chg wr rb (.int .i64 0) (.int .i64 0) (.int .i64 0) (.slice none 0 0) (.slice none 0 0) (.slice none 0 0)
        refine bodyPost_ret (v := .tuple #[.agg #[.int .i64 0, .int .i64 0, .int .i64 0, .slice none 0 0, .slice none 0 0, .slice none 0 0], .bool false]) (by simp [results, Tryz.results12, go_sem, *]) rfl (HPn.out _ (Pk.Chg.toOld HT.out.u cF (by simp; exact HT.out.le)) (fun r h => by rw [HNo.out] at h; cases h))
      | some p =>
        obtain ⟨x, D'⟩ := p
        obtain ⟨hk0, hkl, hVx, hD'⟩ := tkN_cut e
        obtain ⟨b1, off1, cap1, rfl, hcc1, hnc1, hmx1⟩ := hR.cells (by omega)
        unfold maxLen at hmx1
        have HK := hid (Pk.refGetNum_any _ _ _ wr (hR.up hT.u))
        rw [hVx] at HK
        obtain ⟨o1, hif1, hro1⟩ : ∃ o1, (if cap1 = Pk.lnK (Pk.gd D) D.length then (some ⟨b1, off1, none⟩ : Option Addr) else some ⟨b1, off1 + Pk.lnK (Pk.gd D) D.length, none⟩) = some ⟨b1, o1, none⟩ ∧ Pk.ByRow w (.slice (some ⟨b1, o1, none⟩) (D.length - Pk.lnK (Pk.gd D) D.length) (cap1 - Pk.lnK (Pk.gd D) D.length)) D'.length (Pk.gd D') := by
          refine ⟨if cap1 = Pk.lnK (Pk.gd D) D.length then off1 else off1 + Pk.lnK (Pk.gd D) D.length, by split <;> rfl, ?_⟩
          rw [hD']
          exact cut_row hR hkl _ rfl
        have HR2 := hid hro1
        have HNx := hid (show tkSub L = ((tkNs (3 - (j + 1)) D').bind fun p => tkTail ((zs ++ [x]) ++ p.1) p.2) from by
          rw [HE.out, show 3 - j = (3 - (j + 1)) + 1 by omega, tkNs_succ, e]
          simp only
          cases tkNs (3 - (j + 1)) D' with
          | none => rfl
          | some q => simp)
        have HLD2 := hid (tkN_some HLD.out e).2.2
        have HLx := hid hl
        have HL3 := hid (show zs.length + 1 ≤ 1000 by omega)
        clear hro1 e HE hR hT hD' hVx hcc1 hl HLD
        generalize Pk.lnK (Pk.gd D) D.length = K at *
        generalize D.length = ND at *
        have tk : ((K : Int) == 0) = false := by rw [beq_eq_false_iff_ne]; omega
        have m0 : (0 : Int) ≤ (K : Int) := by omega
        have m1 : (K : Int) ≤ (ND : Int) := by omega
        have m2 : (K : Int) ≤ (cap1 : Int) := by omega
        have HSZ := hid (show sb + 1 ≤ wr.heap.size from HT.out.z)
        go_wp2_with (first | (go_at_call 26; refine HK.out.mono ?_; rintro e w3 ⟨rfl, hw⟩; have hw2 := hw.symm; subst hw2) | (at_builtin; refine wp_appN rfl (.tmp 33) (.tmp 35) rfl (sb + 1) _ zs _ 1 x rfl rfl (OwnN.up HO.out ((Old.refl _).alloc _)) (cell_oneN _ _ _ (by simp)) (by have := HL3.out; omega) (by have := HSZ.out; simp; omega) ?_; intro v8 w8 o8 g8; have O8 := hid o8; have T8 := hid ((HT.out.old ((Old.refl _).alloc _)).grown g8 (fun k e => by have := (World.ownsRow.lt HO.out k e).1; omega)); clear o8 g8))
        go_roundw
        case rel => exact ⟨j + 1, D', zs ++ [x], _, _, rfl, rfl, hlt, by go_num, O8.out, HR2.out, HLD2.out, by rw [List.length_append, HLx.out]; rfl, HNx.out, T8.out⟩
        case measure => simp [intOf]; omega
    · have hj3 : j = 3 := by omega
      subst hj3
      match zs, hl with
      | [s1, s2, s3], _ =>
      have HC := hid (show tkSub L = tkTail [s1, s2, s3] D from HE.out)
      obtain ⟨g, gc, eg, hgb, hgz, hgc⟩ := OwnN.shape HO.out (by simp)
      subst eg
      have g0 : wr.cell? ⟨g, 0, none⟩ = some (.int .i64 s1) := hgc 0 (by simp)
      have g1 : wr.cell? ⟨g, 1, none⟩ = some (.int .i64 s2) := hgc 1 (by simp)
      have g2 : wr.cell? ⟨g, 2, none⟩ = some (.int .i64 s3) := hgc 2 (by simp)
      have gn : g ≠ sb := by omega
      have HR := hid hR
      clear hgc hgb hgz HO HE hR hlt hT
      obtain ⟨⟨k0, k1, k2, k3, k4, k5⟩, kf⟩ := HT.out.hs
      have f0 := kf 0 (by omega)
      have f1 := kf 1 (by omega)
      have f2 := kf 2 (by omega)
      clear kf
      go_upto_region 14 with fail
      have HT4 := hid (HT.out.set012 s1 s2 s3)
      generalize hw4 : ((wr.setCell ⟨sb, 0, none⟩ (.int .i64 s1)).setCell ⟨sb, 1, none⟩ (.int .i64 s2)).setCell ⟨sb, 2, none⟩ (.int .i64 s3) = w4 at *
      clear hw4 HT g0 g1 g2 gn k0 k1 k2 k3 k4 k5 f0 f1 f2
      have K4 := hid (take1_any ub D HLD.out 16 (by omega) w4 (HR.out.up HT4.out.u))
      have HS4 := hid (fun (xs B : List Nat) (q : tkR 16 1 D = some (xs, B)) => tkR_some HLD.out q)
      unfold tkTail at HC
      cases e4 : tkR 16 1 D with
      | none =>
        rw [e4] at K4 HC
        go_upto_region 15 with (first | (go_at_call 27; refine K4.out.mono ?_; rintro e w5 ⟨u5, ⟨_, rfl⟩ | ⟨_, _, _, _, q, _⟩⟩; rotate_left; cases q; have HT5 := hid (HT4.out.old u5); clear u5))
        obtain ⟨⟨t0, t1, t2, t3, t4, t5⟩, tf⟩ := HT5.out.hr
        have e0 := tf 0 (by omega)
        have e1 := tf 1 (by omega)
        have e2 := tf 2 (by omega)
        have e3 := tf 3 (by omega)
        have e4 := tf 4 (by omega)
        have e5 := tf 5 (by omega)
        clear tf
        go_wp2
        have cF := put_chg w5 rb (.int .i64 0) (.int .i64 0) (.int .i64 0) (.slice none 0 0) (.slice none 0 0) (.slice none 0 0)
        refine bodyPost_ret (v := .tuple #[.agg #[.int .i64 0, .int .i64 0, .int .i64 0, .slice none 0 0, .slice none 0 0, .slice none 0 0], .bool false]) (by simp [results, Tryz.results12, go_sem, *]) rfl (HPn.out _ (Pk.Chg.toOld HT5.out.u cF (by simp; exact HT5.out.le)) (fun r h => by rw [HC.out] at h; cases h))
      | some p4 =>
      obtain ⟨xs, D4⟩ := p4
      rw [e4] at K4 HC
      simp only at HC
      obtain ⟨m1, b4, l4, _, x4, c4⟩ := HS4.out _ _ e4
      have HX4 := hid (And.intro b4 (And.intro l4 x4))
      have HL4 := hid c4
      clear b4 l4 x4 c4 HS4 e4 HLD HR
      go_upto_region 17 with (first | (go_at_call 27; refine K4.out.mono ?_; rintro e w5 ⟨u5, ⟨q, _⟩ | ⟨xs', D', V1, vb5, q, rfl, o5, r5⟩⟩; cases q; cases q; have HT5 := hid (HT4.out.old u5); have O1 := hid (show OwnF (sb + 1) w5 V1 xs from o5.mono (by have := HT4.out.z; omega)); have R5 := hid r5; clear u5 o5 r5))
      clear K4 HT4
      have K5 := hid (take2_any vb5 D4 HL4.out 8 (by omega) w5 R5.out)
      have HS5 := hid (fun (xs B : List Nat) (q : tkR 8 2 D4 = some (xs, B)) => tkR_some HL4.out q)
      cases e5 : tkR 8 2 D4 with
      | none =>
        rw [e5] at K5 HC
        go_upto_region 18 with (first | (go_at_call 27; refine K5.out.mono ?_; rintro e w6 ⟨u6, ⟨_, rfl⟩ | ⟨_, _, _, _, q, _⟩⟩; rotate_left; cases q; have HT6 := hid (HT5.out.old u6); clear u6))
        obtain ⟨⟨t0, t1, t2, t3, t4, t5⟩, tf⟩ := HT6.out.hr
        have e0 := tf 0 (by omega)
        have e1 := tf 1 (by omega)
        have e2 := tf 2 (by omega)
        have e3 := tf 3 (by omega)
        have e4 := tf 4 (by omega)
        have e5 := tf 5 (by omega)
        clear tf
        go_wp2
        have cF := put_chg w6 rb (.int .i64 0) (.int .i64 0) (.int .i64 0) (.slice none 0 0) (.slice none 0 0) (.slice none 0 0)
        refine bodyPost_ret (v := .tuple #[.agg #[.int .i64 0, .int .i64 0, .int .i64 0, .slice none 0 0, .slice none 0 0, .slice none 0 0], .bool false]) (by simp [results, Tryz.results12, go_sem, *]) rfl (HPn.out _ (Pk.Chg.toOld HT6.out.u cF (by simp; exact HT6.out.le)) (fun r h => by rw [HC.out] at h; cases h))
      | some p5 =>
      obtain ⟨ys, D5⟩ := p5
      rw [e5] at K5 HC
      simp only at HC
      obtain ⟨m2, b5, l5, _, x5, c5⟩ := HS5.out _ _ e5
      have HX5 := hid (And.intro b5 (And.intro l5 x5))
      have HL5 := hid c5
      clear b5 l5 x5 c5 HS5 e5 R5
      go_upto_region 20 with (first | (go_at_call 27; refine K5.out.mono ?_; rintro e w6 ⟨u6, ⟨q, _⟩ | ⟨ys', D'', V2, vb6, q, rfl, o6, r6⟩⟩; cases q; cases q; have HT6 := hid (HT5.out.old u6); have O2 := hid (show OwnF (sb + 1) w6 V2 ys from o6.mono (by have := HT5.out.z; omega)); have O1b := hid (O1.out.up u6); have R6 := hid r6; clear u6 o6 r6))
      clear K5 HT5 O1
      have K6 := hid (take1_any vb6 D5 HL5.out 16 (by omega) w6 R6.out)
      have HS6 := hid (fun (xs B : List Nat) (q : tkR 16 1 D5 = some (xs, B)) => tkR_some HL5.out q)
      cases e6 : tkR 16 1 D5 with
      | none =>
        rw [e6] at K6 HC
        go_upto_region 21 with (first | (go_at_call 27; refine K6.out.mono ?_; rintro e w7 ⟨u7, ⟨_, rfl⟩ | ⟨_, _, _, _, q, _⟩⟩; rotate_left; cases q; have HT7 := hid (HT6.out.old u7); clear u7))
        obtain ⟨⟨t0, t1, t2, t3, t4, t5⟩, tf⟩ := HT7.out.hr
        have e0 := tf 0 (by omega)
        have e1 := tf 1 (by omega)
        have e2 := tf 2 (by omega)
        have e3 := tf 3 (by omega)
        have e4 := tf 4 (by omega)
        have e5 := tf 5 (by omega)
        clear tf
        go_wp2
        have cF := put_chg w7 rb (.int .i64 0) (.int .i64 0) (.int .i64 0) (.slice none 0 0) (.slice none 0 0) (.slice none 0 0)
        refine bodyPost_ret (v := .tuple #[.agg #[.int .i64 0, .int .i64 0, .int .i64 0, .slice none 0 0, .slice none 0 0, .slice none 0 0], .bool false]) (by simp [results, Tryz.results12, go_sem, *]) rfl (HPn.out _ (Pk.Chg.toOld HT7.out.u cF (by simp; exact HT7.out.le)) (fun r h => by rw [HC.out] at h; cases h))
      | some p6 =>
      obtain ⟨qs, D6⟩ := p6
      rw [e6] at K6 HC
      simp only at HC
      obtain ⟨m3, b6, l6, _, x6, c6⟩ := HS6.out _ _ e6
      have HX6 := hid (And.intro b6 (And.intro l6 x6))
      clear b6 l6 x6 c6 HS6 e6 R6
      go_upto_region 21 with (first | (go_at_call 27; refine K6.out.mono ?_; rintro e w7 ⟨u7, ⟨q, _⟩ | ⟨qs', D''', V3, vb7, q, rfl, o7, r7⟩⟩; cases q; cases q; have HT7 := hid (HT6.out.old u7); have O3 := hid (show OwnF (sb + 1) w7 V3 qs from o7.mono (by have := HT6.out.z; omega)); have O1c := hid (O1b.out.up u7); have O2b := hid (O2.out.up u7); have R7 := hid r7; clear u7 o7 r7))
      clear K6 HT6 O1b O2
      obtain ⟨ra, rc, er⟩ := Pk.ByRow.slice R7.out
      subst er
      clear R7
      by_cases hr0 : D6 = []
      · subst hr0
        obtain ⟨a1, c1, ev1⟩ := O1c.out.len
        subst ev1
        obtain ⟨a2, c2, ev2⟩ := O2b.out.len
        subst ev2
        obtain ⟨a3, c3, ev3⟩ := O3.out.len
        subst ev3
        have tl0 : decide ((([] : List Nat).length : Int) > 0) = false := by decide
        obtain ⟨⟨k0, k1, k2, k3, k4, k5⟩, kf⟩ := HT7.out.hs
        have f3 := kf 3 (by omega)
        have f5 := kf 5 (by omega)
        clear kf
        go_upto_region 25 with fail
        have HT8 := hid (((HT7.out.set (.slice a1 xs.length c1)).1.set (.slice a3 qs.length c3)).2.2)
        have O1d := hid (show OwnF (sb + 1) _ _ _ from own_far (u := .slice a3 qs.length c3) (a := ⟨sb, 5, none⟩) (own_far (u := .slice a1 xs.length c1) (a := ⟨sb, 3, none⟩) O1c.out (by show sb < sb + 1; omega)) (by show sb < sb + 1; omega))
        have O2c := hid (show OwnF (sb + 1) _ _ _ from own_far (u := .slice a3 qs.length c3) (a := ⟨sb, 5, none⟩) (own_far (u := .slice a1 xs.length c1) (a := ⟨sb, 3, none⟩) O2b.out (by show sb < sb + 1; omega)) (by show sb < sb + 1; omega))
        have O3b := hid (show OwnF (sb + 1) _ _ _ from own_far (u := .slice a3 qs.length c3) (a := ⟨sb, 5, none⟩) (own_far (u := .slice a1 xs.length c1) (a := ⟨sb, 3, none⟩) O3.out (by show sb < sb + 1; omega)) (by show sb < sb + 1; omega))
        generalize hw8 : (w7.setCell ⟨sb, 3, none⟩ (.slice a1 xs.length c1)).setCell ⟨sb, 5, none⟩ (.slice a3 qs.length c3) = w8 at *
        clear hw8 HT7 O1c O2b O3 k0 k1 k2 k3 k4 k5 f3 f5 tl0
        obtain ⟨B2, hB2⟩ : ∃ B2, B2 = w8.heap.size := ⟨_, rfl⟩
        have HLA := hid (show ∀ i, (Value.slice a1 xs.length c1).ownBlock = some i → i < B2 from fun i e => by rw [hB2]; exact (World.ownsRow.lt O1d.out i e).2)
        have HLC := hid (show ∀ i, (Value.slice a2 ys.length c2).ownBlock = some i → i < B2 from fun i e => by rw [hB2]; exact (World.ownsRow.lt O2c.out i e).2)
        have HLE := hid (show ∀ i, (Value.slice a3 qs.length c3).ownBlock = some i → i < B2 from fun i e => by rw [hB2]; exact (World.ownsRow.lt O3b.out i e).2)
        have HSB := hid (show sb < B2 by have := HT8.out.z; omega)
        have HY8 := hid (show B2 ≤ w8.heap.size by omega)
        have l5 := HX5.out.2.1
        have b5 := HX5.out.1
        have q2 := prs_len m2 ys l5
        have HPl := hid (show (prs ys).length ≤ 8 by omega)
        have HYl := hid (show ys.length = m2 * 2 from l5)
        have HStep := hid (fun (j t : Nat) (hj : j < m2) (ht : t = 2 * j) => prs_step m2 ys l5 j t hj ht)
        have HFull := hid (show (prs ys).take m2 = prs ys from by rw [← q2]; exact List.take_length)
        clear hB2 q2
        go_wp2
        go_loopw [18] (fun i wr => ∃ (j t : Nat) (v : Value), t = 2 * j ∧ j ≤ m2 ∧ i = .int .i64 (t : Nat) ∧ DBx w rb sb s1 s2 s3 (.slice a1 xs.length c1) v (.slice a3 qs.length c3) wr ∧ OwnS B2 wr v ((prs ys).take j) ∧ OwnF (sb + 1) wr (.slice a1 xs.length c1) xs ∧ OwnF (sb + 1) wr (.slice a2 ys.length c2) ys ∧ OwnF (sb + 1) wr (.slice a3 qs.length c3) qs ∧ B2 ≤ wr.heap.size) (fun i _ => 2 * m2 - (intOf i).toNat)
        case atStart => exact ⟨0, 0, (.slice none 0 0), rfl, Nat.zero_le _, rfl, HT8.out, OwnS.nil _ _, O1d.out, O2c.out, O3b.out, HY8.out⟩
        case round =>
          obtain ⟨j, t, v, htj, hj, rfl, hT, hO, hA, hC, hEE, hY⟩ := hrel
          have HT := hid hT
          have HO := hid hO
          have HA := hid hA
          have HC2 := hid hC
          have HE := hid hEE
          have HYr := hid hY
          have HTj := hid htj
          clear hT hO hA hC hEE hY HT8 O1d O2c O3b HY8
          obtain ⟨pv, cv, ev⟩ := HO.out.len
          subst ev
          by_cases hlt : j < m2
          · have HTl := hid (show t + 1 < ys.length by have := HYl.out; omega)
            have HSt := hid (HStep.out j t hlt htj)
            obtain ⟨ge, ea, _, _, _⟩ := own_cellN HC2.out t (by have := HTl.out; omega)
            subst ea
            have HCx := HC2
            have n1 : (0 : Int) ≤ (t : Int) := by omega
            have n2 : (t : Int) < (ys.length : Int) := by have := HTl.out; omega
            have n3 : (t : Int) + 1 < (ys.length : Int) := by have := HTl.out; omega
            have n4 : (ys.length : Int) ≤ 16 := by omega
            have n5 : (0 : Int) ≤ (t : Int) + 1 := by omega
            have wt : IntKind.i64.wrap ((t : Int) + 1) = (t : Int) + 1 := by simp [IntKind.wrap, IntKind.bits, IntKind.signed]; omega
            clear htj HStep HC l5
            have HC := HCx
            clear HCx HC2
            go_upto_region 28 with fail
            refine wp_region_noPanic ?_
            refine wp_region_held_drew (S := fun wz => wz.cell? ⟨ge, t, none⟩ = some (.float .f64 (atN ys t)) ∧ wz.cell? ⟨ge, t + 1, none⟩ = some (.float .f64 (atN ys (t + 1)))) (by kernel_rfl) ?_ (fun hHeld => ?_)
            · exact (let q := own_cellN (HC.out.up ((Old.refl wr).drew)) t (by have := HTl.out; omega); by obtain ⟨g', eg, _, _, qc⟩ := q; cases eg; exact ⟨qc t (by have := HTl.out; omega), qc (t + 1) (by have := HTl.out; omega)⟩)
            (try simp only [Act.put]); (try simp only [List.setIfInBounds_toArray]); (try simp only [List.set_cons_succ]); (try simp only [List.set_cons_zero])
            clear hHeld
            refine wpAnyH_take (i := 0) (oi := { dst := some 94, op := Op.fieldAddr 28 (Operand.tmp 4) 4, type := 0, pos := "ref.go:144", after := #[], guard := none }) (v := ?vk1) rfl (by kernel_rfl) (by kernel_rfl) (by kernel_rfl) (fun _ _ _ h => h) (Or.inl ⟨by rfl, ?hk1⟩) (let q := own_cellN (HC.out.up ((Old.refl wr).drew)) t (by have := HTl.out; omega); by obtain ⟨g', eg, _, _, qc⟩ := q; cases eg; exact ⟨qc t (by have := HTl.out; omega), qc (t + 1) (by have := HTl.out; omega)⟩) ?rk1
            case hk1 => (intro wz hSw; (try dsimp only at hSw); go_simp; try with_reducible rfl)
            (try simp only [Act.put]); (try simp only [List.setIfInBounds_toArray]); (try simp only [List.set_cons_succ]); (try simp only [List.set_cons_zero])
            refine wpAnyH_take (i := 2) (oi := { dst := some 96, op := Op.move (Operand.tmp 12), type := 25, pos := "ref.go:144", after := #[], guard := none }) (v := ?vk2) rfl (by kernel_rfl) (by kernel_rfl) (by kernel_rfl) (fun _ _ _ h => h) (Or.inl ⟨by rfl, ?hk2⟩) (let q := own_cellN (HC.out.up ((Old.refl wr).drew)) t (by have := HTl.out; omega); by obtain ⟨g', eg, _, _, qc⟩ := q; cases eg; exact ⟨qc t (by have := HTl.out; omega), qc (t + 1) (by have := HTl.out; omega)⟩) ?rk2
            case hk2 => (intro wz hSw; (try dsimp only at hSw); go_simp; try with_reducible rfl)
            (try simp only [Act.put]); (try simp only [List.setIfInBounds_toArray]); (try simp only [List.set_cons_succ]); (try simp only [List.set_cons_zero])
            refine wpAnyH_take (i := 3) (oi := { dst := some 97, op := Op.move (Operand.tmp 18), type := 3, pos := "ref.go:144", after := #[], guard := none }) (v := ?vk3) rfl (by kernel_rfl) (by kernel_rfl) (by kernel_rfl) (fun _ _ _ h => h) (Or.inl ⟨by rfl, ?hk3⟩) (let q := own_cellN (HC.out.up ((Old.refl wr).drew)) t (by have := HTl.out; omega); by obtain ⟨g', eg, _, _, qc⟩ := q; cases eg; exact ⟨qc t (by have := HTl.out; omega), qc (t + 1) (by have := HTl.out; omega)⟩) ?rk3
            case hk3 => (intro wz hSw; (try dsimp only at hSw); go_simp; try with_reducible rfl)
            (try simp only [Act.put]); (try simp only [List.setIfInBounds_toArray]); (try simp only [List.set_cons_succ]); (try simp only [List.set_cons_zero])
            refine wpAnyH_take (i := 4) (oi := { dst := some 98, op := Op.indexAddr 25 (Operand.tmp 96) (Operand.tmp 97), type := 0, pos := "ref.go:144", after := #[{ on := 2, ground := Ground.data }, { on := 3, ground := Ground.data }], guard := none }) (v := ?vk4) rfl (by kernel_rfl) (by kernel_rfl) (by kernel_rfl) (fun _ _ _ h => h) (Or.inl ⟨by rfl, ?hk4⟩) (let q := own_cellN (HC.out.up ((Old.refl wr).drew)) t (by have := HTl.out; omega); by obtain ⟨g', eg, _, _, qc⟩ := q; cases eg; exact ⟨qc t (by have := HTl.out; omega), qc (t + 1) (by have := HTl.out; omega)⟩) ?rk4
            case hk4 => (intro wz hSw; (try dsimp only at hSw); go_simp; try with_reducible rfl)
            (try simp only [Act.put]); (try simp only [List.setIfInBounds_toArray]); (try simp only [List.set_cons_succ]); (try simp only [List.set_cons_zero])
            refine wpAnyH_take (i := 5) (oi := { dst := some 99, op := Op.load 22 (Operand.tmp 98), type := 22, pos := "ref.go:144", after := #[{ on := 4, ground := Ground.data }], guard := none }) (v := ?vk5) rfl (by kernel_rfl) (by kernel_rfl) (by kernel_rfl) (fun _ _ _ h => h) (Or.inl ⟨by rfl, ?hk5⟩) (let q := own_cellN (HC.out.up ((Old.refl wr).drew)) t (by have := HTl.out; omega); by obtain ⟨g', eg, _, _, qc⟩ := q; cases eg; exact ⟨qc t (by have := HTl.out; omega), qc (t + 1) (by have := HTl.out; omega)⟩) ?rk5
            case hk5 => (intro wz hSw; (try dsimp only at hSw); go_simp; try with_reducible rfl)
            (try simp only [Act.put]); (try simp only [List.setIfInBounds_toArray]); (try simp only [List.set_cons_succ]); (try simp only [List.set_cons_zero])
            refine wpAnyH_take (i := 6) (oi := { dst := some 100, op := Op.move (Operand.tmp 12), type := 25, pos := "ref.go:144", after := #[], guard := none }) (v := ?vk6) rfl (by kernel_rfl) (by kernel_rfl) (by kernel_rfl) (fun _ _ _ h => h) (Or.inl ⟨by rfl, ?hk6⟩) (let q := own_cellN (HC.out.up ((Old.refl wr).drew)) t (by have := HTl.out; omega); by obtain ⟨g', eg, _, _, qc⟩ := q; cases eg; exact ⟨qc t (by have := HTl.out; omega), qc (t + 1) (by have := HTl.out; omega)⟩) ?rk6
            case hk6 => (intro wz hSw; (try dsimp only at hSw); go_simp; try with_reducible rfl)
            (try simp only [Act.put]); (try simp only [List.setIfInBounds_toArray]); (try simp only [List.set_cons_succ]); (try simp only [List.set_cons_zero])
            refine wpAnyH_take (i := 7) (oi := { dst := some 101, op := Op.move (Operand.tmp 18), type := 3, pos := "ref.go:144", after := #[], guard := none }) (v := ?vk7) rfl (by kernel_rfl) (by kernel_rfl) (by kernel_rfl) (fun _ _ _ h => h) (Or.inl ⟨by rfl, ?hk7⟩) (let q := own_cellN (HC.out.up ((Old.refl wr).drew)) t (by have := HTl.out; omega); by obtain ⟨g', eg, _, _, qc⟩ := q; cases eg; exact ⟨qc t (by have := HTl.out; omega), qc (t + 1) (by have := HTl.out; omega)⟩) ?rk7
            case hk7 => (intro wz hSw; (try dsimp only at hSw); go_simp; try with_reducible rfl)
            (try simp only [Act.put]); (try simp only [List.setIfInBounds_toArray]); (try simp only [List.set_cons_succ]); (try simp only [List.set_cons_zero])
            refine wpAnyH_take (i := 8) (oi := { dst := some 102, op := Op.binOp BinOp.add 3 (Operand.tmp 101) (Operand.const (Value.int IntKind.i64 1)) 3, type := 3, pos := "ref.go:144", after := #[{ on := 7, ground := Ground.data }], guard := none }) (v := ?vk8) rfl (by kernel_rfl) (by kernel_rfl) (by kernel_rfl) (fun _ _ _ h => h) (Or.inl ⟨by rfl, ?hk8⟩) (let q := own_cellN (HC.out.up ((Old.refl wr).drew)) t (by have := HTl.out; omega); by obtain ⟨g', eg, _, _, qc⟩ := q; cases eg; exact ⟨qc t (by have := HTl.out; omega), qc (t + 1) (by have := HTl.out; omega)⟩) ?rk8
            case hk8 => (intro wz hSw; (try dsimp only at hSw); go_simp; try with_reducible rfl)
            (try simp only [Act.put]); (try simp only [List.setIfInBounds_toArray]); (try simp only [List.set_cons_succ]); (try simp only [List.set_cons_zero])
            refine wpAnyH_take (i := 9) (oi := { dst := some 103, op := Op.indexAddr 25 (Operand.tmp 100) (Operand.tmp 102), type := 0, pos := "ref.go:144", after := #[{ on := 6, ground := Ground.data }, { on := 8, ground := Ground.data }], guard := none }) (v := ?vk9) rfl (by kernel_rfl) (by kernel_rfl) (by kernel_rfl) (fun _ _ _ h => h) (Or.inl ⟨by rfl, ?hk9⟩) (let q := own_cellN (HC.out.up ((Old.refl wr).drew)) t (by have := HTl.out; omega); by obtain ⟨g', eg, _, _, qc⟩ := q; cases eg; exact ⟨qc t (by have := HTl.out; omega), qc (t + 1) (by have := HTl.out; omega)⟩) ?rk9
            case hk9 => (intro wz hSw; (try dsimp only at hSw); go_simp; try with_reducible rfl)
            (try simp only [Act.put]); (try simp only [List.setIfInBounds_toArray]); (try simp only [List.set_cons_succ]); (try simp only [List.set_cons_zero])
            refine wpAnyH_take (i := 10) (oi := { dst := some 104, op := Op.load 22 (Operand.tmp 103), type := 22, pos := "ref.go:144", after := #[{ on := 9, ground := Ground.data }], guard := none }) (v := ?vk10) rfl (by kernel_rfl) (by kernel_rfl) (by kernel_rfl) (fun _ _ _ h => h) (Or.inl ⟨by rfl, ?hk10⟩) (let q := own_cellN (HC.out.up ((Old.refl wr).drew)) t (by have := HTl.out; omega); by obtain ⟨g', eg, _, _, qc⟩ := q; cases eg; exact ⟨qc t (by have := HTl.out; omega), qc (t + 1) (by have := HTl.out; omega)⟩) ?rk10
            case hk10 => (intro wz hSw; (try dsimp only at hSw); go_simp; try with_reducible rfl)
            (try simp only [Act.put]); (try simp only [List.setIfInBounds_toArray]); (try simp only [List.set_cons_succ]); (try simp only [List.set_cons_zero])
            refine wpAnyH_take (i := 11) (oi := { dst := some 105, op := Op.build 31 #[(0, Operand.tmp 99), (1, Operand.tmp 104)], type := 31, pos := "ref.go:144", after := #[{ on := 5, ground := Ground.data }, { on := 10, ground := Ground.data }], guard := none }) (v := ?vk11) rfl (by kernel_rfl) (by kernel_rfl) (by kernel_rfl) (fun _ _ _ h => h) (Or.inl ⟨by rfl, ?hk11⟩) (let q := own_cellN (HC.out.up ((Old.refl wr).drew)) t (by have := HTl.out; omega); by obtain ⟨g', eg, _, _, qc⟩ := q; cases eg; exact ⟨qc t (by have := HTl.out; omega), qc (t + 1) (by have := HTl.out; omega)⟩) ?rk11
            case hk11 => (intro wz hSw; (try dsimp only at hSw); go_simp; try with_reducible rfl)
            (try simp only [Act.put]); (try simp only [List.setIfInBounds_toArray]); (try simp only [List.set_cons_succ]); (try simp only [List.set_cons_zero])
            refine wpAnyH_ready (rs := [1, 12]) (by kernel_rfl) (by simp) ?_
            refine AllReadyH.cons (o := { dst := some 95, op := Op.load 26 (Operand.tmp 94), type := 26, pos := "ref.go:144", after := #[{ on := 0, ground := Ground.data }], guard := none }) rfl (fun K hK => ?_) (AllReadyH.cons (o := { dst := some 106, op := Op.buildSlice 26 1 #[(0, Operand.tmp 105)], type := 26, pos := "ref.go:144", after := #[{ on := 11, ground := Ground.data }], guard := none }) rfl (fun K hK => ?_) AllReadyH.nil)
            · skip
              refine stepLoadSL ?_ (.tmp 94) ?_ sb 4 pv ((prs ys).take j).length cv ?_ (HT.out.old ((Old.refl wr).drew)).hs.1.2.2.2.2.1 ?_
              · rfl
              · rfl
              · rfl
              refine hK.out _ _ (let q := own_cellN (HC.out.up ((Old.refl wr).drew)) t (by have := HTl.out; omega); by obtain ⟨g', eg, _, _, qc⟩ := q; cases eg; exact ⟨qc t (by have := HTl.out; omega), qc (t + 1) (by have := HTl.out; omega)⟩) (fun _ => ?_)
              clear hK K
              (try simp only [Act.put]); (try simp only [List.setIfInBounds_toArray]); (try simp only [List.set_cons_succ]); (try simp only [List.set_cons_zero])
              refine wpAnyH_ready (rs := [12]) (by kernel_rfl) (by simp) ?_
              refine AllReadyH.cons (o := { dst := some 106, op := Op.buildSlice 26 1 #[(0, Operand.tmp 105)], type := 26, pos := "ref.go:144", after := #[{ on := 11, ground := Ground.data }], guard := none }) rfl (fun K hK => ?_) AllReadyH.nil
              · skip
                refine stepBuild1S ?_ (.tmp 105) ?_ ⟨atN ys t, atN ys (t + 1), false, false⟩ ?_ ?_
                · rfl
                · rfl
                · rfl
                intro m12 y12 hm12 hy12
                have R12 : SpIn y12 m12 0 ⟨atN ys t, atN ys (t + 1), false, false⟩ := one_S (p := ⟨atN ys t, atN ys (t + 1), false, false⟩) hm12 hy12
                have V12 := alloc_old hy12
                have T12 := (HT.out.old ((Old.refl wr).drew)).old V12
                have O12 := (HO.out.old ((Old.refl wr).drew)).old V12
                have Y12 : B2 ≤ y12.heap.size := Nat.le_trans (Nat.le_trans HYr.out ((Old.refl wr).drew).size) V12.size
                have A12 := (HA.out.up ((Old.refl wr).drew)).up V12
                have C12 := (HC.out.up ((Old.refl wr).drew)).up V12
                have E12 := (HE.out.up ((Old.refl wr).drew)).up V12
                clear hm12 hy12 V12
                refine hK.out _ _ (let q := own_cellN C12 t (by have := HTl.out; omega); by obtain ⟨g', eg, _, _, qc⟩ := q; cases eg; exact ⟨qc t (by have := HTl.out; omega), qc (t + 1) (by have := HTl.out; omega)⟩) (fun _ => ?_)
                clear hK K
                (try simp only [Act.put]); (try simp only [List.setIfInBounds_toArray]); (try simp only [List.set_cons_succ]); (try simp only [List.set_cons_zero])
                refine wpAnyH_ready (rs := [13]) (by kernel_rfl) (by simp) ?_
                refine AllReadyH.cons (o := { dst := some 107, op := Op.call { callee := Callee.builtin Builtin.append, args := #[Operand.tmp 95, Operand.tmp 106], argTypes := #[26, 26] }, type := 26, pos := "ref.go:144", after := #[{ on := 1, ground := Ground.data }, { on := 12, ground := Ground.data }], guard := none }) rfl (fun K hK => ?_) AllReadyH.nil
                · skip
                  refine step_appS1 ?_ (.tmp 95) (.tmp 106) ?_ B2 _ ((prs ys).take j) m12 ⟨atN ys t, atN ys (t + 1), false, false⟩ ?_ ?_ O12 R12 (by have := HPl.out; rw [List.length_take]; omega) Y12 ?_
                  · rfl
                  · rfl
                  · rfl
                  · rfl
                  intro v13 y13 o13 g13
                  have T13 := T12.grown g13 (fun i e => by have := (World.ownsRow.lt O12 i e).1; have := HSB.out; omega)
                  have Y13 : B2 ≤ y13.heap.size := Nat.le_trans Y12 g13.size
                  have A13 : OwnF (sb + 1) y13 _ _ := World.ownsRow.kept A12 g13 (Classical.byCases (fun e => .inl e) fun e => .inr fun e2 => by obtain ⟨i, hi⟩ := Option.ne_none_iff_exists'.1 e; have := HLA.out i hi; have := (World.ownsRow.lt O12 i (by rw [← e2]; exact hi)).1; omega)
                  have C13 : OwnF (sb + 1) y13 _ _ := World.ownsRow.kept C12 g13 (Classical.byCases (fun e => .inl e) fun e => .inr fun e2 => by obtain ⟨i, hi⟩ := Option.ne_none_iff_exists'.1 e; have := HLC.out i hi; have := (World.ownsRow.lt O12 i (by rw [← e2]; exact hi)).1; omega)
                  have E13 : OwnF (sb + 1) y13 _ _ := World.ownsRow.kept E12 g13 (Classical.byCases (fun e => .inl e) fun e => .inr fun e2 => by obtain ⟨i, hi⟩ := Option.ne_none_iff_exists'.1 e; have := HLE.out i hi; have := (World.ownsRow.lt O12 i (by rw [← e2]; exact hi)).1; omega)
                  rw [HSt.out] at o13
                  obtain ⟨pn, cn, en⟩ := OwnS.len o13
                  subst en
                  refine hK.out _ _ (let q := own_cellN C13 t (by have := HTl.out; omega); by obtain ⟨g', eg, _, _, qc⟩ := q; cases eg; exact ⟨qc t (by have := HTl.out; omega), qc (t + 1) (by have := HTl.out; omega)⟩) (fun _ => ?_)
                  clear hK K
                  (try simp only [Act.put]); (try simp only [List.setIfInBounds_toArray]); (try simp only [List.set_cons_succ]); (try simp only [List.set_cons_zero])
                  refine wpAnyH_take (i := 14) (oi := { dst := some 108, op := Op.fieldAddr 28 (Operand.tmp 4) 4, type := 0, pos := "ref.go:144", after := #[{ on := 0, ground := Ground.phase }, { on := 1, ground := Ground.phase }, { on := 2, ground := Ground.phase }, { on := 3, ground := Ground.phase }, { on := 4, ground := Ground.phase }, { on := 5, ground := Ground.phase }, { on := 6, ground := Ground.phase }, { on := 7, ground := Ground.phase }, { on := 8, ground := Ground.phase }, { on := 9, ground := Ground.phase }, { on := 10, ground := Ground.phase }, { on := 11, ground := Ground.phase }, { on := 12, ground := Ground.phase }, { on := 13, ground := Ground.phase }], guard := none }) (v := ?vk14) rfl (by kernel_rfl) (by kernel_rfl) (by kernel_rfl) (fun _ _ _ h => h) (Or.inl ⟨by rfl, ?hk14⟩) (let q := own_cellN C13 t (by have := HTl.out; omega); by obtain ⟨g', eg, _, _, qc⟩ := q; cases eg; exact ⟨qc t (by have := HTl.out; omega), qc (t + 1) (by have := HTl.out; omega)⟩) ?rk14
                  case hk14 => (intro wz hSw; (try dsimp only at hSw); go_simp; try with_reducible rfl)
                  (try simp only [Act.put]); (try simp only [List.setIfInBounds_toArray]); (try simp only [List.set_cons_succ]); (try simp only [List.set_cons_zero])
                  refine wpAnyH_ready (rs := [15]) (by kernel_rfl) (by simp) ?_
                  refine AllReadyH.cons (o := { dst := none, op := Op.store 26 (Operand.tmp 108) (Operand.tmp 107), type := 0, pos := "ref.go:144", after := #[{ on := 14, ground := Ground.data }, { on := 13, ground := Ground.data }, { on := 13, ground := Ground.chain }, { on := 0, ground := Ground.phase }, { on := 1, ground := Ground.phase }, { on := 2, ground := Ground.phase }, { on := 3, ground := Ground.phase }, { on := 4, ground := Ground.phase }, { on := 5, ground := Ground.phase }, { on := 6, ground := Ground.phase }, { on := 7, ground := Ground.phase }, { on := 8, ground := Ground.phase }, { on := 9, ground := Ground.phase }, { on := 10, ground := Ground.phase }, { on := 11, ground := Ground.phase }, { on := 12, ground := Ground.phase }, { on := 13, ground := Ground.phase }], guard := none }) rfl (fun K hK => ?_) AllReadyH.nil
                  · skip
                    refine stepStoreSL ?_ (.tmp 108) (.tmp 107) ?_ sb 4 pn ((prs ys).take (j + 1)).length cn ?_ ?_ T13.th ?_
                    · rfl
                    · rfl
                    · rfl
                    · rfl
                    have T15 := (T13.set (.slice pn ((prs ys).take (j + 1)).length cn)).2.1
                    have O15 : OwnS B2 _ _ _ := own_far (u := .slice pn ((prs ys).take (j + 1)).length cn) o13 (a := ⟨sb, 4, none⟩) (by show sb < B2; have := HSB.out; omega)
                    have A15 : OwnF (sb + 1) _ _ _ := own_far (u := .slice pn ((prs ys).take (j + 1)).length cn) A13 (a := ⟨sb, 4, none⟩) (by show sb < sb + 1; omega)
                    have C15 : OwnF (sb + 1) _ _ _ := own_far (u := .slice pn ((prs ys).take (j + 1)).length cn) C13 (a := ⟨sb, 4, none⟩) (by show sb < sb + 1; omega)
                    have E15 : OwnF (sb + 1) _ _ _ := own_far (u := .slice pn ((prs ys).take (j + 1)).length cn) E13 (a := ⟨sb, 4, none⟩) (by show sb < sb + 1; omega)
                    refine hK.out _ _ (let q := own_cellN C15 t (by have := HTl.out; omega); by obtain ⟨g', eg, _, _, qc⟩ := q; cases eg; exact ⟨qc t (by have := HTl.out; omega), qc (t + 1) (by have := HTl.out; omega)⟩) (fun _ => ?_)
                    clear hK K
                    (try simp only [Act.put]); (try simp only [List.setIfInBounds_toArray]); (try simp only [List.set_cons_succ]); (try simp only [List.set_cons_zero])
                    refine wpAnyH_done (by kernel_rfl) ?_ _
                    refine NoPanic.normal ?_
                    have TE := hid T15
                    have OE := hid (show OwnS B2 _ _ _ from O15)
                    have AE := hid A15
                    have CE := hid C15
                    have EE := hid E15
                    have YE := hid Y13
                    generalize ((prs ys).take (j + 1)).length = LL at *
                    go_wp2
                    go_roundw
                    case rel => exact ⟨j + 1, t + 2, _, by have := HTj.out; omega, hlt, by go_num, TE.out, OE.out, AE.out, CE.out, EE.out, by first | exact YE.out | (have := YE.out; simp; omega)⟩
                    case measure => (have := HTj.out; simp [intOf]; omega)
            · skip
              refine stepBuild1S ?_ (.tmp 105) ?_ ⟨atN ys t, atN ys (t + 1), false, false⟩ ?_ ?_
              · rfl
              · rfl
              · rfl
              intro m16 y16 hm16 hy16
              have R16 : SpIn y16 m16 0 ⟨atN ys t, atN ys (t + 1), false, false⟩ := one_S (p := ⟨atN ys t, atN ys (t + 1), false, false⟩) hm16 hy16
              have V16 := alloc_old hy16
              have T16 := (HT.out.old ((Old.refl wr).drew)).old V16
              have O16 := (HO.out.old ((Old.refl wr).drew)).old V16
              have Y16 : B2 ≤ y16.heap.size := Nat.le_trans (Nat.le_trans HYr.out ((Old.refl wr).drew).size) V16.size
              have A16 := (HA.out.up ((Old.refl wr).drew)).up V16
              have C16 := (HC.out.up ((Old.refl wr).drew)).up V16
              have E16 := (HE.out.up ((Old.refl wr).drew)).up V16
              clear hm16 hy16 V16
              refine hK.out _ _ (let q := own_cellN C16 t (by have := HTl.out; omega); by obtain ⟨g', eg, _, _, qc⟩ := q; cases eg; exact ⟨qc t (by have := HTl.out; omega), qc (t + 1) (by have := HTl.out; omega)⟩) (fun _ => ?_)
              clear hK K
              (try simp only [Act.put]); (try simp only [List.setIfInBounds_toArray]); (try simp only [List.set_cons_succ]); (try simp only [List.set_cons_zero])
              refine wpAnyH_ready (rs := [1]) (by kernel_rfl) (by simp) ?_
              refine AllReadyH.cons (o := { dst := some 95, op := Op.load 26 (Operand.tmp 94), type := 26, pos := "ref.go:144", after := #[{ on := 0, ground := Ground.data }], guard := none }) rfl (fun K hK => ?_) AllReadyH.nil
              · skip
                refine stepLoadSL ?_ (.tmp 94) ?_ sb 4 pv ((prs ys).take j).length cv ?_ T16.hs.1.2.2.2.2.1 ?_
                · rfl
                · rfl
                · rfl
                refine hK.out _ _ (let q := own_cellN C16 t (by have := HTl.out; omega); by obtain ⟨g', eg, _, _, qc⟩ := q; cases eg; exact ⟨qc t (by have := HTl.out; omega), qc (t + 1) (by have := HTl.out; omega)⟩) (fun _ => ?_)
                clear hK K
                (try simp only [Act.put]); (try simp only [List.setIfInBounds_toArray]); (try simp only [List.set_cons_succ]); (try simp only [List.set_cons_zero])
                refine wpAnyH_ready (rs := [13]) (by kernel_rfl) (by simp) ?_
                refine AllReadyH.cons (o := { dst := some 107, op := Op.call { callee := Callee.builtin Builtin.append, args := #[Operand.tmp 95, Operand.tmp 106], argTypes := #[26, 26] }, type := 26, pos := "ref.go:144", after := #[{ on := 1, ground := Ground.data }, { on := 12, ground := Ground.data }], guard := none }) rfl (fun K hK => ?_) AllReadyH.nil
                · skip
                  refine step_appS1 ?_ (.tmp 95) (.tmp 106) ?_ B2 _ ((prs ys).take j) m16 ⟨atN ys t, atN ys (t + 1), false, false⟩ ?_ ?_ O16 R16 (by have := HPl.out; rw [List.length_take]; omega) Y16 ?_
                  · rfl
                  · rfl
                  · rfl
                  · rfl
                  intro v17 y17 o17 g17
                  have T17 := T16.grown g17 (fun i e => by have := (World.ownsRow.lt O16 i e).1; have := HSB.out; omega)
                  have Y17 : B2 ≤ y17.heap.size := Nat.le_trans Y16 g17.size
                  have A17 : OwnF (sb + 1) y17 _ _ := World.ownsRow.kept A16 g17 (Classical.byCases (fun e => .inl e) fun e => .inr fun e2 => by obtain ⟨i, hi⟩ := Option.ne_none_iff_exists'.1 e; have := HLA.out i hi; have := (World.ownsRow.lt O16 i (by rw [← e2]; exact hi)).1; omega)
                  have C17 : OwnF (sb + 1) y17 _ _ := World.ownsRow.kept C16 g17 (Classical.byCases (fun e => .inl e) fun e => .inr fun e2 => by obtain ⟨i, hi⟩ := Option.ne_none_iff_exists'.1 e; have := HLC.out i hi; have := (World.ownsRow.lt O16 i (by rw [← e2]; exact hi)).1; omega)
                  have E17 : OwnF (sb + 1) y17 _ _ := World.ownsRow.kept E16 g17 (Classical.byCases (fun e => .inl e) fun e => .inr fun e2 => by obtain ⟨i, hi⟩ := Option.ne_none_iff_exists'.1 e; have := HLE.out i hi; have := (World.ownsRow.lt O16 i (by rw [← e2]; exact hi)).1; omega)
                  rw [HSt.out] at o17
                  obtain ⟨pn, cn, en⟩ := OwnS.len o17
                  subst en
                  refine hK.out _ _ (let q := own_cellN C17 t (by have := HTl.out; omega); by obtain ⟨g', eg, _, _, qc⟩ := q; cases eg; exact ⟨qc t (by have := HTl.out; omega), qc (t + 1) (by have := HTl.out; omega)⟩) (fun _ => ?_)
                  clear hK K
                  (try simp only [Act.put]); (try simp only [List.setIfInBounds_toArray]); (try simp only [List.set_cons_succ]); (try simp only [List.set_cons_zero])
                  refine wpAnyH_take (i := 14) (oi := { dst := some 108, op := Op.fieldAddr 28 (Operand.tmp 4) 4, type := 0, pos := "ref.go:144", after := #[{ on := 0, ground := Ground.phase }, { on := 1, ground := Ground.phase }, { on := 2, ground := Ground.phase }, { on := 3, ground := Ground.phase }, { on := 4, ground := Ground.phase }, { on := 5, ground := Ground.phase }, { on := 6, ground := Ground.phase }, { on := 7, ground := Ground.phase }, { on := 8, ground := Ground.phase }, { on := 9, ground := Ground.phase }, { on := 10, ground := Ground.phase }, { on := 11, ground := Ground.phase }, { on := 12, ground := Ground.phase }, { on := 13, ground := Ground.phase }], guard := none }) (v := ?vk18) rfl (by kernel_rfl) (by kernel_rfl) (by kernel_rfl) (fun _ _ _ h => h) (Or.inl ⟨by rfl, ?hk18⟩) (let q := own_cellN C17 t (by have := HTl.out; omega); by obtain ⟨g', eg, _, _, qc⟩ := q; cases eg; exact ⟨qc t (by have := HTl.out; omega), qc (t + 1) (by have := HTl.out; omega)⟩) ?rk18
                  case hk18 => (intro wz hSw; (try dsimp only at hSw); go_simp; try with_reducible rfl)
                  (try simp only [Act.put]); (try simp only [List.setIfInBounds_toArray]); (try simp only [List.set_cons_succ]); (try simp only [List.set_cons_zero])
                  refine wpAnyH_ready (rs := [15]) (by kernel_rfl) (by simp) ?_
                  refine AllReadyH.cons (o := { dst := none, op := Op.store 26 (Operand.tmp 108) (Operand.tmp 107), type := 0, pos := "ref.go:144", after := #[{ on := 14, ground := Ground.data }, { on := 13, ground := Ground.data }, { on := 13, ground := Ground.chain }, { on := 0, ground := Ground.phase }, { on := 1, ground := Ground.phase }, { on := 2, ground := Ground.phase }, { on := 3, ground := Ground.phase }, { on := 4, ground := Ground.phase }, { on := 5, ground := Ground.phase }, { on := 6, ground := Ground.phase }, { on := 7, ground := Ground.phase }, { on := 8, ground := Ground.phase }, { on := 9, ground := Ground.phase }, { on := 10, ground := Ground.phase }, { on := 11, ground := Ground.phase }, { on := 12, ground := Ground.phase }, { on := 13, ground := Ground.phase }], guard := none }) rfl (fun K hK => ?_) AllReadyH.nil
                  · skip
                    refine stepStoreSL ?_ (.tmp 108) (.tmp 107) ?_ sb 4 pn ((prs ys).take (j + 1)).length cn ?_ ?_ T17.th ?_
                    · rfl
                    · rfl
                    · rfl
                    · rfl
                    have T19 := (T17.set (.slice pn ((prs ys).take (j + 1)).length cn)).2.1
                    have O19 : OwnS B2 _ _ _ := own_far (u := .slice pn ((prs ys).take (j + 1)).length cn) o17 (a := ⟨sb, 4, none⟩) (by show sb < B2; have := HSB.out; omega)
                    have A19 : OwnF (sb + 1) _ _ _ := own_far (u := .slice pn ((prs ys).take (j + 1)).length cn) A17 (a := ⟨sb, 4, none⟩) (by show sb < sb + 1; omega)
                    have C19 : OwnF (sb + 1) _ _ _ := own_far (u := .slice pn ((prs ys).take (j + 1)).length cn) C17 (a := ⟨sb, 4, none⟩) (by show sb < sb + 1; omega)
                    have E19 : OwnF (sb + 1) _ _ _ := own_far (u := .slice pn ((prs ys).take (j + 1)).length cn) E17 (a := ⟨sb, 4, none⟩) (by show sb < sb + 1; omega)
                    refine hK.out _ _ (let q := own_cellN C19 t (by have := HTl.out; omega); by obtain ⟨g', eg, _, _, qc⟩ := q; cases eg; exact ⟨qc t (by have := HTl.out; omega), qc (t + 1) (by have := HTl.out; omega)⟩) (fun _ => ?_)
                    clear hK K
                    (try simp only [Act.put]); (try simp only [List.setIfInBounds_toArray]); (try simp only [List.set_cons_succ]); (try simp only [List.set_cons_zero])
                    refine wpAnyH_done (by kernel_rfl) ?_ _
                    refine NoPanic.normal ?_
                    have TE := hid T19
                    have OE := hid (show OwnS B2 _ _ _ from O19)
                    have AE := hid A19
                    have CE := hid C19
                    have EE := hid E19
                    have YE := hid Y17
                    generalize ((prs ys).take (j + 1)).length = LL at *
                    go_wp2
                    go_roundw
                    case rel => exact ⟨j + 1, t + 2, _, by have := HTj.out; omega, hlt, by go_num, TE.out, OE.out, AE.out, CE.out, EE.out, by first | exact YE.out | (have := YE.out; simp; omega)⟩
                    case measure => (have := HTj.out; simp [intOf]; omega)
          · have hjm : j = m2 := by omega
            subst hjm
            have n2 : ¬ ((t : Int) < (ys.length : Int)) := by omega
            have hO2 := HO.out
            rw [HFull.out] at hO2
            have HO2 := hid hO2
            rw [HFull.out] at HT HO
            have x4 := HX4.out.2.2
            have x5 := HX5.out.2.2
            have x6 := HX6.out.2.2
            have hF1 := fun W (q : OwnF (sb + 1) W (.slice a1 xs.length c1) xs) => q.frow (fun x hx => (x4 x hx).1) (by have := HX4.out; omega)
            have hF3 := fun W (q : OwnF (sb + 1) W (.slice a3 qs.length c3) qs) => q.frow (fun x hx => (x6 x hx).1) (by have := HX6.out; omega)
            have hF2 := fun W (q : OwnS B2 W (.slice pv (prs ys).length cv) (prs ys)) => q.row (fun s hs => ⟨((prs_all j ys HYl.out x5 s hs).1.1).1, ((prs_all j ys HYl.out x5 s hs).1.2).1⟩) (by have := HPl.out; omega)
            have HF1 := hid hF1
            have HF2 := hid hF2
            have HF3 := hid hF3
            clear hF1 hF2 hF3 hO2 x4 x5 x6 htj HStep HFull
            have HCk := hid (refChk_any s1 s2 s3 a1 pv a3 xs.length (prs ys).length qs.length c1 cv c3 (atN xs) (atN qs) (atS (prs ys)) wr (HF1.out _ HA.out) (HF2.out _ HO2.out) (HF3.out _ HE.out))
            have hck : (⟨s1, s2, s3, xs, ys, qs⟩ : Raw).chk = chkV s1 s2 s3 xs.length (prs ys).length qs.length (atN xs) (atN qs) (atS (prs ys)) := rfl
            have HRw := hid (show tkSub L = some ((⟨s1, s2, s3, xs, ys, qs⟩ : Raw), []) from HC.out)
            rw [← hck] at HCk
            clear hck HC
            obtain ⟨⟨k0, k1, k2, k3, k4, k5⟩, kf⟩ := HT.out.hs
            clear kf
            by_cases hc : (⟨s1, s2, s3, xs, ys, qs⟩ : Raw).chk = 0
            · rw [hc] at HCk
              have HCc := hid hc
              clear hc
              go_upto_region 31 with (first | (go_at_call 28; refine HCk.out.mono ?_; rintro e w9 ⟨rfl, u9⟩; have T9 := hid (HT.out.old u9); have A9 := hid (HA.out.up u9); have E9 := hid (HE.out.up u9); have O9 := hid (HO2.out.old u9); clear u9))
              clear k0 k1 k2 k3 k4 k5
              obtain ⟨⟨k0, k1, k2, k3, k4, k5⟩, kf⟩ := T9.out.hs
              clear kf
              obtain ⟨⟨t0, t1, t2, t3, t4, t5⟩, tf⟩ := T9.out.hr
              have e0 := tf 0 (by omega)
              have e1 := tf 1 (by omega)
              have e2 := tf 2 (by omega)
              have e3 := tf 3 (by omega)
              have e4 := tf 4 (by omega)
              have e5 := tf 5 (by omega)
              clear tf
              go_wp2
              have cF := put_chg w9 rb (.int .i64 s1) (.int .i64 s2) (.int .i64 s3) (.slice a1 xs.length c1) (.slice pv (prs ys).length cv) (.slice a3 qs.length c3)
              have hlt9 := T9.out.lt
              refine bodyPost_ret (v := .tuple #[.agg #[.int .i64 s1, .int .i64 s2, .int .i64 s3, .slice a1 xs.length c1, .slice pv (prs ys).length cv, .slice a3 qs.length c3], .bool true]) (by simp [results, Tryz.results12, go_sem, *]) rfl (HPy.out _ ⟨s1, s2, s3, xs, ys, qs⟩ a1 pv a3 c1 cv c3 (Pk.Chg.toOld T9.out.u cF (by simp; exact T9.out.le)) HRw.out HCc.out ?_ ?_ ?_)
              · exact HF1.out _ (own_far (a := ⟨rb, 5, none⟩) (own_far (a := ⟨rb, 4, none⟩) (own_far (a := ⟨rb, 3, none⟩) (own_far (a := ⟨rb, 2, none⟩) (own_far (a := ⟨rb, 1, none⟩) (own_far (a := ⟨rb, 0, none⟩) A9.out (by show rb < _; have := HSB.out; omega)) (by show rb < _; have := HSB.out; omega)) (by show rb < _; have := HSB.out; omega)) (by show rb < _; have := HSB.out; omega)) (by show rb < _; have := HSB.out; omega)) (by show rb < _; have := HSB.out; omega))
              · exact HF2.out _ (own_far (a := ⟨rb, 5, none⟩) (own_far (a := ⟨rb, 4, none⟩) (own_far (a := ⟨rb, 3, none⟩) (own_far (a := ⟨rb, 2, none⟩) (own_far (a := ⟨rb, 1, none⟩) (own_far (a := ⟨rb, 0, none⟩) O9.out (by show rb < _; have := HSB.out; omega)) (by show rb < _; have := HSB.out; omega)) (by show rb < _; have := HSB.out; omega)) (by show rb < _; have := HSB.out; omega)) (by show rb < _; have := HSB.out; omega)) (by show rb < _; have := HSB.out; omega))
              · exact HF3.out _ (own_far (a := ⟨rb, 5, none⟩) (own_far (a := ⟨rb, 4, none⟩) (own_far (a := ⟨rb, 3, none⟩) (own_far (a := ⟨rb, 2, none⟩) (own_far (a := ⟨rb, 1, none⟩) (own_far (a := ⟨rb, 0, none⟩) E9.out (by show rb < _; have := HSB.out; omega)) (by show rb < _; have := HSB.out; omega)) (by show rb < _; have := HSB.out; omega)) (by show rb < _; have := HSB.out; omega)) (by show rb < _; have := HSB.out; omega)) (by show rb < _; have := HSB.out; omega))
            · have HCc := hid hc
              have tz : ((⟨s1, s2, s3, xs, ys, qs⟩ : Raw).chk != 0) = true := by rw [bne_iff_ne]; exact hc
              have tz2 : ((⟨s1, s2, s3, xs, ys, qs⟩ : Raw).chk == 0) = false := by rw [beq_eq_false_iff_ne]; exact hc
              generalize (⟨s1, s2, s3, xs, ys, qs⟩ : Raw).chk = ck at tz tz2 HCk
              clear hc
              go_upto_region 30 with (first | (go_at_call 28; refine HCk.out.mono ?_; rintro e w9 ⟨rfl, u9⟩; have T9 := hid (HT.out.old u9); clear u9))
              clear k0 k1 k2 k3 k4 k5
              obtain ⟨⟨t0, t1, t2, t3, t4, t5⟩, tf⟩ := T9.out.hr
              have e0 := tf 0 (by omega)
              have e1 := tf 1 (by omega)
              have e2 := tf 2 (by omega)
              have e3 := tf 3 (by omega)
              have e4 := tf 4 (by omega)
              have e5 := tf 5 (by omega)
              clear tf
              go_wp2
              have cF := put_chg w9 rb (.int .i64 0) (.int .i64 0) (.int .i64 0) (.slice none 0 0) (.slice none 0 0) (.slice none 0 0)
              refine bodyPost_ret (v := .tuple #[.agg #[.int .i64 0, .int .i64 0, .int .i64 0, .slice none 0 0, .slice none 0 0, .slice none 0 0], .bool false]) (by simp [results, Tryz.results12, go_sem, *]) rfl (HPn.out _ (Pk.Chg.toOld T9.out.u cF (by simp; exact T9.out.le)) (fun r h => by rw [HRw.out] at h; cases h; exact HCc.out))
      · have tl0 : decide ((D6.length : Int) > 0) = true := by
          rw [decide_eq_true_eq]; cases D6 with
          | nil => exact absurd rfl hr0
          | cons a b => simp
        have tl1 : (0 : Int) < (D6.length : Int) := by simpa using tl0
        go_upto_region 22 with fail
        obtain ⟨⟨t0, t1, t2, t3, t4, t5⟩, tf⟩ := HT7.out.hr
        have e0 := tf 0 (by omega)
        have e1 := tf 1 (by omega)
        have e2 := tf 2 (by omega)
        have e3 := tf 3 (by omega)
        have e4 := tf 4 (by omega)
        have e5 := tf 5 (by omega)
        clear tf
        go_wp2
        have cF := put_chg w7 rb (.int .i64 0) (.int .i64 0) (.int .i64 0) (.slice none 0 0) (.slice none 0 0) (.slice none 0 0)
        refine bodyPost_ret (v := .tuple #[.agg #[.int .i64 0, .int .i64 0, .int .i64 0, .slice none 0 0, .slice none 0 0, .slice none 0 0], .bool false]) (by simp [results, Tryz.results12, go_sem, *]) rfl (HPn.out _ (Pk.Chg.toOld HT7.out.u cF (by simp; exact HT7.out.le)) (fun r h => by rw [HC.out] at h; cases h; exact absurd rfl hr0))
end Go.Proofs.YtbkklemhhdejpaaGreat
namespace Go.Proofs.YtbkklemhhdejpaaGreat
open Go.RowKit Go.Lib
set_option linter.unusedVariables false
set_option linter.unusedSimpArgs false
set_option maxRecDepth 20000
def zeroS : Sb := ⟨0, 0, 0, none, none, none, 0, 0, 0, 0, 0, 0, fun _ => 0, fun _ => 0, fun _ => ⟨0, 0, false, false⟩⟩
theorem zeroS_ok (w : World) : zeroS.Ok w := ⟨⟨by simp [zeroS], _, _, rfl, fun i hi => by simp [zeroS] at hi⟩, ⟨by simp [zeroS], _, _, rfl, fun i hi => by simp [zeroS] at hi⟩, ⟨by simp [zeroS], _, _, rfl, fun i hi => by simp [zeroS] at hi⟩, by simp [zeroS], by simp [zeroS], by simp [zeroS]⟩
theorem refB_zero : refB zeroS zeroS = true := by rfl
theorem refB_sb (r : Raw) (p1 p2 p3 : Option Addr) (q1 q2 q3 : Nat) (a1 a2 a3 : Option Addr) (c1 c2 c3 : Nat) : refB (r.sb p1 p2 p3 q1 q2 q3) (r.sb a1 a2 a3 c1 c2 c3) = true := by
  unfold refB Raw.sb
  simp only
  rw [sameU_of (fun i hi => rfl), sameU_of (fun i hi => rfl), spU_of (fun i hi => rfl)]
  simp
theorem raw_one {L : List Nat} {r r' : Raw} (h : r.Ok) (h' : r'.Ok) (e : L = r.enc []) (e' : L = r'.enc []) : r' = r := by
  have a := tkSub_at r h []
  have b := tkSub_at r' h' []
  rw [← e] at a
  rw [← e', a] at b
  injection b with q
  injection q with q1
  exact q1.symm
attribute [local go_sem] run_bits run_frombits run_store_float eqF
set_option maxHeartbeats 1000000 in
set_option maxRecDepth 20000 in
theorem decodes_no (v : Value) (L : List Nat) (hL : LB L) (hno : ∀ r : Raw, r.Ok → r.chk = 0 → L ≠ r.enc []) (w : World) (hB : Pk.ByRow w v L.length (Pk.gd L)) :
    Calls Tryz.prog 4 #[v] w fun e w' => e = .returned (.bool true) ∧ Old w w' := by
  have HD := hid (fun (W : World) (u : Old w W) => decode_no L hL hno W v (hB.up u))
  have HR := hid (show ∀ (W : World), Old w W → Calls Tryz.prog 12 #[v] W fun e w' => e = .returned (.tuple #[.agg #[.int .i64 0, .int .i64 0, .int .i64 0, .slice none 0 0, .slice none 0 0, .slice none 0 0], .bool false]) ∧ Old W w' from fun W u => (refDecode_any v L hL W (hB.up u)).mono fun e w' q => by
    rcases q with ⟨u', ⟨_, q⟩ | ⟨r, _, _, _, _, _, _, ⟨h1, h2, h3⟩, _⟩⟩
    · exact ⟨q, u'⟩
    · exact absurd h3 (hno r h1 h2))
  have HS := hid (show ∀ W, Calls Tryz.prog 13 #[.agg #[.int .i64 0, .int .i64 0, .int .i64 0, .slice none 0 0, .slice none 0 0, .slice none 0 0], .agg #[.int .i64 0, .int .i64 0, .int .i64 0, .slice none 0 0, .slice none 0 0, .slice none 0 0]] W fun e w' => e = .returned (.bool true) ∧ Old W w' from fun W => by
    have q := refSameG zeroS zeroS W (zeroS_ok W) (zeroS_ok W)
    rw [refB_zero] at q
    exact q)
  clear hB hno hL
  unfold NoPost at HD
  go_enter Tryz.func4, Tryz.ntmps4
  go_upto_region 3 with (first | (go_at_call 6; refine (coding_any _).mono ?_; rintro e w2 ⟨rfl, u2⟩; have U2 := hid u2; clear u2))
  go_upto_region 4 with (first | (go_at_call 11; refine (HD.out _ U2.out).mono ?_; rintro e w3 ⟨rfl, u3⟩; have U3 := hid (U2.out.trans u3); clear u3))
  generalize hw4 : w3.alloc (.cells #[.int .i64 0, .int .i64 0, .int .i64 0, .slice none 0 0, .slice none 0 0, .slice none 0 0] 28) = w4 at *
  generalize htb : w3.heap.size = tb at *
  obtain ⟨hT, hV⟩ := sub_new w3 0 0 0 _ _ _ w4 hw4 tb htb
  have T4 := hid hT
  have U4 := hid (U3.out.trans hV)
  clear hw4 htb hT hV U2 U3 HD
  go_upto_region 5 with (first | (go_at_call 12; refine (HR.out _ U4.out).mono ?_; rintro e w5 ⟨rfl, u5⟩; have U5 := hid (U4.out.trans u5); have T5 := hid (SubAt.old u5 T4.out); clear u5))
  generalize hw6 : w5.alloc (.cells #[.int .i64 0, .int .i64 0, .int .i64 0, .slice none 0 0, .slice none 0 0, .slice none 0 0] 28) = w6 at *
  have hV : Old w5 w6 := by rw [← hw6]; exact (Old.refl _).alloc _
  have T6 := hid (SubAt.old hV T5.out)
  have U6 := hid (U5.out.trans hV)
  clear hw6 hV T4 U4 T5 U5 HR
  obtain ⟨k0, k1, k2, k3, k4, k5⟩ := T6.out
  go_wp2_with (first | (go_at_call 13; refine (HS.out _).mono ?_; rintro e w7 ⟨rfl, u7⟩; have U7 := hid (U6.out.trans u7); clear u7))
  go_ret
  exact ⟨rfl, U7.out⟩
set_option maxHeartbeats 1000000 in
set_option maxRecDepth 20000 in
theorem decodes_yes (r : Raw) (hr : r.Ok) (hc : r.chk = 0) (hL : LB (r.enc [])) (v : Value) (w : World) (hB : Pk.ByRow w v (r.enc []).length (Pk.gd (r.enc []))) :
    Calls Tryz.prog 4 #[v] w fun e w' => e = .returned (.bool true) ∧ Old w w' := by
  have hOk : ∀ (W : World) (p1 p2 p3 : Option Addr) (q1 q2 q3 : Nat), FRow W (.slice p1 r.xs.length q1) r.xs.length (atN r.xs) → SRow W (.slice p2 (prs r.ys).length q2) (prs r.ys).length (atS (prs r.ys)) → FRow W (.slice p3 r.zs.length q3) r.zs.length (atN r.zs) → (r.sb p1 p2 p3 q1 q2 q3).Ok W := fun W p1 p2 p3 q1 q2 q3 h1 h2 h3 => ⟨h1, h2, h3, by have := hr.n1; simp only [Raw.sb]; omega, by have := hr.n2; simp only [Raw.sb]; omega, by have := hr.n3; simp only [Raw.sb]; omega⟩
  have HD := hid (fun (W : World) (u : Old w W) => decode_yes r hr hc W v (hB.up u))
  have HR := hid (show ∀ (W : World), Old w W → Calls Tryz.prog 12 #[v] W fun e w' => ∃ (p1 p2 p3 : Option Addr) (q1 q2 q3 : Nat), e = .returned (.tuple #[.agg #[.int .i64 r.s1, .int .i64 r.s2, .int .i64 r.s3, .slice p1 r.xs.length q1, .slice p2 (prs r.ys).length q2, .slice p3 r.zs.length q3], .bool true]) ∧ (FRow w' (.slice p1 r.xs.length q1) r.xs.length (atN r.xs) ∧ SRow w' (.slice p2 (prs r.ys).length q2) (prs r.ys).length (atS (prs r.ys)) ∧ FRow w' (.slice p3 r.zs.length q3) r.zs.length (atN r.zs)) ∧ Old W w' from fun W u => (refDecode_any v _ hL W (hB.up u)).mono fun e w' q => by
    rcases q with ⟨u', ⟨q, _⟩ | ⟨r', p1, p2, p3, q1, q2, q3, ⟨h1, h2, h3⟩, he, hh⟩⟩
    · exact absurd rfl (q r hr hc)
    · obtain rfl := raw_one hr h1 rfl h3
      exact ⟨p1, p2, p3, q1, q2, q3, he, hh, u'⟩)
  have HS := hid (show ∀ (W : World) (p1 p2 p3 : Option Addr) (q1 q2 q3 : Nat) (a1 a2 a3 : Option Addr) (c1 c2 c3 : Nat), (FRow W (.slice p1 r.xs.length q1) r.xs.length (atN r.xs) ∧ SRow W (.slice p2 (prs r.ys).length q2) (prs r.ys).length (atS (prs r.ys)) ∧ FRow W (.slice p3 r.zs.length q3) r.zs.length (atN r.zs)) → (FRow W (.slice a1 r.xs.length c1) r.xs.length (atN r.xs) ∧ SRow W (.slice a2 (prs r.ys).length c2) (prs r.ys).length (atS (prs r.ys)) ∧ FRow W (.slice a3 r.zs.length c3) r.zs.length (atN r.zs)) → Calls Tryz.prog 13 #[.agg #[.int .i64 r.s1, .int .i64 r.s2, .int .i64 r.s3, .slice p1 r.xs.length q1, .slice p2 (prs r.ys).length q2, .slice p3 r.zs.length q3], .agg #[.int .i64 r.s1, .int .i64 r.s2, .int .i64 r.s3, .slice a1 r.xs.length c1, .slice a2 (prs r.ys).length c2, .slice a3 r.zs.length c3]] W fun e w' => e = .returned (.bool true) ∧ Old W w' from fun W p1 p2 p3 q1 q2 q3 a1 a2 a3 c1 c2 c3 h k => by
    have q := refSameG (r.sb p1 p2 p3 q1 q2 q3) (r.sb a1 a2 a3 c1 c2 c3) W (hOk W p1 p2 p3 q1 q2 q3 h.1 h.2.1 h.2.2) (hOk W a1 a2 a3 c1 c2 c3 k.1 k.2.1 k.2.2)
    rw [refB_sb] at q
    exact q)
  clear hB hL hOk hc hr
  unfold DecPost at HD
  generalize r.xs.length = n1 at *
  generalize (prs r.ys).length = n2 at *
  generalize r.zs.length = n3 at *
  generalize atN r.xs = x1 at *
  generalize atN r.zs = x3 at *
  generalize atS (prs r.ys) = f2 at *
  generalize r.s1 = s1 at *
  generalize r.s2 = s2 at *
  generalize r.s3 = s3 at *
  go_enter Tryz.func4, Tryz.ntmps4
  go_upto_region 3 with (first | (go_at_call 6; refine (coding_any _).mono ?_; rintro e w2 ⟨rfl, u2⟩; have U2 := hid u2; clear u2))
  go_upto_region 4 with (first | (go_at_call 11; refine (HD.out _ U2.out).mono ?_; rintro e w3 ⟨p1, p2, p3, q1, q2, q3, rfl, h3, u3⟩; have H3 := hid h3; have U3 := hid (U2.out.trans u3); clear h3 u3))
  generalize hw4 : w3.alloc (.cells #[.int .i64 s1, .int .i64 s2, .int .i64 s3, .slice p1 n1 q1, .slice p2 n2 q2, .slice p3 n3 q3] 28) = w4 at *
  generalize htb : w3.heap.size = tb at *
  obtain ⟨hT, hV⟩ := sub_new w3 s1 s2 s3 _ _ _ w4 hw4 tb htb
  have T4 := hid hT
  have U4 := hid (U3.out.trans hV)
  have H4 := hid (show FRow w4 (.slice p1 n1 q1) n1 x1 ∧ SRow w4 (.slice p2 n2 q2) n2 f2 ∧ FRow w4 (.slice p3 n3 q3) n3 x3 from ⟨H3.out.1.old hV, H3.out.2.1.old hV, H3.out.2.2.old hV⟩)
  clear hw4 htb hT hV U2 U3 HD H3
  go_upto_region 5 with (first | (go_at_call 12; refine (HR.out _ U4.out).mono ?_; rintro e w5 ⟨a1, a2, a3, c1, c2, c3, rfl, h5, u5⟩; have H5 := hid h5; have G5 := hid (show FRow w5 (.slice p1 n1 q1) n1 x1 ∧ SRow w5 (.slice p2 n2 q2) n2 f2 ∧ FRow w5 (.slice p3 n3 q3) n3 x3 from ⟨H4.out.1.old u5, H4.out.2.1.old u5, H4.out.2.2.old u5⟩); have U5 := hid (U4.out.trans u5); have T5 := hid (SubAt.old u5 T4.out); clear u5 h5))
  generalize hw6 : w5.alloc (.cells #[.int .i64 s1, .int .i64 s2, .int .i64 s3, .slice a1 n1 c1, .slice a2 n2 c2, .slice a3 n3 c3] 28) = w6 at *
  generalize hub : w5.heap.size = ub at *
  obtain ⟨hT, hV⟩ := sub_new w5 s1 s2 s3 _ _ _ w6 hw6 ub hub
  have R6 := hid hT
  have T6 := hid (SubAt.old hV T5.out)
  have U6 := hid (U5.out.trans hV)
  have K6 := hid (HS.out w6 p1 p2 p3 q1 q2 q3 a1 a2 a3 c1 c2 c3 ⟨G5.out.1.old hV, G5.out.2.1.old hV, G5.out.2.2.old hV⟩ ⟨H5.out.1.old hV, H5.out.2.1.old hV, H5.out.2.2.old hV⟩)
  clear hw6 hub hT hV T4 U4 T5 U5 HR H4 H5 G5 HS
  obtain ⟨k0, k1, k2, k3, k4, k5⟩ := T6.out
  obtain ⟨j0, j1, j2, j3, j4, j5⟩ := R6.out
  go_wp2_with (first | (go_at_call 13; refine K6.out.mono ?_; rintro e w7 ⟨rfl, u7⟩; have U7 := hid (U6.out.trans u7); clear u7))
  go_ret
  exact ⟨rfl, U7.out⟩
theorem decodesLaw (v : Value) (w : World) (h : ∃ (n : Nat) (x : Nat → Nat), Pk.ByRow w v n x) :
    Calls Tryz.prog 4 #[v] w fun e w' => e = .returned (.bool true) ∧ Old w w' := by
  obtain ⟨n, x, h⟩ := h
  obtain ⟨L, hL, hB⟩ := row_list h
  by_cases q : ∃ r : Raw, r.Ok ∧ r.chk = 0 ∧ L = r.enc []
  · obtain ⟨r, hr, hc, rfl⟩ := q
    exact decodes_yes r hr hc hL v w hB
  · exact decodes_no v L hL (fun r hr hc e => q ⟨r, hr, hc, e⟩) w hB
end Go.Proofs.YtbkklemhhdejpaaGreat
