/- Bytes taken apart, plainly: numbers, keys, rows of keys, a submission; what is taken apart has just these bytes; no condition. -/
import Derived.Test.YtajoodkapiifcaaGreatScL
import Derived.Test.YtajoodkapiifcaaGreatScM
namespace Go.Proofs.YtajoodkapiifcaaGreat
open Go.RowKit Go.Lib
set_option linter.unusedVariables false
set_option linter.unusedSimpArgs false
set_option maxRecDepth 20000
def LB (L : List Nat) : Prop := ∀ b ∈ L, b < 256
theorem LB.gd {L : List Nat} (h : LB L) : ∀ i, i < L.length → Pk.gd L i < 256 := fun i hi => by
 have e : Pk.gd L i = L[i] := by simp [Pk.gd, hi]
 rw [e]; exact h _ (List.getElem_mem hi)
theorem LB.right {A B : List Nat} (h : LB (A ++ B)) : LB B := fun b hb => h b (List.mem_append_right A hb)
theorem gd_drop (L : List Nat) (k : Nat) : Pk.gd (L.drop k) = Pk.sh k (Pk.gd L) := by
 funext i
 simp [Pk.gd, Pk.sh]
theorem byL_take (L : List Nat) (k : Nat) (hk : k ≤ L.length) : Pk.byL k (Pk.gd L) = L.take k := by
 apply List.ext_getElem
 ·simp [Pk.byL, hk]
 ·intro i h1 h2
  simp only [Pk.byL_len] at h1
  have : i < L.length := by omega
  simp [Pk.byL, Pk.gd, this]
def tkN (L : List Nat) : Option (Int × List Nat) := if Pk.lnK (Pk.gd L) L.length = 0 then none else some (Pk.lnV (Pk.gd L) L.length, L.drop (Pk.lnK (Pk.gd L) L.length))
def tkK (L : List Nat) : Option (Nat × List Nat) := if Pk.lkK (Pk.gd L) L.length = 0 then none else some (Pk.lkV (Pk.gd L) L.length, L.drop (Pk.lkK (Pk.gd L) L.length))
def tkC (most : Nat) (L : List Nat) : Option (Nat × List Nat) := match tkN L with | none => none | some (z, B) => if 0 ≤ z ∧ z ≤ (most : Int) then some (z.toNat, B) else none
def tkKs : Nat → List Nat → Option (List Nat × List Nat)
 | 0, L => some ([], L)
 | n + 1, L => match tkK L with | none => none | some (x, B) => match tkKs n B with | none => none | some (xs, C) => some (x :: xs, C)
def tkR (most each : Nat) (L : List Nat) : Option (List Nat × List Nat) := match tkC most L with | none => none | some (n, B) => tkKs (n * each) B
theorem tkN_some {L B : List Nat} {z : Int} (hL : LB L) (h : tkN L = some (z, B)) : L = Pk.numL z ++ B ∧ (-9223372036854775808 ≤ z ∧ z ≤ 9223372036854775807) ∧ LB B := by
 unfold tkN at h
 split at h
 ·cases h
 ·rename_i hk
  cases h
  have hk2 : Pk.lnK (Pk.gd L) L.length ≤ L.length := Pk.ln_le _ _ 11 0
  refine ⟨?_, Pk.lnV_in _ _ hL.gd, fun b hb => hL b (List.mem_of_mem_drop hb)⟩
  rw [Pk.num_back _ _ hL.gd hk, byL_take L _ hk2, List.take_append_drop]
theorem tkN_at (z : Int) (h : -9223372036854775808 ≤ z ∧ z ≤ 9223372036854775807) (B : List Nat) : tkN (Pk.numL z ++ B) = some (z, B) := by
 obtain ⟨e1, e2⟩ := Pk.num_at_head z h.1 h.2 (Pk.gd (Pk.numL z ++ B)) (Pk.numL z ++ B).length (by simp) (fun i hi => Pk.gd_left _ _ _ hi)
 have hp := (Pk.num_len z h.1 h.2).1
 unfold tkN
 rw [e1, e2, if_neg (by omega), List.drop_left]
theorem tkK_some {L B : List Nat} {x : Nat} (hL : LB L) (h : tkK L = some (x, B)) : L = keyB x ++ B ∧ (Fl.W x ∧ Fl.canon x = x) ∧ LB B := by
 unfold tkK at h
 split at h
 ·cases h
 ·rename_i hk
  cases h
  have hc : 8 ≤ L.length ∧ Fl.isCode (Pk.lkC (Pk.gd L) 8) = true := by
   unfold Pk.lkK at hk
   by_cases q : 8 ≤ L.length ∧ Fl.isCode (Pk.lkC (Pk.gd L) 8) = true
   ·exact q
   ·rw [if_neg q] at hk; exact absurd rfl hk
  have e1 : Pk.lkK (Pk.gd L) L.length = 8 := by unfold Pk.lkK; rw [if_pos hc]
  have e2 : Pk.lkV (Pk.gd L) L.length = Fl.of (Pk.lkC (Pk.gd L) 8) := by unfold Pk.lkV; rw [if_pos hc]
  have hW : Fl.W (Pk.lkC (Pk.gd L) 8) := by
   have := Pk.lkC_lt (Pk.gd L) L.length hL.gd 8 hc.1
   unfold Fl.W; exact Nat.lt_of_lt_of_le this (by decide)
  rw [e1, e2]
  refine ⟨?_, ⟨Fl.of_lt _ hW, Pk.canon_of _ hW hc.2⟩, fun b hb => hL b (List.mem_of_mem_drop hb)⟩
  unfold keyB
  rw [Fl.code_of _ hW hc.2, Pk.key_back _ (fun i hi => hL.gd i (by omega)), byL_take L 8 hc.1, List.take_append_drop]
theorem tkK_at (x : Nat) (hx : Fl.W x) (hc : Fl.canon x = x) (B : List Nat) : tkK (keyB x ++ B) = some (x, B) := by
 have hl : (keyB x ++ B).length = 8 + B.length := by rw [List.length_append, keyB_len]
 have e0 : Pk.lkC (Pk.gd (keyB x ++ B)) 8 = Fl.code x := Pk.key_read (Fl.code x) (by have := Fl.code_le x hx; omega) _ (fun i hi => Pk.gd_left _ _ _ (by rw [keyB_len]; exact hi))
 have hI := Fl.isCode_code x hx
 have ek : Pk.lkK (Pk.gd (keyB x ++ B)) (keyB x ++ B).length = 8 := by
  unfold Pk.lkK
  rw [e0, hI, if_pos ⟨by omega, rfl⟩]
 have ev : Pk.lkV (Pk.gd (keyB x ++ B)) (keyB x ++ B).length = x := by
  unfold Pk.lkV
  rw [e0, hI, if_pos ⟨by omega, rfl⟩, Fl.of_code x hx, hc]
 unfold tkK
 rw [ek, ev, if_neg (by omega), show (8 : Nat) = (keyB x).length from (keyB_len x).symm, List.drop_left]
theorem tkC_some {L B : List Nat} {most n : Nat} (hL : LB L) (h : tkC most L = some (n, B)) : L = Pk.numL (n : Int) ++ B ∧ n ≤ most ∧ LB B := by
 unfold tkC at h
 cases e : tkN L with
 | none => rw [e] at h; cases h
 | some p =>
  obtain ⟨z, C⟩ := p
  rw [e] at h
  simp only at h
  split at h
  ·rename_i q
   cases h
   obtain ⟨a, b, c⟩ := tkN_some hL e
   refine ⟨?_, by omega, c⟩
   rw [show ((z.toNat : Nat) : Int) = z by omega]
   exact a
  ·cases h
theorem tkC_at (most n : Nat) (hn : n ≤ most) (hm : most ≤ 1000000) (B : List Nat) : tkC most (Pk.numL (n : Int) ++ B) = some (n, B) := by
 unfold tkC
 rw [tkN_at _ ⟨by omega, by omega⟩]
 simp only
 rw [if_pos ⟨by omega, by omega⟩]
 simp
theorem tkKs_some : ∀ {n : Nat} {L B xs : List Nat}, LB L → tkKs n L = some (xs, B) → L = xs.flatMap keyB ++ B ∧ xs.length = n ∧ (∀ x ∈ xs, Fl.W x ∧ Fl.canon x = x) ∧ LB B
 | 0, L, B, xs, hL, h => by cases h; exact ⟨rfl, rfl, (fun x hx => by cases hx), hL⟩
 | n + 1, L, B, xs, hL, h => by
  unfold tkKs at h
  cases e : tkK L with
  | none => rw [e] at h; cases h
  | some p =>
   obtain ⟨x, C⟩ := p
   rw [e] at h
   simp only at h
   cases e2 : tkKs n C with
   | none => rw [e2] at h; cases h
   | some q =>
    obtain ⟨ys, E⟩ := q
    rw [e2] at h
    cases h
    obtain ⟨a, b, c⟩ := tkK_some hL e
    obtain ⟨a2, b2, c2, d2⟩ := tkKs_some c e2
    refine ⟨?_, by rw [List.length_cons, b2], fun y hy => ?_, d2⟩
    ·rw [List.flatMap_cons, List.append_assoc, ← a2]; exact a
    ·rcases List.mem_cons.1 hy with rfl | hy
     ·exact b
     ·exact c2 y hy
theorem tkKs_at : ∀ (xs : List Nat) (B : List Nat), (∀ x ∈ xs, Fl.W x ∧ Fl.canon x = x) → tkKs xs.length (xs.flatMap keyB ++ B) = some (xs, B)
 | [], B, h => rfl
 | x :: t, B, h => by
  have hx := h x (List.mem_cons_self ..)
  rw [List.flatMap_cons, List.append_assoc, List.length_cons]
  unfold tkKs
  rw [tkK_at x hx.1 hx.2]
  simp only
  rw [tkKs_at t B (fun y hy => h y (List.mem_cons_of_mem _ hy))]
theorem tkR_some {most each : Nat} {L B xs : List Nat} (hL : LB L) (h : tkR most each L = some (xs, B)) : ∃ n, n ≤ most ∧ xs.length = n * each ∧ L = Pk.numL (n : Int) ++ (xs.flatMap keyB ++ B) ∧ (∀ x ∈ xs, Fl.W x ∧ Fl.canon x = x) ∧ LB B := by
 unfold tkR at h
 cases e : tkC most L with
 | none => rw [e] at h; cases h
 | some p =>
  obtain ⟨n, C⟩ := p
  rw [e] at h
  obtain ⟨a, b, c⟩ := tkC_some hL e
  obtain ⟨a2, b2, c2, d2⟩ := tkKs_some c h
  exact ⟨n, b, b2, by rw [← a2]; exact a, c2, d2⟩
theorem tkR_at (most each n : Nat) (hn : n ≤ most) (hm : most ≤ 1000000) (xs B : List Nat) (hl : xs.length = n * each) (hx : ∀ x ∈ xs, Fl.W x ∧ Fl.canon x = x) : tkR most each (Pk.numL (n : Int) ++ (xs.flatMap keyB ++ B)) = some (xs, B) := by
 unfold tkR
 rw [tkC_at most n hn hm]
 simp only
 rw [← hl]
 exact tkKs_at xs B hx
def prs : List Nat → List Sp
 | a :: b :: t => ⟨a, b, false, false⟩ :: prs t
 | _ => []
theorem prs_len : ∀ (n : Nat) (y : List Nat), y.length = n * 2 → (prs y).length = n
 | 0, [], _ => rfl
 | 0, _ :: _, h => by simp at h
 | n + 1, [], h => by simp at h
 | n + 1, [_], h => by simp at h; omega
 | n + 1, a :: b :: t, h => by
  show (prs t).length + 1 = n + 1
  rw [prs_len n t (by simp at h; omega)]
theorem prs_flat : ∀ (n : Nat) (y : List Nat), y.length = n * 2 → (prs y).flatMap sB = y.flatMap keyB
 | 0, [], _ => rfl
 | 0, _ :: _, h => by simp at h
 | n + 1, [], h => by simp at h
 | n + 1, [_], h => by simp at h; omega
 | n + 1, a :: b :: t, h => by
  show (⟨a, b, false, false⟩ :: prs t : List Sp).flatMap sB = _
  rw [List.flatMap_cons, List.flatMap_cons, List.flatMap_cons, prs_flat n t (by simp at h; omega)]
  simp [sB, List.append_assoc]
theorem prs_all {P : Nat → Prop} : ∀ (n : Nat) (y : List Nat), y.length = n * 2 → (∀ x ∈ y, P x) → ∀ s ∈ prs y, (P s.a ∧ P s.b) ∧ s.p = false ∧ s.q = false
 | 0, [], _, _ => fun s hs => by cases hs
 | 0, _ :: _, h, _ => by simp at h
 | n + 1, [], h, _ => by simp at h
 | n + 1, [_], h, _ => by simp at h; omega
 | n + 1, a :: b :: t, h, hP => fun s hs => by
  rcases List.mem_cons.1 (show s ∈ (⟨a, b, false, false⟩ :: prs t : List Sp) from hs) with rfl | hs
  ·exact ⟨⟨hP a (by simp), hP b (by simp)⟩, rfl, rfl⟩
  ·exact prs_all n t (by simp at h; omega) (fun x hx => hP x (by simp [hx])) s hs
theorem rl_atN (L : List Nat) : rl (atN L) L.length = L := by
 apply List.ext_getElem
 ·simp [rl]
 ·intro i h1 h2
  simp [rl, atN, h2]
theorem rl_atS (L : List Sp) : rl (atS L) L.length = L := by
 apply List.ext_getElem
 ·simp [rl]
 ·intro i h1 h2
  simp [rl, atS, h2]
structure Raw where
 s1 : Int
 s2 : Int
 s3 : Int
 xs : List Nat
 ys : List Nat
 zs : List Nat
def tkSub (L : List Nat) : Option (Raw × List Nat) :=
 match tkN L with
 | none => none
 | some (s1, A) => match tkN A with
  | none => none
  | some (s2, B) => match tkN B with
   | none => none
   | some (s3, C) => match tkR 16 1 C with
    | none => none
    | some (xs, D) => match tkR 8 2 D with
     | none => none
     | some (ys, E) => match tkR 16 1 E with
      | none => none
      | some (zs, F) => some (⟨s1, s2, s3, xs, ys, zs⟩, F)
structure Raw.Ok (r : Raw) : Prop where
 r1 : -9223372036854775808 ≤ r.s1 ∧ r.s1 ≤ 9223372036854775807
 r2 : -9223372036854775808 ≤ r.s2 ∧ r.s2 ≤ 9223372036854775807
 r3 : -9223372036854775808 ≤ r.s3 ∧ r.s3 ≤ 9223372036854775807
 n1 : r.xs.length ≤ 16
 n2 : (prs r.ys).length ≤ 8
 l2 : r.ys.length = (prs r.ys).length * 2
 n3 : r.zs.length ≤ 16
 x1 : ∀ x ∈ r.xs, Fl.W x ∧ Fl.canon x = x
 x2 : ∀ x ∈ r.ys, Fl.W x ∧ Fl.canon x = x
 x3 : ∀ x ∈ r.zs, Fl.W x ∧ Fl.canon x = x
def Raw.enc (r : Raw) (B : List Nat) : List Nat := Pk.numL r.s1 ++ (Pk.numL r.s2 ++ (Pk.numL r.s3 ++ (Pk.numL (r.xs.length : Int) ++ (r.xs.flatMap keyB ++ (Pk.numL ((prs r.ys).length : Int) ++ (r.ys.flatMap keyB ++ (Pk.numL (r.zs.length : Int) ++ (r.zs.flatMap keyB ++ B))))))))
theorem Raw.enc_app (r : Raw) (B T : List Nat) : r.enc B ++ T = r.enc (B ++ T) := by simp [Raw.enc, List.append_assoc]
theorem tkSub_some {L B : List Nat} {r : Raw} (hL : LB L) (h : tkSub L = some (r, B)) : L = r.enc B ∧ r.Ok ∧ LB B := by
 unfold tkSub at h
 cases e1 : tkN L with
 | none => rw [e1] at h; cases h
 | some p1 =>
 obtain ⟨s1, A1⟩ := p1
 rw [e1] at h; simp only at h
 cases e2 : tkN A1 with
 | none => rw [e2] at h; cases h
 | some p2 =>
 obtain ⟨s2, A2⟩ := p2
 rw [e2] at h; simp only at h
 cases e3 : tkN A2 with
 | none => rw [e3] at h; cases h
 | some p3 =>
 obtain ⟨s3, A3⟩ := p3
 rw [e3] at h; simp only at h
 cases e4 : tkR 16 1 A3 with
 | none => rw [e4] at h; cases h
 | some p4 =>
 obtain ⟨xs, A4⟩ := p4
 rw [e4] at h; simp only at h
 cases e5 : tkR 8 2 A4 with
 | none => rw [e5] at h; cases h
 | some p5 =>
 obtain ⟨ys, A5⟩ := p5
 rw [e5] at h; simp only at h
 cases e6 : tkR 16 1 A5 with
 | none => rw [e6] at h; cases h
 | some p6 =>
 obtain ⟨zs, A6⟩ := p6
 rw [e6] at h
 cases h
 obtain ⟨a1, b1, c1⟩ := tkN_some hL e1
 obtain ⟨a2, b2, c2⟩ := tkN_some c1 e2
 obtain ⟨a3, b3, c3⟩ := tkN_some c2 e3
 obtain ⟨m1, b4, l4, a4, x4, c4⟩ := tkR_some c3 e4
 obtain ⟨m2, b5, l5, a5, x5, c5⟩ := tkR_some c4 e5
 obtain ⟨m3, b6, l6, a6, x6, c6⟩ := tkR_some c5 e6
 have q2 := prs_len m2 ys l5
 rw [Nat.mul_one] at l4 l6
 refine ⟨?_, ⟨b1, b2, b3, by simp only; omega, by simp only; omega, by simp only; omega, by simp only; omega, x4, x5, x6⟩, c6⟩
 unfold Raw.enc
 simp only
 rw [l4, q2, l6, ← a6, ← a5, ← a4, ← a3, ← a2]
 exact a1
theorem tkSub_at (r : Raw) (h : r.Ok) (B : List Nat) : tkSub (r.enc B) = some (r, B) := by
 unfold tkSub Raw.enc
 rw [tkN_at _ h.r1]; simp only
 rw [tkN_at _ h.r2]; simp only
 rw [tkN_at _ h.r3]; simp only
 rw [tkR_at 16 1 _ h.n1 (by omega) _ _ (by omega) h.x1]; simp only
 rw [tkR_at 8 2 _ h.n2 (by omega) _ _ h.l2 h.x2]; simp only
 rw [tkR_at 16 1 _ h.n3 (by omega) _ _ (by omega) h.x3]
theorem Raw.enc_bytes (r : Raw) (h : r.Ok) (B : List Nat) : r.enc B = bytesS r.s1 r.s2 r.s3 r.xs.length (prs r.ys).length r.zs.length (atN r.xs) (atN r.zs) (atS (prs r.ys)) B := by
 unfold Raw.enc bytesS kRest sRest
 rw [List.drop_zero, List.drop_zero, List.drop_zero, rl_atN, rl_atN, rl_atS, prs_flat _ r.ys h.l2]
theorem atN_mem (L : List Nat) (i : Nat) (hi : i < L.length) : atN L i ∈ L := by rw [atN_get _ i hi]; exact List.getElem_mem hi
theorem atS_mem (L : List Sp) (i : Nat) (hi : i < L.length) : atS L i ∈ L := by
 have e : atS L i = L[i] := by simp [atS, hi]
 rw [e]; exact List.getElem_mem hi
theorem Raw.Ok.f1 {r : Raw} (h : r.Ok) : ∀ i, i < r.xs.length → Fl.W (atN r.xs i) ∧ Fl.canon (atN r.xs i) = atN r.xs i := fun i hi => h.x1 _ (atN_mem _ i hi)
theorem Raw.Ok.f3 {r : Raw} (h : r.Ok) : ∀ i, i < r.zs.length → Fl.W (atN r.zs i) ∧ Fl.canon (atN r.zs i) = atN r.zs i := fun i hi => h.x3 _ (atN_mem _ i hi)
theorem Raw.Ok.f2 {r : Raw} (h : r.Ok) : (∀ i, i < (prs r.ys).length → (Fl.W (atS (prs r.ys) i).a ∧ Fl.canon (atS (prs r.ys) i).a = (atS (prs r.ys) i).a) ∧ (Fl.W (atS (prs r.ys) i).b ∧ Fl.canon (atS (prs r.ys) i).b = (atS (prs r.ys) i).b)) ∧ ∀ i, i < (prs r.ys).length → (atS (prs r.ys) i).p = false ∧ (atS (prs r.ys) i).q = false :=
 ⟨fun i hi => (prs_all _ r.ys h.l2 h.x2 _ (atS_mem _ i hi)).1, fun i hi => (prs_all _ r.ys h.l2 h.x2 _ (atS_mem _ i hi)).2⟩
def Raw.chk (r : Raw) : Int := chkV r.s1 r.s2 r.s3 r.xs.length (prs r.ys).length r.zs.length (atN r.xs) (atN r.zs) (atS (prs r.ys))
end Go.Proofs.YtajoodkapiifcaaGreat
