/- The document's client of layer 21 as it lies: rows of items; no condition. -/
import Derived.Test.YthjfkmjeppdcnaaGreatKl20
import Derived.Test.YthjfkmjeppdcnaaGreatClK
namespace Go.Proofs.YthjfkmjeppdcnaaGreat
open Go.RowKit Go.Lib
set_option linter.unusedVariables false
set_option linter.unusedSimpArgs false
set_option maxRecDepth 20000
structure Dt where
 q : Int
 a : Option Addr
 n : Nat
 c : Nat
 B : List Nat
abbrev Dt.v (d : Dt) : Value := .slice d.a d.n d.c
def dtc (d : Dt) : List Value := [.int .i64 d.q, .slice d.a d.n d.c]
def dtcs (L : List Dt) : List Value := L.flatMap dtc
theorem dtcs_app (L M : List Dt) : dtcs L ++ dtcs M = dtcs (L ++ M) := by simp [dtcs]
theorem dtcs_one (L : List Dt) : ∀ u ∈ dtcs L, u.oneCell' = true := by
 intro u hu
 obtain ⟨k, _, h⟩ := List.mem_flatMap.1 hu
 simp only [dtc, List.mem_cons, List.not_mem_nil, or_false] at h
 rcases h with rfl | rfl <;> rfl
def OwnD (base : Nat) (w : World) (v : Value) (L : List Dt) : Prop := w.ownsRow base 63 2 v L.length (dtcs L)
theorem OwnD.len {base : Nat} {w : World} {v : Value} {L : List Dt} (h : OwnD base w v L) : ∃ a c, v = .slice a L.length c := by
 rcases h.2 with ⟨rfl, e⟩ | ⟨g, cap, cur, rfl, _⟩
 ·exact ⟨none, 0, by rw [e]⟩
 ·exact ⟨_, _, rfl⟩
theorem OwnD.at {base : Nat} {w : World} {v : Value} {L : List Dt} (h : OwnD base w v L) (i : Nat) (hi : i < L.length) : ∃ g cap, v = .slice (some ⟨g, 0, none⟩) L.length cap ∧ w.cell? ⟨g, i * 2, none⟩ = some (.int .i64 L[i].q) ∧ w.cell? ⟨g, i * 2 + 1, none⟩ = some (.slice L[i].a L[i].n L[i].c) := by
 have h2 : w.ownsRow base 63 2 v L.length (dtcs L) := h
 rcases h2.2 with ⟨_, e⟩ | ⟨g, cap, cur, rfl, hb, hg, hnc, hcm, hcs, htk⟩
 ·omega
 ·have H : ∀ j, j < 2 → w.cell? ⟨g, i * 2 + j, none⟩ = (dtc L[i])[j]? := fun j hj => by
    rw [h2.cellAt (i * 2 + j) (by omega)]; exact flat_get dtc 2 (fun _ => rfl) L i j hi hj
  exact ⟨g, cap, rfl, H 0 (by omega), H 1 (by omega)⟩
theorem OwnD.empty {base g : Nat} {w : World} (hb : base ≤ w.heap.size) (hg : w.heap.size = g) : OwnD base (w.alloc (.cells #[] 63)) (.slice (some ⟨g, 0, none⟩) 0 0) [] := by
 subst hg
 exact World.ownsRow_made w #[] 0 hb (by unfold maxLen; omega) rfl
theorem infoDt : (Tryz.prog.info? 63).map (fun i => (i.zero, i.size, i.bytes)) = some (some (.agg #[.int .i64 0, .slice none 0 0]), 2, 32) := by kernel_rfl
theorem wp_appD {ops : Array Oper} {rest : List Oper} {o : Oper} {a : Act} {Q : Exit → Act → World → Prop} {w : World} (hgd : o.guard = none) (s x : Operand)
    (ho : o.op = .call { callee := .builtin .append, args := #[s, x], argTypes := #[53, 53] }) (base : Nat) (v : Value) (L : List Dt) (g : Nat) (d : Dt)
    (hs : a.eval s = v) (hx : a.eval x = .slice (some ⟨g, 0, none⟩) 1 1) (hown : OwnD base w v L) (hc : w.heap[g]? = some (.cells #[.int .i64 d.q, .slice d.a d.n d.c] 63 (0, 0))) (hb : L.length ≤ 1048576) (hbase : base ≤ w.heap.size)
    (h : ∀ v' w', OwnD base w' v' (L ++ [d]) → w.grownBy w' v.ownBlock → (v'.ownBlock = v.ownBlock ∨ v'.ownBlock = some w.heap.size) → wpList Tryz.prog ops Q rest (a.put o.dst v') w') : wpList Tryz.prog ops Q (o :: rest) a w := by
 obtain ⟨i0, hi, hz0, hz1, hz2⟩ := Ci.info_parts infoDt
 refine wpList_append_own_at w hgd s x 53 ho base 63 i0 _ 2 32 Tryz.underlying53 hi hz0 hz1 hz2 rfl (by decide) v L.length (dtcs L) hs hown ⟨g, 0, none⟩ 1 1 (dtcs [d]) hx rfl ?_ (dtcs_one _) (by unfold maxLen; omega) (by omega) hbase ?_
 ·intro j u hj
  rw [Go.WideShapes.add_plain, Nat.zero_add, Go.Joins.cell_of_block hc]
  simpa [dtcs, dtc] using hj
 ·intro v' w' h1 h2 h3 h4
  rw [dtcs_app] at h1
  exact h v' w' (by unfold OwnD; rw [List.length_append]; exact h1) h2 h4
def rdc (r : Int × Int × Int) : List Value := [.int .i64 r.1, .int .i64 r.2.2, .int .i64 r.2.1]
def rdcs (L : List (Int × Int × Int)) : List Value := L.flatMap rdc
theorem rdcs_len (L : List (Int × Int × Int)) : (rdcs L).length = L.length * 3 := flat_len rdc 3 (fun _ => rfl) L
theorem rdcs_app (L M : List (Int × Int × Int)) : rdcs L ++ rdcs M = rdcs (L ++ M) := by simp [rdcs]
theorem rdcs_one (L : List (Int × Int × Int)) : ∀ u ∈ rdcs L, u.oneCell' = true := by
 intro u hu
 obtain ⟨k, _, h⟩ := List.mem_flatMap.1 hu
 simp only [rdc, List.mem_cons, List.not_mem_nil, or_false] at h
 rcases h with rfl | rfl | rfl <;> rfl
def OwnQ (base : Nat) (w : World) (v : Value) (L : List (Int × Int × Int)) : Prop := w.ownsRow base 65 3 v L.length (rdcs L)
theorem OwnQ.len {base : Nat} {w : World} {v : Value} {L : List (Int × Int × Int)} (h : OwnQ base w v L) : ∃ a c, v = .slice a L.length c := by
 rcases h.2 with ⟨rfl, e⟩ | ⟨g, cap, cur, rfl, _⟩
 ·exact ⟨none, 0, by rw [e]⟩
 ·exact ⟨_, _, rfl⟩
theorem OwnQ.at {base : Nat} {w : World} {v : Value} {L : List (Int × Int × Int)} (h : OwnQ base w v L) (i : Nat) (hi : i < L.length) : ∃ g cap, v = .slice (some ⟨g, 0, none⟩) L.length cap ∧ w.cell? ⟨g, i * 3, none⟩ = some (.int .i64 L[i].1) ∧ w.cell? ⟨g, i * 3 + 1, none⟩ = some (.int .i64 L[i].2.2) ∧ w.cell? ⟨g, i * 3 + 2, none⟩ = some (.int .i64 L[i].2.1) := by
 have h2 : w.ownsRow base 65 3 v L.length (rdcs L) := h
 rcases h2.2 with ⟨_, e⟩ | ⟨g, cap, cur, rfl, hb, hg, hnc, hcm, hcs, htk⟩
 ·omega
 ·have H : ∀ j, j < 3 → w.cell? ⟨g, i * 3 + j, none⟩ = (rdc L[i])[j]? := fun j hj => by
    rw [h2.cellAt (i * 3 + j) (by omega)]; exact flat_get rdc 3 (fun _ => rfl) L i j hi hj
  exact ⟨g, cap, rfl, H 0 (by omega), H 1 (by omega), H 2 (by omega)⟩
theorem OwnQ.empty {base g : Nat} {w : World} (hb : base ≤ w.heap.size) (hg : w.heap.size = g) : OwnQ base (w.alloc (.cells #[] 65)) (.slice (some ⟨g, 0, none⟩) 0 0) [] := by
 subst hg
 exact World.ownsRow_made w #[] 0 hb (by unfold maxLen; omega) rfl
theorem infoQr : (Tryz.prog.info? 65).map (fun i => (i.zero, i.size, i.bytes)) = some (some (.agg #[.int .i64 0, .int .i64 0, .int .i64 0]), 3, 24) := by kernel_rfl
theorem wp_appQ {ops : Array Oper} {rest : List Oper} {o : Oper} {a : Act} {Q : Exit → Act → World → Prop} {w : World} (hgd : o.guard = none) (s x : Operand)
    (ho : o.op = .call { callee := .builtin .append, args := #[s, x], argTypes := #[54, 54] }) (base : Nat) (v : Value) (L : List (Int × Int × Int)) (g : Nat) (r : Int × Int × Int)
    (hs : a.eval s = v) (hx : a.eval x = .slice (some ⟨g, 0, none⟩) 1 1) (hown : OwnQ base w v L) (hc : w.heap[g]? = some (.cells #[.int .i64 r.1, .int .i64 r.2.2, .int .i64 r.2.1] 65 (0, 0))) (hb : L.length ≤ 1099511627776) (hbase : base ≤ w.heap.size)
    (h : ∀ v' w', OwnQ base w' v' (L ++ [r]) → w.grownBy w' v.ownBlock → (v'.ownBlock = v.ownBlock ∨ v'.ownBlock = some w.heap.size) → wpList Tryz.prog ops Q rest (a.put o.dst v') w') : wpList Tryz.prog ops Q (o :: rest) a w := by
 obtain ⟨i0, hi, hz0, hz1, hz2⟩ := Ci.info_parts infoQr
 refine wpList_append_own_at w hgd s x 54 ho base 65 i0 _ 3 24 Tryz.underlying54 hi hz0 hz1 hz2 rfl (by decide) v L.length (rdcs L) hs hown ⟨g, 0, none⟩ 1 1 (rdcs [r]) hx rfl ?_ (rdcs_one _) (by unfold maxLen; omega) (by omega) hbase ?_
 ·intro j u hj
  rw [Go.WideShapes.add_plain, Nat.zero_add, Go.Joins.cell_of_block hc]
  simpa [rdcs, rdc] using hj
 ·intro v' w' h1 h2 h3 h4
  rw [rdcs_app] at h1
  exact h v' w' (by unfold OwnQ; rw [List.length_append]; exact h1) h2 h4
structure DcAt (base : Nat) (mv ov rv : Value) (D : List Dt) (s : Cs) (w : World) : Prop where
 mem : Ci.OwnI base w mv s.ms
 opn : OwnD base w ov D
 res : OwnQ base w rv s.rs
 by_ : ∀ d ∈ D, ∃ b, base ≤ b ∧ Pk.OwnL b w d.v d.B
 eq : D.map (fun d => (d.q, d.B)) = s.op.map (fun p => (p.1, p.2.enc))
theorem DcAt.old {base : Nat} {mv ov rv : Value} {D : List Dt} {s : Cs} {w w' : World} (h : DcAt base mv ov rv D s w) (u : Old w w') : DcAt base mv ov rv D s w' :=
 ⟨h.mem.up u, own_old h.opn u, own_old h.res u, fun d q => by obtain ⟨b, hb, o⟩ := h.by_ d q; exact ⟨b, hb, OwnL.old' o u⟩, h.eq⟩
theorem DcAt.len {base : Nat} {mv ov rv : Value} {D : List Dt} {s : Cs} {w : World} (h : DcAt base mv ov rv D s w) : D.length = s.op.length := by
 have := congrArg List.length h.eq
 simpa using this
def dbl (mv ov rv : Value) (D : List Dt) : List Nat := mv.ownBlock.toList ++ (ov.ownBlock.toList ++ (rv.ownBlock.toList ++ D.flatMap fun d => d.v.ownBlock.toList))
theorem mem_dbl {mv ov rv : Value} {D : List Dt} {g : Nat} : g ∈ dbl mv ov rv D ↔ mv.ownBlock = some g ∨ ov.ownBlock = some g ∨ rv.ownBlock = some g ∨ ∃ d ∈ D, d.v.ownBlock = some g := by
 simp [dbl, Option.mem_toList]
theorem DcAt.lt {base : Nat} {mv ov rv : Value} {D : List Dt} {s : Cs} {w : World} (h : DcAt base mv ov rv D s w) : ∀ g ∈ dbl mv ov rv D, base ≤ g ∧ g < w.heap.size := fun g q => by
 rcases mem_dbl.1 q with z | z | z | ⟨d, hd, z⟩
 ·exact World.ownsRow.lt (show w.ownsRow base 3 1 mv s.ms.length (Ci.ils s.ms) from h.mem) g z
 ·exact World.ownsRow.lt h.opn g z
 ·exact World.ownsRow.lt h.res g z
 ·obtain ⟨b, hb, o⟩ := h.by_ d hd
  have := OwnL.lt' o g z
  omega
theorem OwnL.chg' {base : Nat} {S : List Nat} {w w' : World} {v : Value} {L : List Nat} (h : Pk.OwnL base w v L) (u : Chg S w w') (hn : ∀ g, v.ownBlock = some g → g ∉ S) : Pk.OwnL base w' v L := by
 refine ⟨⟨h.own.1, ?_⟩, h.lt⟩
 rcases h.own.2 with e | ⟨g, cap, cur, e, hb', hg, r⟩
 ·exact .inl e
 ·subst e
  exact .inr ⟨g, cap, cur, rfl, hb', u.heapAt hg (hn g rfl), r⟩
theorem DcAt.chg {base : Nat} {mv ov rv : Value} {D : List Dt} {s : Cs} {S : List Nat} {w w' : World} (h : DcAt base mv ov rv D s w) (u : Chg S w w') (hn : ∀ g ∈ dbl mv ov rv D, g ∉ S) : DcAt base mv ov rv D s w' :=
 ⟨h.mem.chg u (fun g z => hn g (mem_dbl.2 (.inl z))), own_chg h.opn u (fun g z => hn g (mem_dbl.2 (.inr (.inl z)))), own_chg h.res u (fun g z => hn g (mem_dbl.2 (.inr (.inr (.inl z))))), fun d q => by obtain ⟨b, hb, o⟩ := h.by_ d q; exact ⟨b, hb, OwnL.chg' o u (fun g z => hn g (mem_dbl.2 (.inr (.inr (.inr ⟨d, q, z⟩)))))⟩, h.eq⟩
theorem rcanonO_ok (s : Sb) (w : World) (hs : s.Ok w) (hc : canK s = 0) : Calls Tryz.prog 29 #[.agg #[.int .i64 s.s1, .int .i64 s.s2, .int .i64 s.s3, .slice s.a1 s.n1 s.c1, .slice s.a2 s.n2 s.c2, .slice s.a3 s.n3 s.c3]] w fun e w' => ∃ (p1 p2 p3 : Option Addr) (q1 q2 q3 : Nat), e = .returned (.tuple #[.agg #[.int .i64 s.s1, .int .i64 s.s2, .int .i64 s.s3, .slice p1 (mkC s p1 p2 p3 q1 q2 q3).n1 q1, .slice p2 (mkC s p1 p2 p3 q1 q2 q3).n2 q2, .slice p3 (mkC s p1 p2 p3 q1 q2 q3).n3 q3], .int .i64 0]) ∧ (mkC s p1 p2 p3 q1 q2 q3).Ok w' ∧ Old w w' := by
 have hl1 := Fl.sortL_len s.x1 s.n1
 have hl3 := Fl.sortL_len s.x3 s.n3
 have hk := Fl.dfold_ok _ (Fl.cdl s.f2 s.n2) rfl (Fl.cdl_RV s.f2 s.n2 hs.h2.ws')
 have hl2 : ((Fl.dfold (Fl.cdl s.f2 s.n2)).map Fl.spo).length ≤ s.n2 := by rw [List.length_map]; have := hk.2.2; have := Fl.cdl_len s.f2 s.n2; omega
 have b1 := hs.b1
 have b2 := hs.b2
 have b3 := hs.b3
 refine (refCanon_any s.s1 s.s2 s.s3 s.a1 s.a2 s.a3 s.n1 s.n2 s.n3 s.c1 s.c2 s.c3 s.x1 s.x3 s.f2 b1 b2 b3 w hs.h1 hs.h2 hs.h3).mono ?_
 intro e w' h
 unfold CanPost at h
 obtain ⟨p1, p2, p3, q1, q2, q3, he, ⟨o1, o2, o3⟩, u⟩ := h
 unfold canK at hc
 rw [if_pos hc] at he
 refine ⟨p1, p2, p3, q1, q2, q3, he, ⟨o1.row (sortL_W _ _ hs.h1.ws') (by omega), o2.row (fun t ht => by obtain ⟨r, hr, rfl⟩ := List.mem_map.1 ht; exact Fl.spo_W (hk.1.2 r hr)) (by omega), o3.row (sortL_W _ _ hs.h3.ws') (by omega), ?_, ?_, ?_⟩, u⟩
 ·show (Fl.sortL s.x1 s.n1).length ≤ _; omega
 ·show ((Fl.dfold (Fl.cdl s.f2 s.n2)).map Fl.spo).length ≤ _; omega
 ·show (Fl.sortL s.x3 s.n3).length ≤ _; omega
theorem rcanonO_no (s : Sb) (w : World) (hs : s.Ok w) (hc : canK s ≠ 0) : Calls Tryz.prog 29 #[.agg #[.int .i64 s.s1, .int .i64 s.s2, .int .i64 s.s3, .slice s.a1 s.n1 s.c1, .slice s.a2 s.n2 s.c2, .slice s.a3 s.n3 s.c3]] w fun e w' => e = .returned (.tuple #[.agg #[.int .i64 0, .int .i64 0, .int .i64 0, .slice none 0 0, .slice none 0 0, .slice none 0 0], .int .i64 (canK s)]) ∧ Old w w' := by
 refine (refCanon_any s.s1 s.s2 s.s3 s.a1 s.a2 s.a3 s.n1 s.n2 s.n3 s.c1 s.c2 s.c3 s.x1 s.x3 s.f2 hs.b1 hs.b2 hs.b3 w hs.h1 hs.h2 hs.h3).mono ?_
 intro e w' h
 unfold CanPost at h
 obtain ⟨p1, p2, p3, q1, q2, q3, he, _, u⟩ := h
 unfold canK at hc ⊢
 rw [if_neg hc] at he
 exact ⟨he, u⟩
theorem rbytesO (s : Sb) (w : World) (hs : s.Ok w) (hc : s.chk = 0) : Calls Tryz.prog 30 #[.agg #[.int .i64 s.s1, .int .i64 s.s2, .int .i64 s.s3, .slice s.a1 s.n1 s.c1, .slice s.a2 s.n2 s.c2, .slice s.a3 s.n3 s.c3]] w fun e w' => ∃ a c, e = .returned (.slice a s.enc.length c) ∧ Pk.OwnL w.heap.size w' (.slice a s.enc.length c) s.enc ∧ Old w w' := by
 have hp := chk_parts (show chkV s.s1 s.s2 s.s3 s.n1 s.n2 s.n3 s.x1 s.x3 s.f2 = 0 from hc)
 refine (refBytes_any s.s1 s.s2 s.s3 s.a1 s.a2 s.a3 s.n1 s.n2 s.n3 s.c1 s.c2 s.c3 s.x1 s.x3 s.f2 w hs.h1 hs.h2 hs.h3 (mis_rng hp.1) (crowd_rng hp.2.1)).mono ?_
 rintro e w' ⟨v, rfl, o, u⟩
 obtain ⟨a, c, rfl⟩ := OwnL.slice' o
 exact ⟨a, c, rfl, o, u⟩
end Go.Proofs.YthjfkmjeppdcnaaGreat
