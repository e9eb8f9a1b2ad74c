/- A client in memory; its keys in their order; conditions: it lies as New makes it. -/
import Derived.Test.YthjfkmjeppdcnaaGreatClP
import Derived.Test.YthjfkmjeppdcnaaGreatClR
import Derived.Test.YthjfkmjeppdcnaaGreatClN
import Derived.Test.YthjfkmjeppdcnaaGreatClO
namespace Go.Proofs.YthjfkmjeppdcnaaGreat
open Go.RowKit Go.Lib Go.Maps Go.MapKept Go.Sort Go.Shelf
open Go.WideElems (Fit rd rg pl rd_key rd_val rg_of rd_mk)
set_option linter.unusedVariables false
set_option linter.unusedSimpArgs false
set_option maxRecDepth 20000
theorem FRow.chg {S : List Nat} {w w' : World} {v : Value} {n : Nat} {x : Nat → Nat} (h : FRow w v n x) (c : Chg S w w') (hf : 0 < n → ∀ g, v.ownBlock = some g → g ∉ S) : FRow w' v n x := by
 obtain ⟨hm, a, cc, rfl, hc⟩ := h
 refine ⟨hm, a, cc, rfl, fun i hi => ?_⟩
 obtain ⟨b, off, rfl, hW, q⟩ := hc i hi
 exact ⟨b, off, rfl, hW, c.cell q (hf (by omega) b rfl)⟩
theorem SRow.chg {S : List Nat} {w w' : World} {v : Value} {n : Nat} {x : Nat → Sp} (h : SRow w v n x) (c : Chg S w w') (hf : 0 < n → ∀ g, v.ownBlock = some g → g ∉ S) : SRow w' v n x := by
 obtain ⟨hm, a, cc, rfl, hc⟩ := h
 refine ⟨hm, a, cc, rfl, fun i hi => ?_⟩
 obtain ⟨b, off, rfl, h1, h2, q0, q1, q2, q3⟩ := hc i hi
 have n := hf (by omega) b rfl
 exact ⟨b, off, rfl, h1, h2, c.cell q0 n, c.cell q1 n, c.cell q2 n, c.cell q3 n⟩
theorem own_chg {base : Nat} {S : List Nat} {w w' : World} {t : TypeId} {k n : Nat} {xs : List Value} {v : Value} (h : w.ownsRow base t k v n xs) (u : Chg S w w') (hn : ∀ g, v.ownBlock = some g → g ∉ S) : w'.ownsRow base t k v n xs := by
 refine ⟨h.1, ?_⟩
 rcases h.2 with e | ⟨g, cap, cur, e, hb', hg, r⟩
 ·exact .inl e
 ·subst e
  exact .inr ⟨g, cap, cur, rfl, hb', u.heapAt hg (hn g rfl), r⟩
def Sb.bl (s : Sb) : List Nat := (if 0 < s.n1 then (Value.slice s.a1 s.n1 s.c1).ownBlock.toList else []) ++ ((if 0 < s.n2 then (Value.slice s.a2 s.n2 s.c2).ownBlock.toList else []) ++ (if 0 < s.n3 then (Value.slice s.a3 s.n3 s.c3).ownBlock.toList else []))
theorem mem_sbl {s : Sb} {g : Nat} : g ∈ s.bl ↔ (0 < s.n1 ∧ (Value.slice s.a1 s.n1 s.c1).ownBlock = some g) ∨ (0 < s.n2 ∧ (Value.slice s.a2 s.n2 s.c2).ownBlock = some g) ∨ (0 < s.n3 ∧ (Value.slice s.a3 s.n3 s.c3).ownBlock = some g) := by
 unfold Sb.bl
 rw [List.mem_append, List.mem_append]
 refine or_congr ?_ (or_congr ?_ ?_) <;> (split <;> simp_all [Option.mem_toList])
abbrev Sb.val (s : Sb) : Value := .agg #[.int .i64 s.s1, .int .i64 s.s2, .int .i64 s.s3, .slice s.a1 s.n1 s.c1, .slice s.a2 s.n2 s.c2, .slice s.a3 s.n3 s.c3]
structure SOk (base : Nat) (s : Sb) (w : World) : Prop where
 ok : s.Ok w
 lt : ∀ g ∈ s.bl, base ≤ g ∧ g < w.heap.size
theorem SOk.old {base : Nat} {s : Sb} {w w' : World} (h : SOk base s w) (u : Old w w') : SOk base s w' := ⟨h.ok.old u, fun g q => ⟨(h.lt g q).1, Nat.lt_of_lt_of_le (h.lt g q).2 u.size⟩⟩
theorem SOk.chg {base : Nat} {S : List Nat} {s : Sb} {w w' : World} (h : SOk base s w) (u : Chg S w w') (hn : ∀ g ∈ s.bl, g ∉ S) : SOk base s w' :=
 ⟨⟨h.ok.h1.chg u (fun z g e => hn g (mem_sbl.2 (.inl ⟨z, e⟩))), h.ok.h2.chg u (fun z g e => hn g (mem_sbl.2 (.inr (.inl ⟨z, e⟩)))), h.ok.h3.chg u (fun z g e => hn g (mem_sbl.2 (.inr (.inr ⟨z, e⟩)))), h.ok.b1, h.ok.b2, h.ok.b3⟩, fun g q => ⟨(h.lt g q).1, Nat.lt_of_lt_of_le (h.lt g q).2 u.size⟩⟩
structure Cs where
 ss : Int
 ms : List Int
 tg : Nat
 la : Int
 op : List (Int × Sb)
 rs : List (Int × Int × Int)
def rc (r : Int × Int × Int) : List Value := [.int .i64 r.1, .int .i64 r.2.1, .int .i64 r.2.2]
def rcs (L : List (Int × Int × Int)) : List Value := L.flatMap rc
theorem rcs_len (L : List (Int × Int × Int)) : (rcs L).length = L.length * 3 := flat_len rc 3 (fun _ => rfl) L
theorem rcs_app (L M : List (Int × Int × Int)) : rcs L ++ rcs M = rcs (L ++ M) := by simp [rcs]
theorem rcs_one (L : List (Int × Int × Int)) : ∀ u ∈ rcs L, u.oneCell' = true := by
 intro u hu
 obtain ⟨k, _, h⟩ := List.mem_flatMap.1 hu
 simp only [rc, List.mem_cons, List.not_mem_nil, or_false] at h
 rcases h with rfl | rfl | rfl <;> rfl
def OwnR (base : Nat) (w : World) (v : Value) (L : List (Int × Int × Int)) : Prop := w.ownsRow base 51 3 v L.length (rcs L)
def opM (L : List (Int × Sb)) : List (Int × Value) := L.map fun p => (p.1, p.2.val)
structure ClAt (base cb mb : Nat) (mv rv : Value) (s : Cs) (w : World) : Prop where
 blk : w.heap[cb]? = some (.cells #[.int .i64 s.ss, mv, .int .i64 (s.tg : Nat), .int .i64 s.la, .map (some mb), rv] 70 (0, 0))
 map : MapIs w mb (opM s.op)
 mem : Ci.OwnI base w mv s.ms
 res : OwnR base w rv s.rs
 sub : ∀ p ∈ s.op, SOk base p.2 w
 far : ∀ p ∈ s.op, ∀ g ∈ p.2.bl, g ≠ cb ∧ g ≠ mb ∧ rv.ownBlock ≠ some g
 lo : base ≤ cb ∧ base ≤ mb
 ne : cb ≠ mb ∧ mv.ownBlock ≠ some cb ∧ mv.ownBlock ≠ some mb ∧ rv.ownBlock ≠ some cb ∧ rv.ownBlock ≠ some mb ∧ ∀ g, rv.ownBlock = some g → mv.ownBlock ≠ some g
theorem ClAt.old {base cb mb : Nat} {mv rv : Value} {s : Cs} {w w' : World} (h : ClAt base cb mb mv rv s w) (u : Old w w') : ClAt base cb mb mv rv s w' :=
 ⟨u.block h.blk, h.map.old u, h.mem.up u, own_old h.res u, fun p q => (h.sub p q).old u, h.far, h.lo, h.ne⟩
theorem ClAt.chg {base cb mb : Nat} {mv rv : Value} {s : Cs} {S : List Nat} {w w' : World} (h : ClAt base cb mb mv rv s w) (u : Chg S w w') (h1 : cb ∉ S) (h2 : mb ∉ S) (h3 : ∀ g, mv.ownBlock = some g → g ∉ S) (h4 : ∀ g, rv.ownBlock = some g → g ∉ S) (h5 : ∀ p ∈ s.op, ∀ g ∈ p.2.bl, g ∉ S) : ClAt base cb mb mv rv s w' :=
 ⟨u.heapAt h.blk h1, h.map.chg u h2, h.mem.chg u h3, own_chg h.res u h4, fun p q => (h.sub p q).chg u (h5 p q), h.far, h.lo, h.ne⟩
structure CsOk (s : Cs) : Prop where
 m1 : 1 ≤ s.ms.length ∧ s.ms.length ≤ 7
 mr : ∀ m ∈ s.ms, 1 ≤ m ∧ m ≤ 7
 mu : s.ms.Pairwise (· < ·)
 tg : s.tg < s.ms.length
 la : 0 ≤ s.la ∧ s.la ≤ 1099511627776
 up : (s.op.map (·.1)).Pairwise (· < ·)
 rg : ∀ p ∈ s.op, 1 ≤ p.1 ∧ p.1 ≤ s.la
 wd : ∀ p ∈ s.op, ∀ q ∈ s.op, q.1 - p.1 < 8
 ck : ∀ p ∈ s.op, p.2.chk = 0
 ct : (s.rs.length : Int) + s.op.length = s.la
theorem up_len : ∀ (L : List Int) (a : Int), L.Pairwise (· < ·) → (∀ x ∈ L, a ≤ x) → ∀ b, (∀ x ∈ L, x < b) → a ≤ b → (L.length : Int) ≤ b - a
 | [], a, _, _, b, _, hb => by simp; omega
 | x :: t, a, hp, ha, b, hb, _ => by
  have h1 := List.pairwise_cons.1 hp
  have := ha x (List.mem_cons_self ..)
  have := hb x (List.mem_cons_self ..)
  have := up_len t (x + 1) h1.2 (fun y hy => by have := h1.1 y hy; omega) b (fun y hy => hb y (List.mem_cons_of_mem _ hy)) (by omega)
  simp only [List.length_cons]
  omega
theorem CsOk.few {s : Cs} (h : CsOk s) : s.op.length ≤ 8 := by
 cases e : s.op with
 | nil => simp
 | cons p t =>
  have hu := h.up
  have hw := h.wd
  rw [e] at hu hw
  have h1 := List.pairwise_cons.1 (show ((p :: t).map (·.1)).Pairwise (· < ·) from hu)
  have := up_len ((p :: t).map (·.1)) p.1 hu (fun x hx => by
   rcases List.mem_cons.1 (show x ∈ p.1 :: t.map (·.1) from hx) with q | q
   ·omega
   ·have : p.1 < x := h1.1 x q; omega) (p.1 + 8) (fun x hx => by
   obtain ⟨q, hq, rfl⟩ := List.mem_map.1 hx
   have := hw p (List.mem_cons_self ..) q hq
   omega) (by omega)
  simp only [List.length_map] at this
  omega
theorem perm_up {L M : List Int} (hp : L.Perm M) (h1 : L.Pairwise (· ≤ ·)) (h2 : M.Pairwise (· < ·)) : L = M :=
 hp.eq_of_pairwise (le := (· ≤ ·)) (fun a b _ _ x y => by omega) h1 (h2.imp fun h => by omega)
theorem box6 {w : World} {b : Nat} {v0 v1 v2 v3 v4 v5 : Value} {t : TypeId} (h : w.heap[b]? = some (.cells #[v0, v1, v2, v3, v4, v5] t (0, 0))) : (w.cell? ⟨b, 0, none⟩ = some v0 ∧ w.cell? ⟨b, 1, none⟩ = some v1 ∧ w.cell? ⟨b, 2, none⟩ = some v2 ∧ w.cell? ⟨b, 3, none⟩ = some v3 ∧ w.cell? ⟨b, 4, none⟩ = some v4 ∧ w.cell? ⟨b, 5, none⟩ = some v5) ∧ ∀ j, w.frozen? ⟨b, j, none⟩ = false := by
 refine ⟨⟨?_, ?_, ?_, ?_, ?_, ?_⟩, fun j => ?_⟩ <;> simp [World.cell?, World.frozen?, h]
set_option maxHeartbeats 2000000 in
theorem open_any (base cb mb : Nat) (mv rv : Value) (s : Cs) (w : World) (h : ClAt base cb mb mv rv s w) (hok : CsOk s) :
    Calls Tryz.prog 14 #[.pointer (some ⟨cb, 0, none⟩)] w fun e w' => ∃ v, e = .returned v ∧ OwnN w.heap.size w' v (s.op.map (·.1)) ∧ Old w w' := by
 have hml : (opM s.op).length ≤ 8 := by simp [opM]; exact hok.few
 have h6 : (opM s.op).map (·.1) = s.op.map (·.1) := by simp [opM, List.map_map, Function.comp_def]
 obtain ⟨D, hown, hperm, hsize⟩ := h.map.owns (by omega)
 rw [h6] at hperm
 refine (callsIn_wide (n := 6)).1 ?_
 have hbl := hown.lt
 have hseq : SeqGives Fence.wide 2 Tryz.prog 45 #[.pointer (some ⟨w.heap.size, 0, none⟩)] encZ (fun ss => ss.Perm (intKeys D)) (Maps.size D) (w.alloc (.cells #[.map (some mb)] 68)) :=
  AnyZI.keys_gives (ρ := keysA_ren) { keysA with } Fence.wide _ trivial rfl (by omega) w.heap.size mb 1000 D _ (by simp) (by simp) (by
   obtain ⟨es, clock, hb, Ft, hs, hD⟩ := hown
   exact ⟨es, clock, (Below.heap_alloc _ _ mb hbl).trans hb, Ft, hs, hD⟩)
 have cK : ∀ mb W, CallsIn Fence.wide 5 Tryz.prog 27 #[.map mb] W fun e w' => e = .returned (.func (.func 45) #[] #[.pointer (some ⟨W.heap.size, 0, none⟩)]) ∧ w' = W.alloc (.cells #[.map mb] 68) := fun mb W => AnyZI.keys_in keysA Fence.wide 5 trivial rfl mb W
 have cS := AnyZI.sorted_in sortedA Fence.wide 5 trivial trivial trivial trivial rfl (by omega) (sortsA _) (enters_of Tryz.func44 (by kernel_rfl) rfl) 45 #[.pointer (some ⟨w.heap.size, 0, none⟩)] trivial (enters_of Tryz.func45 (by kernel_rfl) rfl) _ _ (by rw [hsize]; unfold maxLen; omega) (by rw [hsize]; omega) _ hseq
 change CallsIn _ _ Tryz.prog 26 _ _ _ at cS
 have hfK : Fence.wide.fn 27 := trivial
 have hfS : Fence.wide.fn 26 := trivial
 have HP := hid hperm
 have HU := hid hok.up
 have t0 := (box6 h.blk).1.2.2.2.2.1
 clear hperm hsize hown hml hok h6 hseq h
 refine callsIn_of_wp Tryz.func14 rfl trivial ?_ rfl
 simp only [Tryz.ntmps14, List.size_toArray, List.length_cons, List.length_nil, Nat.reduceAdd, Nat.reduceSub, Array.replicate_succ, Array.replicate_zero, List.push_toArray, List.append_toArray, List.nil_append, List.cons_append]
 gi_wp2_with (first
  | (gi_at_call 27; refine (cK _ _).mono ?_; rintro e w' ⟨rfl, rfl⟩)
  | (gi_at_call 26; refine cS.mono ?_; rintro e w' ⟨v, ss, rfl, hS, hrow, hnil, hb⟩))
 go_ret
 have he : ss.mergeSort (fun x y => decide (x ≤ y)) = s.op.map (·.1) := by
  refine perm_up (((List.mergeSort_perm ss _).trans hS).trans HP.out) ?_ HU.out
  have q := List.pairwise_mergeSort (le := fun x y : Int => decide (x ≤ y)) (fun a b c h1 h2 => by simp at h1 h2 ⊢; omega) (fun a b => by simp; omega) ss
  exact q.imp (fun h => by simpa using h)
 refine ⟨v, rfl, ?_, ((Below.refl _ w).alloc (Nat.le_refl _) _).trans (hb.mono (by simp))⟩
 have q := ownsRow_base_a hrow (show w.heap.size ≤ (w.alloc (.cells #[.map (some mb)] 68)).heap.size by simp)
 unfold OwnN
 rw [← he, List.length_mergeSort]
 exact q
end Go.Proofs.YthjfkmjeppdcnaaGreat
namespace Go.Proofs.YthjfkmjeppdcnaaGreat
open Go.RowKit Go.Lib
set_option linter.unusedVariables false
set_option linter.unusedSimpArgs false
set_option maxRecDepth 20000
attribute [local go_sem] run_bits run_frombits run_store_float eqF
theorem OwnN.at {base : Nat} {w : World} {v : Value} {L : List Int} (h : OwnN base w v L) (i : Nat) (hi : i < L.length) : ∃ g cap, v = .slice (some ⟨g, 0, none⟩) L.length cap ∧ w.cell? ⟨g, i, none⟩ = some (.int .i64 L[i]) := by
 have h2 : w.ownsRow base 2 1 v L.length (ils L) := h
 rcases h2.2 with ⟨_, e⟩ | ⟨g, cap, cur, rfl, hb, hg, hnc, hcm, hcs, htk⟩
 ·omega
 ·refine ⟨g, cap, rfl, ?_⟩
  rw [h2.cellAt i (by omega)]
  simp [ils, hi]
set_option maxHeartbeats 2000000 in
theorem index1_any (v : Value) (n : Nat) (f : Nat → Int) (x : Int) (w : World) (h : Ci.NRowL w v n f) :
    Calls Tryz.prog 24 #[v, .int .i64 x] w fun e w' => ∃ r : Int, e = .returned (.int .i64 r) ∧ ((r = -1 ∧ ∀ i, i < n → f i ≠ x) ∨ ∃ i : Nat, i < n ∧ r = i ∧ f i = x) ∧ Old w w' := by
 obtain ⟨hn, p, c, rfl, h1, h2, hc⟩ := h
 have HX := hid hc
 have hmm : (n : Int) ≤ 17592186044000 := by omega
 clear hc
 go_enter Tryz.func24, Tryz.ntmps24
 go_wp2
 go_loopw [8] (fun i wx => ∃ k : Nat, k ≤ n ∧ i = .int .i64 k ∧ Hid (∀ i, i < k → f i ≠ x) ∧ Old w wx) (fun i _ => n - (intOf i).toNat)
 case atStart => exact ⟨0, Nat.zero_le _, rfl, hid (fun i hi => by omega), Old.refl _⟩
 case round =>
  obtain ⟨k, hk, rfl, hz, hup⟩ := hrel
  by_cases hlt : k < n
  ·obtain ⟨b1, o1, e1, cx0⟩ := HX.out k hlt
   subst e1
   have cx := hup.keep cx0
   have l1 : (0 : Int) ≤ (k : Int) := by omega
   have l2 : (k : Int) < (n : Int) := by omega
   have HY := hid (show f k = f k from rfl)
   obtain ⟨y, hy⟩ : ∃ y, f k = y := ⟨_, rfl⟩
   rw [hy] at cx
   have HF := hid hy
   clear cx0 HY hy
   by_cases hxy : x = y
   ·have t : (x == y) = true := by simp [hxy]
    have HE := hid hxy
    clear hz hxy
    go_wp2
    go_ret
    exact ⟨_, rfl, .inr ⟨k, hlt, rfl, by rw [HF.out, HE.out]⟩, hup⟩
   ·have t : (x == y) = false := by simp [hxy]
    have HE := hid hxy
    clear hxy
    go_wp2
    exact ⟨⟨k + 1, hlt, by go_num, hid (fun i hi => by
     by_cases e : i = k
     ·subst e; rw [HF.out]; exact fun q => HE.out q.symm
     ·exact hz.out i (by omega)), hup⟩, by simp [intOf]; omega⟩
  ·obtain rfl : n = k := by omega
   go_wp2
   go_ret
   exact ⟨_, rfl, .inl ⟨rfl, hz.out⟩, hup⟩
def lsO : List (Int × Sb) → Int
 | [] => 0
 | p :: _ => p.1
theorem lsO_at {L : List (Int × Sb)} (h : 0 < L.length) : (L.map (·.1))[0]'(by simpa using h) = lsO L := by
 cases L with
 | nil => simp at h
 | cons p t => rfl
set_option maxHeartbeats 2000000 in
theorem least_any (base cb mb : Nat) (mv rv : Value) (s : Cs) (w : World) (h : ClAt base cb mb mv rv s w) (hok : CsOk s) :
    Calls Tryz.prog 21 #[.pointer (some ⟨cb, 0, none⟩)] w fun e w' => e = .returned (.tuple #[.int .i64 (lsO s.op), .bool (decide (0 < s.op.length))]) ∧ Old w w' := by
 have HO := hid (open_any base cb mb mv rv s w h hok)
 clear h hok
 generalize s.op = L at *
 by_cases hl : L.length = 0
 ·obtain rfl : L = [] := List.eq_nil_of_length_eq_zero hl
  clear hl
  go_enter Tryz.func21, Tryz.ntmps21
  go_upto_region 2 with (go_at_call 14; refine HO.out.mono ?_; rintro e w1 ⟨v, rfl, o, u⟩; obtain ⟨a, c, rfl⟩ := o.len; have U := hid u; clear o u)
  clear HO
  go_wp2
  go_ret2
  exact ⟨rfl, U.out⟩
 ·obtain ⟨n, hn⟩ : ∃ n, L.length = n := ⟨_, rfl⟩
  have hl2 : (n == 0) = false := by rw [beq_eq_false_iff_ne]; omega
  have hl3 : ((n : Int) == 0) = false := by rw [beq_eq_false_iff_ne]; omega
  have HP := hid (fun (q : 0 < L.length) => lsO_at q)
  have HN := hid hn
  have hpos : 0 < n := by omega
  have hpi : (0 : Int) < (n : Int) := by omega
  rw [show decide (0 < L.length) = true from decide_eq_true (by omega)]
  clear hl hn
  go_enter Tryz.func21, Tryz.ntmps21
  go_upto_region 2 with (go_at_call 14; refine HO.out.mono ?_; rintro e w1 ⟨v, rfl, o, u⟩; have OO := hid o; obtain ⟨g, cap, rfl, hc⟩ := o.at 0 (by rw [List.length_map, HN.out]; exact hpos); rw [HP.out (by rw [HN.out]; exact hpos)] at hc; rw [List.length_map, HN.out]; have U := hid u; clear o u OO)
  clear HO HP HN
  obtain ⟨y, hy⟩ : ∃ y, lsO L = y := ⟨_, rfl⟩
  rw [hy] at hc
  have HY := hid hy
  clear hy
  go_wp2
  go_ret2
  exact ⟨by rw [HY.out]; rfl, U.out⟩
theorem OwnI.at {base : Nat} {w : World} {v : Value} {L : List Int} (h : Ci.OwnI base w v L) (i : Nat) (hi : i < L.length) : ∃ g cap, v = .slice (some ⟨g, 0, none⟩) L.length cap ∧ w.cell? ⟨g, i, none⟩ = some (.int .i64 L[i]) := by
 have h2 : w.ownsRow base 3 1 v L.length (Ci.ils L) := h
 rcases h2.2 with ⟨_, e⟩ | ⟨g, cap, cur, rfl, hb, hg, hnc, hcm, hcs, htk⟩
 ·omega
 ·refine ⟨g, cap, rfl, ?_⟩
  rw [h2.cellAt i (by omega)]
  simp [Ci.ils, hi]
def tgt (s : Cs) : Int := s.ms.getD s.tg 0
set_option maxHeartbeats 2000000 in
theorem target_any (base cb mb : Nat) (mv rv : Value) (s : Cs) (w : World) (h : ClAt base cb mb mv rv s w) (hok : CsOk s) :
    Calls Tryz.prog 12 #[.pointer (some ⟨cb, 0, none⟩)] w fun e w' => e = .returned (.int .i64 (tgt s)) ∧ Old w w' := by
 obtain ⟨⟨x0, x1, x2, x3, x4, x5⟩, -⟩ := box6 h.blk
 have ht := hok.tg
 have h7 := hok.m1.2
 obtain ⟨g, cap, rfl, hc⟩ := OwnI.at h.mem s.tg ht
 have he : s.ms[s.tg] = tgt s := by unfold tgt; rw [List.getD_eq_getElem?_getD, List.getElem?_eq_getElem ht]; rfl
 rw [he] at hc
 clear he h hok x0 x3 x4 x5
 generalize tgt s = y at *
 generalize s.tg = k at *
 generalize s.ms.length = n at *
 have l1 : (0 : Int) ≤ (k : Int) := by omega
 have l2 : (k : Int) < (n : Int) := by omega
 go_enter Tryz.func12, Tryz.ntmps12
 go_upto_region 1 with fail
 go_quiet (fail)
 go_wp2
 go_ret
 exact ⟨rfl, (Old.refl w).drewN _⟩
end Go.Proofs.YthjfkmjeppdcnaaGreat
namespace Go.Proofs.YthjfkmjeppdcnaaGreat
open Go.RowKit Go.Lib
set_option linter.unusedVariables false
set_option linter.unusedSimpArgs false
set_option maxRecDepth 20000
attribute [local go_sem] run_bits run_frombits run_store_float eqF
theorem infoRs : (Tryz.prog.info? 51).map (fun i => (i.zero, i.size, i.bytes)) = some (some (.agg #[.int .i64 0, .int .i64 0, .int .i64 0]), 3, 24) := by kernel_rfl
theorem OwnR.nil (base : Nat) (w : World) : OwnR base w (.slice none 0 0) [] := World.ownsRow_nil w base _ 3
set_option maxHeartbeats 1000000 in
theorem cloneR_any (base : Nat) (v : Value) (L : List (Int × Int × Int)) (w : World) (hL : L.length ≤ 1099511627776) (hown : OwnR base w v L) :
    Calls Tryz.prog 25 #[v] w fun e w' => ∃ v', e = .returned v' ∧ OwnR w.heap.size w' v' L ∧ Old w w' := by
 have hown2 : w.ownsRow base 51 3 v L.length (rcs L) := hown
 rcases hown2.2 with ⟨rfl, hn⟩ | ⟨g, cap, cur, rfl, hb, hg, hnc, hcm, hcs, htk⟩
 ·obtain rfl : L = [] := List.length_eq_zero_iff.1 hn
  have hq := fun w => Go.Lib.run_eql_slice_nil (P := Tryz.prog) w 42 51 none 0 0 0 0 Tryz.underlying42
  clear hown hown2
  go_enter Tryz.func25, Tryz.ntmps25
  go_wp2
  go_ret
  exact ⟨_, rfl, OwnR.nil _ _, Old.refl _⟩
 ·have HC := hid (fun (j : Nat) (u : Value) (hj : (rcs L)[j]? = some u) => show w.cell? ⟨g, j, none⟩ = some u from by
    have hl : j < L.length * 3 := by rw [← rcs_len L]; exact (List.getElem?_eq_some_iff.1 hj).1
    rw [hown2.cellAt j (by omega)]; exact hj)
  have HL := hid (rcs_len L)
  have hq := fun w => Go.Lib.run_eql_slice_nil (P := Tryz.prog) w 42 51 (some ⟨g, 0, none⟩) L.length cap 0 0 Tryz.underlying42
  obtain ⟨i0, hi, hz0, hz1, hz2⟩ := Ci.info_parts infoRs
  have HI := hid (And.intro hi (And.intro hz0 (And.intro hz1 hz2)))
  have hE : OwnR w.heap.size (w.alloc (.cells #[] 51)) (.slice (some ⟨w.heap.size, 0, none⟩) 0 0) [] := World.ownsRow_made w #[] 0 (Nat.le_refl _) (by unfold maxLen; omega) rfl
  have HEE := hid hE
  clear hown hown2 hg hcs htk hcm hi hz0 hz1 hz2 hE
  go_enter Tryz.func25, Tryz.ntmps25
  go_wp2_with (at_builtin; refine wpList_append_own _ rfl (.tmp 5) (.tmp 6) 42 rfl w.heap.size 51 i0 _ 3 24 Tryz.underlying42 HI.out.1 HI.out.2.1 HI.out.2.2.1 HI.out.2.2.2 rfl (by decide) _ 0 [] rfl HEE.out ⟨g, 0, none⟩ L.length cap (rcs L) rfl HL.out (fun j u hj => by rw [Addr.add_lit, Nat.zero_add]; exact ((Old.refl w).alloc _).keep (HC.out j u hj)) (rcs_one L) (by unfold maxLen; omega) (by omega) (by simp) ?_; intro v' w' h1 h2 h3; have H1 := hid h1; have H2 := hid (Old.below ((Old.refl w).alloc (.cells #[] 51)) (Below.grown (Below.refl _ _) h2 (by simp) (fun k hk => by cases hk; exact Nat.le_refl _))); clear h1 h2 h3)
  go_ret
  refine ⟨_, rfl, ?_, H2.out⟩
  have q := H1.out
  rw [Nat.zero_add, List.nil_append] at q
  exact q
theorem CsOk.rl {s : Cs} (h : CsOk s) : s.rs.length ≤ 1099511627776 := by have := h.ct; have := h.la; omega
set_option maxHeartbeats 1000000 in
theorem results_any (base cb mb : Nat) (mv rv : Value) (s : Cs) (w : World) (h : ClAt base cb mb mv rv s w) (hok : CsOk s) :
    Calls Tryz.prog 13 #[.pointer (some ⟨cb, 0, none⟩)] w fun e w' => ∃ v, e = .returned v ∧ OwnR w.heap.size w' v s.rs ∧ Old w w' := by
 obtain ⟨⟨x0, x1, x2, x3, x4, x5⟩, -⟩ := box6 h.blk
 have HC := hid (cloneR_any base rv s.rs w hok.rl h.res)
 clear x0 x1 x2 x3 x4 h hok
 go_enter Tryz.func13, Tryz.ntmps13
 go_wp2_with (go_at_call 25; refine HC.out.mono ?_; rintro e w1 ⟨v, rfl, o, u⟩; have OO := hid o; have U := hid u; clear o u)
 go_ret
 exact ⟨v, rfl, OO.out, U.out⟩
def Sb.enc (s : Sb) : List Nat := encS s.s1 s.s2 s.s3 s.n1 s.n2 s.n3 s.x1 s.x3 s.f2
theorem OwnL.mono' {base b' : Nat} {w : World} {v : Value} {L : List Nat} (h : Pk.OwnL base w v L) (hb : b' ≤ base) : Pk.OwnL b' w v L := by
 refine ⟨⟨h.own.1, ?_⟩, h.lt⟩
 rcases h.own.2 with e | ⟨g, cap, cur, e, hb', hg, r⟩
 ·exact .inl e
 ·exact .inr ⟨g, cap, cur, e, by omega, hg, r⟩
def NxPost (s : Cs) (w : World) (e : Ending) (w' : World) : Prop := match s.op with
 | [] => e = .returned (.tuple #[.int .i64 0, .slice none 0 0, .bool false]) ∧ Old w w'
 | p :: _ => ∃ v, e = .returned (.tuple #[.int .i64 (tgt s), v, .bool true]) ∧ Pk.OwnL w.heap.size w' v p.2.enc ∧ Old w w'
set_option maxHeartbeats 2000000 in
theorem nextK_any (base cb mb : Nat) (mv rv : Value) (s : Cs) (w : World) (h : ClAt base cb mb mv rv s w) (hok : CsOk s) :
    Calls Tryz.prog 9 #[.pointer (some ⟨cb, 0, none⟩)] w fun e w' => NxPost s w e w' := by
 have HLe := hid (least_any base cb mb mv rv s w h hok)
 have HTg := hid (fun (W : World) (u : Old w W) => target_any base cb mb mv rv s W (h.old u) hok)
 have HB := hid h.blk
 have hN : ∀ p ∈ s.op, N64 p.1 := fun p hp => by have := hok.rg p hp; have := hok.la; unfold N64; omega
 have HM := hid (fun (W : World) (u : Old w W) (k : Int) (hk : N64 k) => (h.map.old u).look false hk)
 have HNP : Hid (∀ e w', NxPost s w e w' = NxPost s w e w') := hid (fun _ _ => rfl)
 cases hop : s.op with
 | nil =>
  rw [hop] at HLe
  have HE := hid (show ∀ e w', (e = .returned (.tuple #[.int .i64 0, .slice none 0 0, .bool false]) ∧ Old w w') → NxPost s w e w' from fun e w' q => by unfold NxPost; rw [hop]; exact q)
  clear h hok hop HTg HM hN HNP HB
  go_enter Tryz.func9, Tryz.ntmps9
  go_wp2_with (go_at_call 21; refine HLe.out.mono ?_; rintro e w1 ⟨rfl, u⟩; have U := hid u; clear u)
  refine bodyPost_ret (v := .tuple #[.int .i64 0, .slice none 0 0, .bool false]) (by simp [results, Tryz.results9, go_sem, *]) rfl (HE.out _ _ ⟨rfl, U.out⟩)
 | cons p t =>
  rw [hop] at HLe
  have HE := hid (show ∀ e w' v, (e = .returned (.tuple #[.int .i64 (tgt s), v, .bool true]) ∧ Pk.OwnL w.heap.size w' v p.2.enc ∧ Old w w') → NxPost s w e w' from fun e w' v q => by unfold NxPost; rw [hop]; exact ⟨v, q⟩)
  have hp : p ∈ s.op := by rw [hop]; exact List.mem_cons_self ..
  have HS := hid ((h.sub p hp).ok)
  have HCk := hid (show chkV p.2.s1 p.2.s2 p.2.s3 p.2.n1 p.2.n2 p.2.n3 p.2.x1 p.2.x3 p.2.f2 = 0 from hok.ck p hp)
  have HLk := hid (fun (W : World) (u : Old w W) => HM.out W u p.1 (hN p hp))
  have hg : mget p.1 (opM s.op) = some p.2.val := by rw [hop]; unfold opM; rw [List.map_cons]; unfold mget; rw [if_pos rfl]
  rw [hg] at HLk
  simp only [Option.getD_some, Bool.false_eq_true, if_false, lsO, List.length_cons, Nat.zero_lt_succ, decide_true] at HLk HLe
  clear h hok hop HM hN HNP hp hg
  obtain ⟨k, x⟩ := p
  dsimp only at HLk HLe HE HS HCk
  obtain ⟨ty, hty⟩ : ∃ ty, tgt s = ty := ⟨_, rfl⟩
  rw [hty] at HTg HE
  clear hty
  go_enter Tryz.func9, Tryz.ntmps9
  go_upto_region 4 with (go_at_call 21; refine HLe.out.mono ?_; rintro e w1 ⟨rfl, u⟩; have U := hid u; clear u)
  obtain ⟨⟨x0, x1, x2, x3, x4, x5⟩, -⟩ := box6 (U.out.block HB.out)
  have hlk := HLk.out w1 U.out
  have HEn := hid (encode_ok x.s1 x.s2 x.s3 x.a1 x.a2 x.a3 x.n1 x.n2 x.n3 x.c1 x.c2 x.c3 x.x1 x.x3 x.f2 w1 (HS.out.h1.old U.out) (HS.out.h2.old U.out) (HS.out.h3.old U.out) HCk.out)
  clear x0 x1 x2 x3 x5 HLk HLe HS HCk HB
  go_wp2_with (first | (go_at_call 23; refine HEn.out.mono ?_; rintro e w2 ⟨v, rfl, o, u⟩; have OO := hid o; have U2 := hid (U.out.trans u); clear o u) | (go_at_call 12; refine (HTg.out _ U2.out).mono ?_; rintro e w3 ⟨rfl, u⟩; have O3 := hid (OwnL.old' OO.out u); have U3 := hid (U2.out.trans u); clear u))
  refine bodyPost_ret (v := .tuple #[.int .i64 ty, v, .bool true]) (by simp [results, Tryz.results9, go_sem, *]) rfl (HE.out _ _ v ⟨rfl, OwnL.mono' O3.out U.out.size, U3.out⟩)
end Go.Proofs.YthjfkmjeppdcnaaGreat
