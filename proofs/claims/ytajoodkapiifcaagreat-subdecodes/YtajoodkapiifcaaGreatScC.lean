/- Rows of spans and of ranges that the call itself has made; conditions: the lengths fit. -/
import Derived.Test.YtajoodkapiifcaaGreatScB
import Derived.Laws.AppendOwnNone
import Derived.OneCell
import Derived.ArgAppend
import Derived.OwnWalk
import Derived.Deep.QuietTactic
import Derived.BigQuiet
import Derived.Deep.Draws
import Derived.Test.YtajoodkapiifcaaGreatSqa
namespace Go.Proofs.YtajoodkapiifcaaGreat
set_option linter.unusedSimpArgs false
open Go.RowKit
set_option linter.unusedVariables false
def Old (w w' : World) : Prop := Below w.heap.size w w'
theorem Old.refl (w : World) : Old w w := Below.refl _ _
theorem Old.trans {a b c : World} (h : Old a b) (k : Old b c) : Old a c := Below.trans h (Below.mono k h.size)
theorem Old.drew {a w : World} (h : Old a w) : Old a w.drew := Below.drew h
theorem Old.drewN {a w : World} (h : Old a w) (n : Nat) : Old a (w.drewN n) := below_drewN h n
theorem Old.alloc {a w : World} (h : Old a w) (o : Obj) : Old a (w.alloc o) := Below.alloc h h.size o
theorem Old.setCell {a w : World} (h : Old a w) {p : Addr} (hp : a.heap.size ≤ p.block) (u : Value) : Old a (w.setCell p u) := Below.setCell h hp u
theorem Up.old {a w : World} (h : Up a w) : Old a w := h.toBelow
theorem Old.below {a w w' : World} (h : Old a w) (k : Below a.heap.size w w') : Old a w' := Below.trans h k
theorem Old.keep {W w' : World} (h : Old W w') {p : Addr} {v : Value} (hc : W.cell? p = some v) : w'.cell? p = some v := by
 rw [Below.cell (p := p) h (World.block_lt_of_cell? W p hc)]; exact hc
theorem Old.keepF {W w' : World} (h : Old W w') {p : Addr} {v : Value} (hc : W.cell? p = some v) (hf : W.frozen? p = false) : w'.frozen? p = false := by
 rw [Below.frozen (p := p) h (World.block_lt_of_cell? W p hc)]; exact hf
structure Sp where
 a : Nat
 b : Nat
 p : Bool
 q : Bool
def spc (s : Sp) : List Value := [.float .f64 s.a, .float .f64 s.b, .bool s.p, .bool s.q]
def spcs (L : List Sp) : List Value := L.flatMap spc
def rgc (r : Nat × Nat) : List Value := [.int .u64 (r.1 : Nat), .int .u64 (r.2 : Nat)]
def rgcs (L : List (Nat × Nat)) : List Value := L.flatMap rgc
theorem flat_len {α : Type} (c : α → List Value) (k : Nat) (hk : ∀ x, (c x).length = k) : ∀ L : List α, (L.flatMap c).length = L.length * k
 | [] => by simp
 | x :: t => by rw [List.flatMap_cons, List.length_append, hk, flat_len c k hk t, List.length_cons, Nat.add_mul]; omega
theorem flat_get {α : Type} (c : α → List Value) (k : Nat) (hk : ∀ x, (c x).length = k) : ∀ (L : List α) (i j : Nat) (hi : i < L.length), j < k → (L.flatMap c)[i * k + j]? = (c L[i])[j]?
 | [], i, _, hi, _ => by simp at hi
 | x :: t, 0, j, _, hj => by
  rw [List.flatMap_cons, List.getElem?_append_left (by rw [hk]; omega)]; simp
 | x :: t, i + 1, j, hi, hj => by
  rw [List.flatMap_cons, List.getElem?_append_right (by rw [hk, Nat.add_mul]; omega), hk]
  rw [show (i + 1) * k + j - k = i * k + j by rw [Nat.add_mul]; omega]
  rw [flat_get c k hk t i j (by simpa using hi) hj]
  simp
theorem spcs_len (L : List Sp) : (spcs L).length = L.length * 4 := flat_len spc 4 (fun _ => rfl) L
theorem rgcs_len (L : List (Nat × Nat)) : (rgcs L).length = L.length * 2 := flat_len rgc 2 (fun _ => rfl) L
theorem spcs_app (L M : List Sp) : spcs L ++ spcs M = spcs (L ++ M) := by simp [spcs]
theorem rgcs_app (L M : List (Nat × Nat)) : rgcs L ++ rgcs M = rgcs (L ++ M) := by simp [rgcs]
theorem spcs_one (L : List Sp) : ∀ u ∈ spcs L, u.oneCell' = true := by
 intro u hu
 obtain ⟨s, _, h⟩ := List.mem_flatMap.1 hu
 simp [spc] at h
 rcases h with rfl | rfl | rfl | rfl <;> rfl
theorem rgcs_one (L : List (Nat × Nat)) : ∀ u ∈ rgcs L, u.oneCell' = true := by
 intro u hu
 obtain ⟨s, _, h⟩ := List.mem_flatMap.1 hu
 simp [rgc] at h
 rcases h with rfl | rfl <;> rfl
theorem infoSpanZ : (Tryz.prog.info? 31).map (fun i => (i.zero, i.size, i.bytes)) = some (some (.agg #[.float .f64 0, .float .f64 0, .bool false, .bool false]), 4, 24) := by kernel_rfl
theorem infoRangeZ : (Tryz.prog.info? 90).map (fun i => (i.zero, i.size, i.bytes)) = some (some (.agg #[.int .u64 0, .int .u64 0]), 2, 16) := by kernel_rfl
def OwnS (base : Nat) (w : World) (v : Value) (L : List Sp) : Prop := w.ownsRow base 31 4 v L.length (spcs L)
def OwnG (base : Nat) (w : World) (v : Value) (L : List (Nat × Nat)) : Prop := w.ownsRow base 90 2 v L.length (rgcs L)
def SpIn (w : World) (b o : Nat) (s : Sp) : Prop := w.cell? ⟨b, o, none⟩ = some (.float .f64 s.a) ∧ w.cell? ⟨b, o + 1, none⟩ = some (.float .f64 s.b) ∧ w.cell? ⟨b, o + 2, none⟩ = some (.bool s.p) ∧ w.cell? ⟨b, o + 3, none⟩ = some (.bool s.q)
theorem SpIn.old {w w' : World} {b o : Nat} {s : Sp} (h : SpIn w b o s) (u : Old w w') : SpIn w' b o s := ⟨u.keep h.1, u.keep h.2.1, u.keep h.2.2.1, u.keep h.2.2.2⟩
def RgIn (w : World) (b o : Nat) (r : Nat × Nat) : Prop := w.cell? ⟨b, o, none⟩ = some (.int .u64 (r.1 : Nat)) ∧ w.cell? ⟨b, o + 1, none⟩ = some (.int .u64 (r.2 : Nat))
theorem spIn_new (w : World) (s : Sp) (g : Nat) (hg : w.heap.size = g) : ∀ i (hi : i < [s].length), SpIn (w.alloc (.cells #[.float .f64 s.a, .float .f64 s.b, .bool s.p, .bool s.q] 31)) g (0 + i * 4) [s][i] := by
 intro i hi
 obtain rfl : i = 0 := by simpa using hi
 subst hg
 simp [SpIn]
theorem rgIn_new (w : World) (r : Nat × Nat) (g : Nat) (hg : w.heap.size = g) : RgIn (w.alloc (.cells #[.int .u64 (r.1 : Nat), .int .u64 (r.2 : Nat)] 90)) g 0 r := by
 subst hg
 simp [RgIn]
theorem RgIn.old {w w' : World} {b o : Nat} {r : Nat × Nat} (h : RgIn w b o r) (u : Old w w') : RgIn w' b o r := ⟨u.keep h.1, u.keep h.2⟩
theorem own_old {base : Nat} {w w' : World} {t : TypeId} {k n : Nat} {xs : List Value} {v : Value} (h : w.ownsRow base t k v n xs) (u : Old w w') : w'.ownsRow base t k v n xs := by
 refine ⟨h.1, ?_⟩
 rcases h.2 with e | ⟨g, cap, cur, e, hb', hg, r⟩
 ·exact .inl e
 ·exact .inr ⟨g, cap, cur, e, hb', by rw [u.block g (lt_of_block hg)]; exact hg, r⟩
theorem OwnS.old {base : Nat} {w w' : World} {v : Value} {L : List Sp} (h : OwnS base w v L) (u : Old w w') : OwnS base w' v L := own_old h u
theorem OwnG.old {base : Nat} {w w' : World} {v : Value} {L : List (Nat × Nat)} (h : OwnG base w v L) (u : Old w w') : OwnG base w' v L := own_old h u
theorem OwnS.nil (base : Nat) (w : World) : OwnS base w (.slice none 0 0) [] := World.ownsRow_nil w base _ 4
theorem OwnG.nil (base : Nat) (w : World) : OwnG base w (.slice none 0 0) [] := World.ownsRow_nil w base _ 2
theorem OwnS.empty {base g : Nat} {w : World} (hb : base ≤ w.heap.size) (hg : w.heap.size = g) : OwnS base (w.alloc (.cells #[] 31)) (.slice (some ⟨g, 0, none⟩) 0 0) [] := by
 subst hg
 exact World.ownsRow_made w #[] 0 hb (by unfold maxLen; omega) rfl
theorem OwnG.empty {base g : Nat} {w : World} (hb : base ≤ w.heap.size) (hg : w.heap.size = g) : OwnG base (w.alloc (.cells #[] 90)) (.slice (some ⟨g, 0, none⟩) 0 0) [] := by
 subst hg
 exact World.ownsRow_made w #[] 0 hb (by unfold maxLen; omega) rfl
theorem OwnS.len {base : Nat} {w : World} {v : Value} {L : List Sp} (h : OwnS base w v L) : ∃ a c, v = .slice a L.length c := by
 rcases h.2 with ⟨rfl, e⟩ | ⟨g, cap, cur, rfl, _⟩
 ·exact ⟨none, 0, by rw [e]⟩
 ·exact ⟨_, _, rfl⟩
theorem OwnG.len {base : Nat} {w : World} {v : Value} {L : List (Nat × Nat)} (h : OwnG base w v L) : ∃ a c, v = .slice a L.length c := by
 rcases h.2 with ⟨rfl, e⟩ | ⟨g, cap, cur, rfl, _⟩
 ·exact ⟨none, 0, by rw [e]⟩
 ·exact ⟨_, _, rfl⟩
theorem OwnS.shape {base : Nat} {w : World} {v : Value} {L : List Sp} (h : OwnS base w v L) (hn : 0 < L.length) :
    ∃ g cap, v = .slice (some ⟨g, 0, none⟩) L.length cap ∧ base ≤ g ∧ g < w.heap.size ∧ L.length ≤ cap ∧ cap ≤ maxLen ∧ (∀ i (hi : i < L.length), SpIn w g (i * 4) L[i]) ∧ ∀ o, w.frozen? ⟨g, o, none⟩ = false := by
 have h2 := h
 unfold OwnS at h2
 rcases h2.2 with ⟨_, e⟩ | ⟨g, cap, cur, rfl, hb, hg, hnc, hcm, hcs, htk⟩
 ·omega
 ·refine ⟨g, cap, rfl, hb, lt_of_block hg, hnc, hcm, fun i hi => ?_, h2.frozenAt⟩
  have H : ∀ j, j < 4 → w.cell? ⟨g, i * 4 + j, none⟩ = (spc L[i])[j]? := fun j hj => by
   rw [h2.cellAt (i * 4 + j) (by omega)]; exact flat_get spc 4 (fun _ => rfl) L i j hi hj
  exact ⟨H 0 (by omega), H 1 (by omega), H 2 (by omega), H 3 (by omega)⟩
theorem OwnG.shape {base : Nat} {w : World} {v : Value} {L : List (Nat × Nat)} (h : OwnG base w v L) (hn : 0 < L.length) :
    ∃ g cap, v = .slice (some ⟨g, 0, none⟩) L.length cap ∧ base ≤ g ∧ g < w.heap.size ∧ (∀ i (hi : i < L.length), RgIn w g (i * 2) L[i]) := by
 have h2 := h
 unfold OwnG at h2
 rcases h2.2 with ⟨_, e⟩ | ⟨g, cap, cur, rfl, hb, hg, hnc, hcm, hcs, htk⟩
 ·omega
 ·refine ⟨g, cap, rfl, hb, lt_of_block hg, fun i hi => ?_⟩
  have H : ∀ j, j < 2 → w.cell? ⟨g, i * 2 + j, none⟩ = (rgc L[i])[j]? := fun j hj => by
   rw [h2.cellAt (i * 2 + j) (by omega)]; exact flat_get rgc 2 (fun _ => rfl) L i j hi hj
  exact ⟨H 0 (by omega), H 1 (by omega)⟩
theorem wp_appS {ops : Array Oper} {rest : List Oper} {o : Oper} {a : Act} {Q : Exit → Act → World → Prop} {w : World} (hgd : o.guard = none) (s x : Operand)
    (ho : o.op = .call { callee := .builtin .append, args := #[s, x], argTypes := #[26, 26] }) (base : Nat) (v : Value) (L M : List Sp) (g off c1 : Nat)
    (hs : a.eval s = v) (hx : a.eval x = .slice (some ⟨g, off, none⟩) M.length c1) (hown : OwnS base w v L) (hc : ∀ i (hi : i < M.length), SpIn w g (off + i * 4) M[i]) (hb : L.length + M.length ≤ 5864062014805) (hbase : base ≤ w.heap.size)
    (h : ∀ v' w', OwnS base w' v' (L ++ M) → Below base w w' → wpList Tryz.prog ops Q rest (a.put o.dst v') w') : wpList Tryz.prog ops Q (o :: rest) a w := by
 obtain ⟨i0, hi, hz0, hz1, hz2⟩ := info_parts infoSpanZ
 refine wpList_append_own w hgd s x 26 ho base 31 i0 _ 4 24 Tryz.underlying26 hi hz0 hz1 hz2 rfl (by decide) v L.length (spcs L) hs hown ⟨g, off, none⟩ M.length c1 (spcs M) hx (spcs_len M) ?_ (spcs_one M) (by unfold maxLen; omega) (by omega) hbase ?_
 ·intro j u hj
  have hl := spcs_len M
  have hjl : j < M.length * 4 := by rw [← hl]; exact (List.getElem?_eq_some_iff.1 hj).1
  obtain ⟨q, r, hr, rfl⟩ : ∃ q r, r < 4 ∧ j = q * 4 + r := ⟨j / 4, j % 4, Nat.mod_lt _ (by decide), by omega⟩
  have hq : q < M.length := by omega
  rw [spcs, flat_get spc 4 (fun _ => rfl) M q r hq hr] at hj
  have k := hc q hq
  rw [Go.WideShapes.add_plain]
  match r, hr with
  | 0, _ => simp [spc] at hj; subst hj; exact k.1
  | 1, _ => simp [spc] at hj; subst hj; show w.cell? ⟨g, off + (q * 4 + 1), none⟩ = _; rw [← Nat.add_assoc]; exact k.2.1
  | 2, _ => simp [spc] at hj; subst hj; show w.cell? ⟨g, off + (q * 4 + 2), none⟩ = _; rw [← Nat.add_assoc]; exact k.2.2.1
  | 3, _ => simp [spc] at hj; subst hj; show w.cell? ⟨g, off + (q * 4 + 3), none⟩ = _; rw [← Nat.add_assoc]; exact k.2.2.2
 ·intro v' w' h1 h2 h3
  exact h v' w' (by unfold OwnS; rw [spcs_app] at h1; simpa using h1) (Below.grown (Below.refl _ _) h2 hbase (fun k hk => (World.ownsRow.lt hown k hk).1))
theorem wp_appG {ops : Array Oper} {rest : List Oper} {o : Oper} {a : Act} {Q : Exit → Act → World → Prop} {w : World} (hgd : o.guard = none) (s x : Operand)
    (ho : o.op = .call { callee := .builtin .append, args := #[s, x], argTypes := #[94, 94] }) (base : Nat) (v : Value) (L : List (Nat × Nat)) (r : Nat × Nat) (g c1 : Nat)
    (hs : a.eval s = v) (hx : a.eval x = .slice (some ⟨g, 0, none⟩) 1 c1) (hown : OwnG base w v L) (hc : RgIn w g 0 r) (hb : L.length + 1 ≤ 8796093022208) (hbase : base ≤ w.heap.size)
    (h : ∀ v' w', OwnG base w' v' (L ++ [r]) → w.grownBy w' v.ownBlock → wpList Tryz.prog ops Q rest (a.put o.dst v') w') : wpList Tryz.prog ops Q (o :: rest) a w := by
 obtain ⟨i0, hi, hz0, hz1, hz2⟩ := info_parts infoRangeZ
 refine wpList_append_own w hgd s x 94 ho base 90 i0 _ 2 16 Tryz.underlying94 hi hz0 hz1 hz2 rfl (by decide) v L.length (rgcs L) hs hown ⟨g, 0, none⟩ 1 c1 (rgcs [r]) hx rfl ?_ (rgcs_one [r]) (by unfold maxLen; omega) (by omega) hbase ?_
 ·intro j u hj
  rw [Go.WideShapes.add_plain]
  match j with
  | 0 => simp [rgcs, rgc] at hj; subst hj; exact hc.1
  | 1 => simp [rgcs, rgc] at hj; subst hj; exact hc.2
  | j + 2 => simp [rgcs, rgc] at hj
 ·intro v' w' h1 h2 h3
  exact h v' w' (by unfold OwnG; rw [rgcs_app] at h1; simpa using h1) h2
theorem OwnS.mono {base b' : Nat} {w : World} {v : Value} {L : List Sp} (h : OwnS base w v L) (hb : b' ≤ base) : OwnS b' w v L := by
 refine ⟨h.1, ?_⟩
 rcases h.2 with e | ⟨g, cap, cur, e, hb', r⟩
 ·exact .inl e
 ·exact .inr ⟨g, cap, cur, e, by omega, r⟩
theorem OwnG.mono {base b' : Nat} {w : World} {v : Value} {L : List (Nat × Nat)} (h : OwnG base w v L) (hb : b' ≤ base) : OwnG b' w v L := by
 refine ⟨h.1, ?_⟩
 rcases h.2 with e | ⟨g, cap, cur, e, hb', r⟩
 ·exact .inl e
 ·exact .inr ⟨g, cap, cur, e, by omega, r⟩
def SRow (w : World) (v : Value) (n : Nat) (f : Nat → Sp) : Prop := n ≤ 9223372036854775807 ∧ ∃ a c, v = .slice a n c ∧ ∀ i, i < n → ∃ b off, a = some ⟨b, off, none⟩ ∧ Fl.W (f i).a ∧ Fl.W (f i).b ∧ SpIn w b (off + i * 4) (f i)
theorem SRow.old {w w' : World} {v : Value} {n : Nat} {f : Nat → Sp} (h : SRow w v n f) (u : Old w w') : SRow w' v n f := by
 obtain ⟨hm, a, c, hv, hc⟩ := h
 exact ⟨hm, a, c, hv, fun i hi => by obtain ⟨b, off, q1, q2, q3, c0⟩ := hc i hi; exact ⟨b, off, q1, q2, q3, c0.old u⟩⟩
def atS (L : List Sp) (i : Nat) : Sp := (L[i]?).getD ⟨0, 0, false, false⟩
theorem atS_get (L : List Sp) (i : Nat) (h : i < L.length) : atS L i = L[i] := by simp [atS, h]
theorem OwnS.row {base : Nat} {w : World} {v : Value} {L : List Sp} (h : OwnS base w v L) (hW : ∀ s ∈ L, Fl.W s.a ∧ Fl.W s.b) (hl : L.length ≤ 9223372036854775807) : SRow w v L.length (atS L) := by
 refine ⟨hl, ?_⟩
 by_cases hn : 0 < L.length
 ·obtain ⟨g, cap, hv, _, _, _, _, hc, _⟩ := h.shape hn
  refine ⟨_, _, hv, fun i hi => ⟨g, 0, rfl, ?_, ?_, ?_⟩⟩
  ·rw [atS_get L i hi]; exact (hW _ (List.getElem_mem hi)).1
  ·rw [atS_get L i hi]; exact (hW _ (List.getElem_mem hi)).2
  ·rw [atS_get L i hi, Nat.zero_add]; exact hc i hi
 ·obtain ⟨a, c, hv⟩ := h.len
  exact ⟨a, c, hv, fun i hi => absurd hi (by omega)⟩
end Go.Proofs.YtajoodkapiifcaaGreat
namespace Go.Proofs.YtajoodkapiifcaaGreat
set_option linter.unusedSimpArgs false
open Go.RowKit
set_option linter.unusedVariables false
namespace Fl
def spo (r : Nat × Nat) : Sp := ⟨of r.1, of r.2, false, false⟩
theorem V_isCode {c : Nat} (h : V c) : isCode c = true ∧ c ≠ 0 ∧ W c := by
 refine ⟨(isCode_iff c).2 ?_, ?_, ?_⟩ <;> unfold V at h <;> (try unfold W) <;> omega
theorem of_V {c : Nat} (h : V c) : W (of c) ∧ code (of c) = c ∧ canon (of c) = of c ∧ nan (of c) = false := by
 obtain ⟨h1, h2, h3⟩ := V_isCode h
 have hw : W (of c) := of_lt c h3
 have hc := code_of c h3 h1
 refine ⟨hw, hc, ?_, ?_⟩
 ·rw [← of_code (of c) hw, hc]
 ·cases hn : nan (of c)
  ·rfl
  ·rw [code_nan _ hn] at hc; exact absurd hc.symm h2
theorem V_code {a : Nat} (h : W a) (hn : nan a = false) : V (code a) := by
 have := code_pos a h hn
 have := code_range a h
 unfold V; omega
theorem spo_form {r : Nat × Nat} (h : RV r) : IsForm (of r.1) (of r.2) false := by
 have a := of_V h.1
 have b := of_V h.2.1
 exact ⟨a.1, b.1, fun e => (nomatch e), fun _ => ⟨a.2.2.1, b.2.2.1, a.2.2.2, b.2.2.2, by rw [a.2.1, b.2.1]; exact h.2.2⟩⟩
def cd (s : Sp) : List (Nat × Nat) := if csE s.a s.b s.p s.q = true then [] else [(code (csU s.a s.b s.p s.q), code (csV s.a s.b s.p s.q))]
def cdl (f : Nat → Sp) : Nat → List (Nat × Nat) | 0 => [] | k + 1 => cdl f k ++ cd (f k)
theorem cd_RV (s : Sp) (ha : W s.a) (hb : W s.b) : ∀ r ∈ cd s, RV r := by
 intro r hr
 unfold cd at hr
 split at hr
 ·cases hr
 ·rw [List.mem_singleton.1 hr]
  rename_i h
  have h' : csE s.a s.b s.p s.q = false := by simpa using h
  obtain ⟨w1, w2, _, k⟩ := cs_isForm s.a s.b s.p s.q ha hb
  obtain ⟨_, _, n1, n2, l⟩ := k h'
  exact ⟨V_code w1 n1, V_code w2 n2, l⟩
theorem cd_len (s : Sp) : (cd s).length ≤ 1 := by unfold cd; split <;> simp
theorem cdl_len (f : Nat → Sp) : ∀ k, (cdl f k).length ≤ k
 | 0 => Nat.le_refl _
 | k + 1 => by rw [cdl, List.length_append]; have := cdl_len f k; have := cd_len (f k); omega
theorem cdl_RV (f : Nat → Sp) : ∀ k, (∀ i, i < k → W (f i).a ∧ W (f i).b) → ∀ r ∈ cdl f k, RV r
 | 0, _ => fun r hr => by cases hr
 | k + 1, h => fun r hr => by
  rcases List.mem_append.1 hr with q | q
  ·exact cdl_RV f k (fun i hi => h i (by omega)) r q
  ·exact cd_RV (f k) (h k (by omega)).1 (h k (by omega)).2 r q
theorem cdl_mem (f : Nat → Sp) : ∀ k r, r ∈ cdl f k ↔ ∃ i, i < k ∧ r ∈ cd (f i)
 | 0, r => ⟨fun h => (nomatch h), fun ⟨i, hi, _⟩ => absurd hi (by omega)⟩
 | k + 1, r => by
  rw [cdl, List.mem_append, cdl_mem f k r]
  constructor
  ·rintro (⟨i, hi, h⟩ | h)
   ·exact ⟨i, by omega, h⟩
   ·exact ⟨k, by omega, h⟩
  ·rintro ⟨i, hi, h⟩
   by_cases e : i = k
   ·subst e; exact .inr h
   ·exact .inl ⟨i, by omega, h⟩
theorem cd_spo {r : Nat × Nat} (h : RV r) : cd (spo r) = [r] := by
 have a := of_V h.1
 have b := of_V h.2.1
 obtain ⟨e1, e2, e3⟩ := cs_of_form _ _ _ (spo_form h)
 unfold cd spo
 dsimp only
 rw [e1, e2, e3]
 simp [a.2.1, b.2.1]
theorem cdl_spo (L : List (Nat × Nat)) (h : ∀ r ∈ L, RV r) : cdl (atS (L.map spo)) L.length = L := by
 have : ∀ k, k ≤ L.length → cdl (atS (L.map spo)) k = L.take k := by
  intro k
  induction k with
  | zero => intro _; simp [cdl]
  | succ k ih =>
   intro hk
   have hk' : k < L.length := by omega
   rw [cdl, ih (by omega), atS_get _ _ (by simpa using hk'), List.getElem_map, cd_spo (h _ (List.getElem_mem _)), List.take_succ_eq_append_getElem hk']
 rw [this _ (Nat.le_refl _), List.take_length]
theorem spo_cs (s : Sp) (ha : W s.a) (hb : W s.b) : spo (code (csU s.a s.b s.p s.q), code (csV s.a s.b s.p s.q)) = ⟨csU s.a s.b s.p s.q, csV s.a s.b s.p s.q, false, false⟩ := by
 unfold spo
 dsimp only
 rw [of_code _ (csU_W _ _ _ _ ha), of_code _ (csV_W _ _ _ _ hb), csU_canon _ _ _ _ ha, csV_canon _ _ _ _ hb]
theorem gap_nx {l f : Nat × Nat} (hl : RV l) (hf : RV f) : decide (code (nextB (of l.2)) < code (of f.1)) = decide (nx l.2 < f.1) := by
 have a := of_V hl.2.1
 have b := of_V hf.1
 rw [decide_eq_decide, b.2.1]
 have v1 := hl.2.1
 have v2 := hf.1
 by_cases hi : of l.2 = INF
 ·have c := (code_inf_iff _ a.1).2 hi
  have e : code (nextB (of l.2)) = code (of l.2) := by rw [hi]; decide +kernel
  rw [e, a.2.1]; rw [a.2.1] at c
  have := nx_cases l.2
  unfold V at *; omega
 ·have c : l.2 ≠ 18442240474082181120 := fun h => hi ((code_inf_iff _ a.1).1 (a.2.1.trans h))
  rw [code_next _ a.1 hi, a.2.1]
  have := nx_cases l.2
  unfold nc
  unfold V at *
  (repeat' split) <;> omega
theorem spo_W {r : Nat × Nat} (h : RV r) : W (spo r).a ∧ W (spo r).b := ⟨(of_V h.1).1, (of_V h.2.1).1⟩
theorem mx_of {a b : Nat} (ha : V a) (hb : V b) : mx (of a) (of b) = of (max a b) := by
 have x := of_V ha
 have y := of_V hb
 unfold mx
 rw [x.2.1, y.2.1]
 split
 ·rw [Nat.max_eq_right (by omega)]
 ·rw [Nat.max_eq_left (by omega)]
end Fl
end Go.Proofs.YtajoodkapiifcaaGreat
namespace Go.Proofs.YtajoodkapiifcaaGreat
set_option linter.unusedSimpArgs false
open Go.RowKit
set_option linter.unusedVariables false
attribute [local go_sem] run_bits run_frombits run_store_float eqF
namespace Fl
def hasS (s : Sp) (k : Nat) : Bool := hasF (csU s.a s.b s.p s.q) (csV s.a s.b s.p s.q) (csE s.a s.b s.p s.q) k
def anyG (g : Nat → Bool) : Nat → Bool | 0 => false | n + 1 => anyG g n || g n
theorem anyG_true (g : Nat → Bool) : ∀ n i, i < n → g i = true → anyG g n = true
 | n + 1, i, h, e => by
  unfold anyG
  by_cases hi : i = n
  ·subst hi; rw [e]; simp
  ·rw [anyG_true g n i (by omega) e]; rfl
theorem anyG_step (g : Nat → Bool) (k : Nat) (h : anyG g k = false) (e : g k = false) : anyG g (k + 1) = false := by
 show (anyG g k || g k) = false
 rw [h, e]; rfl
end Fl
abbrev X8 (b o b' o' a1 b1 : Nat) (p1 q1 : Bool) (w : World) : Prop := (w.cell? ⟨b, o, none⟩ = some (.float .f64 a1) ∧ w.cell? ⟨b, o + 1, none⟩ = some (.float .f64 b1) ∧ w.cell? ⟨b, o + 2, none⟩ = some (.bool p1) ∧ w.cell? ⟨b, o + 3, none⟩ = some (.bool q1)) ∧ w.cell? ⟨b', o', none⟩ = some (.float .f64 a1) ∧ w.cell? ⟨b', o' + 1, none⟩ = some (.float .f64 b1) ∧ w.cell? ⟨b', o' + 2, none⟩ = some (.bool p1) ∧ w.cell? ⟨b', o' + 3, none⟩ = some (.bool q1)
theorem X8.old {b o b' o' a1 b1 : Nat} {p1 q1 : Bool} {w w' : World} (u : Old w w') (h : X8 b o b' o' a1 b1 p1 q1 w) : X8 b o b' o' a1 b1 p1 q1 w' := ⟨⟨u.keep h.1.1, u.keep h.1.2.1, u.keep h.1.2.2.1, u.keep h.1.2.2.2⟩, u.keep h.2.1, u.keep h.2.2.1, u.keep h.2.2.2.1, u.keep h.2.2.2.2⟩
set_option maxHeartbeats 1000000 in
set_option maxRecDepth 20000 in
theorem covers_any (v : Value) (n : Nat) (f : Nat → Sp) (k : Nat) (hk : Fl.W k) (w : World) (hv : SRow w v n f) :
    Calls Tryz.prog 21 #[v, .float .f64 k] w fun e w' => e = .returned (.bool (Fl.anyG (fun i => Fl.hasS (f i) k) n)) ∧ Old w w' := by
 obtain ⟨hm, a, c, rfl, hc⟩ := hv
 have HC := hid hc
 generalize hg : (fun i => Fl.hasS (f i) k) = g
 have HG := hid hg
 clear hc hg
 go_enter Tryz.func21, Tryz.ntmps21
 go_wp2
 go_loopw [9] (fun i wr => ∃ j : Nat, j ≤ n ∧ i = .int .i64 (j : Nat) ∧ Fl.anyG g j = false ∧ Old w wr) (fun i _ => n - (intOf i).toNat)
 case atStart => exact ⟨0, Nat.zero_le _, rfl, rfl, Old.refl _⟩
 case round =>
  obtain ⟨j, hj, rfl, h0, hu⟩ := hrel
  by_cases hlt : j < n
  ·obtain ⟨b, off, ha, hW1, hW2, c0, c1, c2, c3⟩ := HC.out j hlt
   subst ha
   have x0 := hu.keep c0
   have x1 := hu.keep c1
   have x2 := hu.keep c2
   have x3 := hu.keep c3
   have HK := hid (fun W => has_any (f j).a (f j).b k hW1 hW2 hk (f j).p (f j).q W)
   have hgj : Fl.hasF (Fl.csU (f j).a (f j).b (f j).p (f j).q) (Fl.csV (f j).a (f j).b (f j).p (f j).q) (Fl.csE (f j).a (f j).b (f j).p (f j).q) k = g j := by rw [← HG.out]; rfl
   rw [hgj] at HK
   have l1 : (0 : Int) ≤ (j : Int) := by omega
   have l2 : (j : Int) < (n : Int) := by omega
   have H0 := hid h0
   clear c0 c1 c2 c3 h0 hgj hW1 hW2
   generalize (f j).a = a1 at *
   generalize (f j).b = b1 at *
   generalize (f j).p = p1 at *
   generalize (f j).q = q1 at *
   cases hg : g j
   ·rw [hg] at HK
    have HS := hid (Fl.anyG_step g j H0.out hg)
    clear hg
    go_wp2_with (go_at_call 44; refine (HK.out _).mono ?_; rintro o w5 ⟨rfl, u5⟩; have U5 := hid (Old.trans (hu.alloc _) u5.old); clear u5)
    go_roundw
    case rel => exact ⟨j + 1, hlt, by go_num, HS.out, U5.out⟩
    case measure => simp [intOf]; omega
   ·have HT := hid (Fl.anyG_true g n j hlt hg)
    rw [hg] at HK
    clear hg
    go_wp2_with (go_at_call 44; refine (HK.out _).mono ?_; rintro o w5 ⟨rfl, u5⟩; have U5 := hid (Old.trans (hu.alloc _) u5.old); clear u5)
    go_ret
    exact ⟨ret_b HT.out.symm, U5.out⟩
  ·obtain rfl : j = n := by omega
   have H0 := hid h0
   clear h0
   go_wp2
   go_ret
   exact ⟨ret_b H0.out.symm, hu⟩
set_option maxHeartbeats 1000000 in
set_option maxRecDepth 20000 in
theorem same_rows (v1 v2 : Value) (n : Nat) (f : Nat → Sp) (w : World) (h1 : SRow w v1 n f) (h2 : SRow w v2 n f) :
    Calls Tryz.prog 30 #[v1, v2] w fun e w' => e = .returned (.bool true) ∧ Old w w' := by
 obtain ⟨hm, a, c, rfl, hc⟩ := h1
 obtain ⟨_, a', c', rfl, hc'⟩ := h2
 have HC := hid hc
 have HC' := hid hc'
 clear hc hc'
 go_enter Tryz.func30, Tryz.ntmps30
 go_wp2
 go_loopw [5] (fun i wr => ∃ j : Nat, j ≤ n ∧ i = .int .i64 (j : Nat) ∧ Old w wr) (fun i _ => n - (intOf i).toNat)
 case atStart => exact ⟨0, Nat.zero_le _, rfl, Old.refl _⟩
 case round =>
  obtain ⟨j, hj, rfl, hu⟩ := hrel
  by_cases hlt : j < n
  ·obtain ⟨b, off, ha, _, _, c0, c1, c2, c3⟩ := HC.out j hlt
   obtain ⟨b', off', ha', _, _, d0, d1, d2, d3⟩ := HC'.out j hlt
   subst ha ha'
   have x0 := hu.keep c0
   have x1 := hu.keep c1
   have x2 := hu.keep c2
   have x3 := hu.keep c3
   have y0 := hu.keep d0
   have y1 := hu.keep d1
   have y2 := hu.keep d2
   have y3 := hu.keep d3
   have HK0 := fun W => sameSpan_any (f j).a (f j).b (f j).a (f j).b (f j).p (f j).q (f j).p (f j).q W
   have e1 : ((f j).p == (f j).p && (f j).q == (f j).q && (decide ((f j).a = (f j).a) && decide ((f j).b = (f j).b))) = true := by simp
   rw [e1] at HK0
   have HK := hid HK0
   have l1 : (0 : Int) ≤ (j : Int) := by omega
   have l2 : (j : Int) < (n : Int) := by omega
   clear c0 c1 c2 c3 d0 d1 d2 d3 HK0 e1
   generalize (f j).a = a1 at *
   generalize (f j).b = b1 at *
   generalize (f j).p = p1 at *
   generalize (f j).q = q1 at *
   have hX : X8 b (off + j * 4) b' (off' + j * 4) a1 b1 p1 q1 wr := ⟨⟨x0, x1, x2, x3⟩, ⟨y0, y1, y2, y3⟩⟩
   go_wp2_with fail
   go_region_held3 (X8 b (off + j * 4) b' (off' + j * 4) a1 b1 p1 q1) (first | assumption | exact hX | (refine X8.old ?_ hX; assumption)) (first | (go_at_call 58; refine (HK.out _).mono ?_; rintro o w5 ⟨rfl, u5⟩; have U5 : Old wr w5 := ((Old.refl _).drew).trans u5.old))
   all_goals go_wp2
   go_roundw
   case rel => exact ⟨j + 1, hlt, by go_num, Old.trans hu U5⟩
   case measure => simp [intOf]; omega
  ·obtain rfl : j = n := by omega
   go_wp2
   go_ret
   exact ⟨rfl, hu⟩
theorem map_snoc (L : List (Nat × Nat)) (k : Nat) (h : k < L.length) : (L.take (k + 1)).map Fl.spo = (L.take k).map Fl.spo ++ [Fl.spo L[k]] := by
 rw [List.take_succ_eq_append_getElem h, List.map_append]; rfl
set_option maxHeartbeats 1000000 in
set_option maxRecDepth 20000 in
theorem spans_any (v : Value) (base : Nat) (L : List (Nat × Nat)) (w : World) (hown : OwnG base w v L) (hR : ∀ r ∈ L, Fl.RV r) (hl : L.length ≤ 5864062014805) :
    Calls Tryz.prog 55 #[v] w fun e w' => ∃ v', e = .returned v' ∧ OwnS w.heap.size w' v' (L.map Fl.spo) ∧ Old w w' := by
 have hsh : 0 < L.length → ∃ g cap, v = .slice (some ⟨g, 0, none⟩) L.length cap ∧ ∀ i (hi : i < L.length), RgIn w g (i * 2) L[i] := fun h => by
  obtain ⟨g, cap, e, _, _, r⟩ := hown.shape h; exact ⟨g, cap, e, r⟩
 obtain ⟨a, c, rfl⟩ := hown.len
 have HS := hid hsh
 clear hsh hown
 go_enter Tryz.func55, Tryz.ntmps55
 go_wp2
 go_loopw [3, 4] (fun o i wr => ∃ k : Nat, k ≤ L.length ∧ i = .int .i64 (k : Nat) ∧ OwnS w.heap.size wr o ((L.take k).map Fl.spo) ∧ Old w wr) (fun _ i _ => L.length - (intOf i).toNat)
 case atStart => exact ⟨0, Nat.zero_le _, rfl, OwnS.empty (Nat.le_refl _) rfl, (Old.refl w).alloc _⟩
 case round =>
  obtain ⟨k, hk, rfl, ho, hu⟩ := hrel
  have HO := hid ho
  have HU := hid hu
  clear ho hu
  by_cases hlt : k < L.length
  ·obtain ⟨g, cap, he, hr⟩ := HS.out (by omega)
   obtain ⟨rfl, rfl⟩ : a = some ⟨g, 0, none⟩ ∧ c = cap := by cases he; exact ⟨rfl, rfl⟩
   have hrv := hR L[k] (List.getElem_mem hlt)
   obtain ⟨x0, x1⟩ := (hr k hlt).old HU.out
   have HK := hid (fun W => rSpan_some L[k].1 L[k].2 (Fl.V_isCode hrv.1).2.2 (Fl.V_isCode hrv.2.1).2.2 (by have := hrv.2.2; omega) W)
   have l1 : (0 : Int) ≤ (k : Int) := by omega
   have l2 : (k : Int) < (L.length : Int) := by omega
   have HM := hid (map_snoc L k hlt)
   have hlk : (List.map Fl.spo (L.take k)).length = k := by simp; omega
   have hsp : Fl.spo L[k] = ⟨Fl.of L[k].1, Fl.of L[k].2, false, false⟩ := rfl
   have HSP := hid hsp
   clear hsp hr he HS
   generalize Fl.of L[k].1 = u at *
   generalize Fl.of L[k].2 = v at *
   go_wp2_with (first | (go_at_call 84; refine (HK.out _).mono ?_; rintro o w5 ⟨rfl, u5⟩; have U5 := hid u5.old; clear u5) | (at_builtin; refine wp_appS rfl (.tmp 12) (.tmp 18) rfl w.heap.size _ (List.map Fl.spo (L.take k)) [⟨u, v, false, false⟩] _ 0 1 rfl rfl (OwnS.old HO.out (U5.out.alloc _)) (spIn_new _ ⟨u, v, false, false⟩ _ rfl) (by rw [hlk]; simp; omega) (by have := HU.out.size; have := U5.out.size; simp; omega) ?_; intro v8 w8 o8 u8; have O8 := hid o8; have V8 := hid (Old.below ((HU.out.trans U5.out).alloc _) u8); clear o8 u8))
   go_roundw
   case rel => exact ⟨k + 1, hlt, by go_num, by rw [HM.out, HSP.out]; exact O8.out, V8.out⟩
   case measure => simp [intOf]; omega
  ·obtain rfl : k = L.length := by omega
   have h2 := HO.out
   rw [List.take_length] at h2
   obtain ⟨a', c', rfl⟩ := h2.len
   go_wp2
   go_ret
   exact ⟨_, rfl, h2, HU.out⟩
end Go.Proofs.YtajoodkapiifcaaGreat
namespace Go.Proofs.YtajoodkapiifcaaGreat
set_option linter.unusedSimpArgs false
abbrev oCmv0 : Oper := { dst := some 7, op := .load 31 (.tmp 2), type := 31, pos := "span.go:138", after := #[], guard := none }
abbrev oCmv1 : Oper := { dst := some 9, op := .load 31 (.tmp 3), type := 31, pos := "span.go:138", after := #[], guard := none }
abbrev oCmv2 : Oper := { dst := some 8, op := .call { callee := Callee.value (.func 65), args := #[.tmp 7], argTypes := #[31] }, type := 31, pos := "span.go:138", after := #[⟨0, .data⟩], guard := none }
abbrev oCmv3 : Oper := { dst := some 5, op := .alloc 31, type := 0, pos := "span.go:138", after := #[], guard := none }
abbrev oCmv4 : Oper := { dst := some 6, op := .alloc 31, type := 0, pos := "span.go:138", after := #[], guard := none }
abbrev oCmv5 : Oper := { dst := some 10, op := .call { callee := Callee.value (.func 65), args := #[.tmp 9], argTypes := #[31] }, type := 31, pos := "span.go:138", after := #[⟨2, .data⟩, ⟨1, .chain⟩], guard := none }
abbrev oCmv6 : Oper := { dst := none, op := .store 31 (.tmp 5) (.tmp 8), type := 0, pos := "span.go:138", after := #[⟨4, .data⟩, ⟨1, .data⟩, ⟨3, .chain⟩, ⟨0, .phase⟩, ⟨1, .phase⟩, ⟨2, .textOnly Departure.lateStores⟩, ⟨3, .textOnly Departure.lateStoresUnsure⟩, ⟨4, .phase⟩, ⟨5, .phase⟩], guard := none }
abbrev oCmv7 : Oper := { dst := none, op := .store 31 (.tmp 6) (.tmp 10), type := 0, pos := "span.go:138", after := #[⟨5, .data⟩, ⟨3, .data⟩, ⟨6, .chain⟩, ⟨0, .phase⟩, ⟨1, .phase⟩, ⟨2, .phase⟩, ⟨3, .phase⟩, ⟨4, .phase⟩, ⟨5, .phase⟩, ⟨6, .phase⟩], guard := none }
abbrev oCmv8 : Oper := { dst := some 23, op := .fieldAddr 31 (.tmp 5) 0, type := 0, pos := "span.go:147", after := #[], guard := none }
abbrev oCmv9 : Oper := { dst := some 24, op := .load 22 (.tmp 23), type := 22, pos := "span.go:147", after := #[⟨0, .data⟩], guard := none }
abbrev oCmv10 : Oper := { dst := some 25, op := .fieldAddr 31 (.tmp 6) 0, type := 0, pos := "span.go:147", after := #[], guard := none }
abbrev oCmv11 : Oper := { dst := some 26, op := .load 22 (.tmp 25), type := 22, pos := "span.go:147", after := #[⟨2, .data⟩], guard := none }
abbrev oCmv12 : Oper := { dst := some 28, op := .fieldAddr 31 (.tmp 5) 1, type := 0, pos := "span.go:147", after := #[], guard := none }
abbrev oCmv13 : Oper := { dst := some 29, op := .load 22 (.tmp 28), type := 22, pos := "span.go:147", after := #[⟨5, .data⟩], guard := none }
abbrev oCmv14 : Oper := { dst := some 30, op := .fieldAddr 31 (.tmp 6) 1, type := 0, pos := "span.go:147", after := #[], guard := none }
abbrev oCmv15 : Oper := { dst := some 31, op := .load 22 (.tmp 30), type := 22, pos := "span.go:147", after := #[⟨7, .data⟩], guard := none }
abbrev oCmv16 : Oper := { dst := some 27, op := .call { callee := Callee.value (.func 72), args := #[.tmp 24, .tmp 26], argTypes := #[22, 22] }, type := 3, pos := "span.go:147", after := #[⟨1, .data⟩, ⟨3, .data⟩], guard := none }
abbrev oCmv17 : Oper := { dst := some 32, op := .call { callee := Callee.value (.func 72), args := #[.tmp 29, .tmp 31], argTypes := #[22, 22] }, type := 3, pos := "span.go:147", after := #[⟨6, .data⟩, ⟨8, .data⟩, ⟨4, .chain⟩], guard := none }
abbrev oCmv18 : Oper := { dst := some 33, op := .buildSlice 170 2 #[(0, .tmp 27), (1, .tmp 32)], type := 170, pos := "span.go:147", after := #[⟨4, .data⟩, ⟨9, .data⟩], guard := none }
abbrev oCmv19 : Oper := { dst := some 34, op := .call { callee := Callee.value (.func 138), args := #[.tmp 33], argTypes := #[170] }, type := 3, pos := "span.go:147", after := #[⟨10, .data⟩, ⟨9, .chain⟩], guard := none }
abbrev oCmv20 : Oper := { dst := some 4, op := .assign (.tmp 34), type := 3, pos := "span.go:147", after := #[⟨11, .data⟩, ⟨11, .chain⟩, ⟨0, .phase⟩, ⟨1, .phase⟩, ⟨2, .phase⟩, ⟨3, .phase⟩, ⟨4, .phase⟩, ⟨5, .phase⟩, ⟨6, .phase⟩, ⟨7, .phase⟩, ⟨8, .phase⟩, ⟨9, .phase⟩, ⟨10, .phase⟩, ⟨11, .phase⟩], guard := none }
open Go.RowKit
set_option linter.unusedVariables false
set_option maxHeartbeats 400000 in
set_option maxRecDepth 20000 in
theorem or_first (m c : Nat) (x y : Int) (hx : (x != 0) = true) (W : World) (h0 : W.cell? ⟨m, 0, none⟩ = some (.int .i64 x)) (h1 : W.cell? ⟨m, 1, none⟩ = some (.int .i64 y)) :
    Calls Tryz.prog 138 #[.slice (some ⟨m, 0, none⟩) 2 c] W fun e w' => e = .returned (.int .i64 x) ∧ w' = W := by
 go_enter Tryz.func138, Tryz.ntmps138
 go_wp2
 refine wp_loop_rounds 1 ?_
 rw [rounds_succ]
 go_wp2
 all_goals go_ret
 all_goals exact ⟨rfl, rfl⟩
set_option maxHeartbeats 400000 in
set_option maxRecDepth 20000 in
theorem or_second (m c : Nat) (y : Int) (hy : (y != 0) = true) (W : World) (h0 : W.cell? ⟨m, 0, none⟩ = some (.int .i64 0)) (h1 : W.cell? ⟨m, 1, none⟩ = some (.int .i64 y)) :
    Calls Tryz.prog 138 #[.slice (some ⟨m, 0, none⟩) 2 c] W fun e w' => e = .returned (.int .i64 y) ∧ w' = W := by
 go_enter Tryz.func138, Tryz.ntmps138
 go_wp2
 refine wp_loop_rounds 2 ?_
 rw [rounds_succ]
 go_wp2
 rw [rounds_succ]
 go_wp2
 all_goals go_ret
 all_goals exact ⟨rfl, rfl⟩
set_option maxHeartbeats 400000 in
set_option maxRecDepth 20000 in
theorem or_none (m c : Nat) (W : World) (h0 : W.cell? ⟨m, 0, none⟩ = some (.int .i64 0)) (h1 : W.cell? ⟨m, 1, none⟩ = some (.int .i64 0)) :
    Calls Tryz.prog 138 #[.slice (some ⟨m, 0, none⟩) 2 c] W fun e w' => e = .returned (.int .i64 0) ∧ w' = W := by
 go_enter Tryz.func138, Tryz.ntmps138
 go_wp2
 refine wp_loop_rounds 3 ?_
 rw [rounds_succ]
 go_wp2
 rw [rounds_succ]
 go_wp2
 rw [rounds_succ]
 go_wp2
 all_goals go_ret
 all_goals exact ⟨rfl, rfl⟩
theorem R2i_new {m : Nat} {u v : Int} {w w' : World} (hm : m = w.heap.size) (hw : w' = w.alloc (.cells #[.int .i64 u, .int .i64 v] 3)) : w'.cell? ⟨m, 0, none⟩ = some (.int .i64 u) ∧ w'.cell? ⟨m, 1, none⟩ = some (.int .i64 v) ∧ Up w w' := by subst hm hw; exact ⟨by simp, by simp, (Up.refl _).alloc _⟩
theorem stepBuild2i {ops : Array Oper} {o : Oper} {a : Act} {w : World} {K : Act → World → Prop} {Q : Exit → Act → World → Prop} {E : Prop} (hg : o.guard = none) (x y : Operand) (hop : o.op = Op.buildSlice 170 2 #[(0, x), (1, y)]) (u v : Int)
    (hx : a.eval x = .int .i64 u) (hy : a.eval y = .int .i64 v)
    (hK : ∀ m w', m = w.heap.size → w' = w.alloc (.cells #[.int .i64 u, .int .i64 v] 3) → K (a.put o.dst (.slice (some ⟨m, 0, none⟩) 2 2)) w') :
    if Region.wanted o (yielded ops a.tmps) = true then Oper.wp Tryz.prog o a w K Q else E := by
 have hw : Region.wanted o (yielded ops a.tmps) = true := by simp [Region.wanted, hg]
 rw [if_pos hw]
 obtain ⟨d, p, t, ps, af, gd⟩ := o
 subst hop
 unfold Oper.wp execOp
 simp only [List.map_toArray, List.map_cons, List.map_nil, hx, hy]
 go_simp
 exact hK _ _ rfl rfl
theorem ent_fcmp (args : Array Value) (w : World) : (callFunc 72 args).run Tryz.prog w = .ok (.enter 72 args) w := by kernel_rfl
theorem ent_or (args : Array Value) (w : World) : (callFunc 138 args).run Tryz.prog w = .ok (.enter 138 args) w := by kernel_rfl
attribute [local go_sem] run_bits run_frombits run_store_float eqF
set_option maxHeartbeats 4000000 in
set_option maxRecDepth 20000 in
theorem cmp_core (a b c d u1 v1 u2 v2 : Nat) (x y R : Int) (p q r s e1 e2 q1 q2 : Bool) (h1 : e1 = true → u1 = 0 ∧ v1 = 0) (h2 : e2 = true → u2 = 0 ∧ v2 = 0)
    (g1 : (FloatKind.f64.format.order u1 u2 == some .eq) = q1) (g2 : (FloatKind.f64.format.order v1 v2 == some .eq) = q2)
    (HA : Hid (∀ w, Calls Tryz.prog 65 #[.agg #[.float .f64 a, .float .f64 b, .bool p, .bool q]] w fun o w' => o = .returned (.agg #[.float .f64 u1, .float .f64 v1, .bool e1, .bool e1]) ∧ Up w w')) (HB : Hid (∀ w, Calls Tryz.prog 65 #[.agg #[.float .f64 c, .float .f64 d, .bool r, .bool s]] w fun o w' => o = .returned (.agg #[.float .f64 u2, .float .f64 v2, .bool e2, .bool e2]) ∧ Up w w'))
    (HX : Hid (∀ w, Calls Tryz.prog 72 #[.float .f64 u1, .float .f64 u2] w fun o w' => o = .returned (.int .i64 x) ∧ w' = w)) (HY : Hid (∀ w, Calls Tryz.prog 72 #[.float .f64 v1, .float .f64 v2] w fun o w' => o = .returned (.int .i64 y) ∧ w' = w))
    (HOr : Hid ((e1 || e2) = false → ∀ m c W, W.cell? ⟨m, 0, none⟩ = some (.int .i64 x) → W.cell? ⟨m, 1, none⟩ = some (.int .i64 y) → Calls Tryz.prog 138 #[.slice (some ⟨m, 0, none⟩) 2 c] W fun o w' => o = .returned (.int .i64 R) ∧ w' = W))
    (hR : Hid (((e1 && e2) = true → R = 0) ∧ ((e1 && !e2) = true → R = -1) ∧ ((!e1 && e2) = true → R = 1) ∧ ((q1 && q2 && (!e1 && !e2)) = true → R = 0))) (w : World) :
    Calls Tryz.prog 123 #[.agg #[.float .f64 a, .float .f64 b, .bool p, .bool q], .agg #[.float .f64 c, .float .f64 d, .bool r, .bool s]] w fun o w' => o = .returned (.int .i64 R) ∧ Up w w' := by
 have o0 : FloatKind.f64.format.order 0 0 = some .eq := by decide +kernel
 go_enter Tryz.func123, Tryz.ntmps123
 go_upto_region 1 with fail
 obtain ⟨w0, hw0⟩ : ∃ w0, w0 = ((w.alloc (Obj.cells #[Value.float FloatKind.f64 a, Value.float FloatKind.f64 b, Value.bool p, Value.bool q] 31)).alloc (Obj.cells #[Value.float FloatKind.f64 c, Value.float FloatKind.f64 d, Value.bool r, Value.bool s] 31)) := ⟨_, rfl⟩
 have s0 : B2 w.heap.size a b p q (w.heap.size + 1) c d r s w0 := by rw [hw0]; simp [B2, SpAt]
 have U0 : Up w w0 := by rw [hw0]; exact ((Up.refl w).alloc _).alloc _
 rw [← hw0]
 clear hw0
 have HB0 := hid s0
 clear s0
 go_cut [5, 6] (fun f g wx => ∃ m n : Nat, f = .pointer (some ⟨m, 0, none⟩) ∧ g = .pointer (some ⟨n, 0, none⟩) ∧ SpAt m u1 v1 e1 e1 wx ∧ SpAt n u2 v2 e2 e2 wx ∧ Up w0 wx)
 case first =>
  focus
   refine wp_region_noPanic ?_
   refine wp_region_held_drew (S := B2 w.heap.size a b p q (w.heap.size + 1) c d r s) (by kernel_rfl) ?_ (fun hHeld => ?_)
   ·exact B2.up ((Up.refl _).drew) HB0.out
   try simp only [Act.put, puA, puB, puC]
   clear hHeld
   all_goals
    refine atA [false, false, false, false, false, false, false, false] ?_
    refine tkA (i := 0) (oi := oCmv0) (B2.up (J2.start w0).1 HB0.out) ?_
    try simp only [Act.put, puA, puB, puC]
    refine tkA (i := 2) (oi := oCmv1) (B2.up (J2.start w0).1 HB0.out) ?_
    try simp only [Act.put, puA, puB, puC]
    refine rdA [1, 4, 5] ?_
    refine AllReadyH.cons (o := oCmv2) rfl (fun K hK => ?_) (AllReadyH.cons (o := oCmv3) rfl (fun K hK => ?_) (AllReadyH.cons (o := oCmv4) rfl (fun K hK => ?_) AllReadyH.nil))
    refine stepCall1 ?_ 65 (.tmp 7) #[31] ?_ (.agg #[.float .f64 a, .float .f64 b, .bool p, .bool q]) ?_ ?_ (enter_canonS _ _) ?_
    iterate 4 rfl
    refine (HA.out _).mono ?_
    rintro o x100n ⟨rfl, b100n⟩
    refine ⟨_, rfl, ?_⟩
    have j100n := (J2.start w0).up b100n
    refine hK.out _ _ (B2.up j100n.1 HB0.out) (fun _ => ?_)
    clear hK K
    try simp only [Act.put, puA, puB, puC]
    have jj_100 := j100n
    rotate_left
    refine stepAlloc ?_ ?_ ?_
    iterate 2 rfl
    intro m100n x100n hm100n hx100n
    have j100n := (J2.start w0).nF hm100n hx100n
    clear hm100n hx100n
    refine hK.out _ _ (B2.up j100n.1 HB0.out) (fun _ => ?_)
    clear hK K
    try simp only [Act.put, puA, puB, puC]
    have jj_100 := j100n
    obtain ⟨mm0_100, rfl⟩ : ∃ z, z = m100n := ⟨_, rfl⟩
    rotate_left
    refine stepAlloc ?_ ?_ ?_
    iterate 2 rfl
    intro m100n x100n hm100n hx100n
    have j100n := (J2.start w0).nG hm100n hx100n
    clear hm100n hx100n
    refine hK.out _ _ (B2.up j100n.1 HB0.out) (fun _ => ?_)
    clear hK K
    try simp only [Act.put, puA, puB, puC]
    have jj_100 := j100n
    obtain ⟨mm1_100, rfl⟩ : ∃ z, z = m100n := ⟨_, rfl⟩
    rotate_left
   all_goals first
    |refine atA [true, true, true, false, false, false, false, false] ?_
     refine rdA [3, 4, 5] ?_
     refine AllReadyH.cons (o := oCmv5) rfl (fun K hK => ?_) (AllReadyH.cons (o := oCmv3) rfl (fun K hK => ?_) (AllReadyH.cons (o := oCmv4) rfl (fun K hK => ?_) AllReadyH.nil))
     refine stepCall1 ?_ 65 (.tmp 9) #[31] ?_ (.agg #[.float .f64 c, .float .f64 d, .bool r, .bool s]) ?_ ?_ (enter_canonS _ _) ?_
     iterate 4 rfl
     refine (HB.out _).mono ?_
     rintro o x100n ⟨rfl, b100n⟩
     refine ⟨_, rfl, ?_⟩
     have j100n := jj_100.up b100n
     refine hK.out _ _ (B2.up j100n.1 HB0.out) (fun _ => ?_)
     clear hK K
     try simp only [Act.put, puA, puB, puC]
     have jj_100 := j100n
     rotate_left
     refine stepAlloc ?_ ?_ ?_
     iterate 2 rfl
     intro m100n x100n hm100n hx100n
     have j100n := jj_100.nF hm100n hx100n
     clear hm100n hx100n
     refine hK.out _ _ (B2.up j100n.1 HB0.out) (fun _ => ?_)
     clear hK K
     try simp only [Act.put, puA, puB, puC]
     have jj_100 := j100n
     obtain ⟨mm0_100, rfl⟩ : ∃ z, z = m100n := ⟨_, rfl⟩
     rotate_left
     refine stepAlloc ?_ ?_ ?_
     iterate 2 rfl
     intro m100n x100n hm100n hx100n
     have j100n := jj_100.nG hm100n hx100n
     clear hm100n hx100n
     refine hK.out _ _ (B2.up j100n.1 HB0.out) (fun _ => ?_)
     clear hK K
     try simp only [Act.put, puA, puB, puC]
     have jj_100 := j100n
     obtain ⟨mm1_100, rfl⟩ : ∃ z, z = m100n := ⟨_, rfl⟩
     rotate_left
    |refine atA [true, false, true, false, true, false, false, false] ?_
     refine rdA [1, 5] ?_
     refine AllReadyH.cons (o := oCmv2) rfl (fun K hK => ?_) (AllReadyH.cons (o := oCmv4) rfl (fun K hK => ?_) AllReadyH.nil)
     refine stepCall1 ?_ 65 (.tmp 7) #[31] ?_ (.agg #[.float .f64 a, .float .f64 b, .bool p, .bool q]) ?_ ?_ (enter_canonS _ _) ?_
     iterate 4 rfl
     refine (HA.out _).mono ?_
     rintro o x100n ⟨rfl, b100n⟩
     refine ⟨_, rfl, ?_⟩
     have j100n := jj_100.up b100n
     refine hK.out _ _ (B2.up j100n.1 HB0.out) (fun _ => ?_)
     clear hK K
     try simp only [Act.put, puA, puB, puC]
     have jj_100 := j100n
     rotate_left
     refine stepAlloc ?_ ?_ ?_
     iterate 2 rfl
     intro m100n x100n hm100n hx100n
     have j100n := jj_100.nG hm100n hx100n
     clear hm100n hx100n
     refine hK.out _ _ (B2.up j100n.1 HB0.out) (fun _ => ?_)
     clear hK K
     try simp only [Act.put, puA, puB, puC]
     have jj_100 := j100n
     obtain ⟨mm1_100, rfl⟩ : ∃ z, z = m100n := ⟨_, rfl⟩
     rotate_left
    |refine atA [true, false, true, false, false, true, false, false] ?_
     refine rdA [1, 4] ?_
     refine AllReadyH.cons (o := oCmv2) rfl (fun K hK => ?_) (AllReadyH.cons (o := oCmv3) rfl (fun K hK => ?_) AllReadyH.nil)
     refine stepCall1 ?_ 65 (.tmp 7) #[31] ?_ (.agg #[.float .f64 a, .float .f64 b, .bool p, .bool q]) ?_ ?_ (enter_canonS _ _) ?_
     iterate 4 rfl
     refine (HA.out _).mono ?_
     rintro o x100n ⟨rfl, b100n⟩
     refine ⟨_, rfl, ?_⟩
     have j100n := jj_100.up b100n
     refine hK.out _ _ (B2.up j100n.1 HB0.out) (fun _ => ?_)
     clear hK K
     try simp only [Act.put, puA, puB, puC]
     have jj_100 := j100n
     rotate_left
     refine stepAlloc ?_ ?_ ?_
     iterate 2 rfl
     intro m100n x100n hm100n hx100n
     have j100n := jj_100.nF hm100n hx100n
     clear hm100n hx100n
     refine hK.out _ _ (B2.up j100n.1 HB0.out) (fun _ => ?_)
     clear hK K
     try simp only [Act.put, puA, puB, puC]
     have jj_100 := j100n
     obtain ⟨mm0_100, rfl⟩ : ∃ z, z = m100n := ⟨_, rfl⟩
     rotate_left
   all_goals first
    |refine atA [true, true, true, true, false, false, false, false] ?_
     refine rdA [4, 5] ?_
     refine AllReadyH.cons (o := oCmv3) rfl (fun K hK => ?_) (AllReadyH.cons (o := oCmv4) rfl (fun K hK => ?_) AllReadyH.nil)
     refine stepAlloc ?_ ?_ ?_
     iterate 2 rfl
     intro m100n x100n hm100n hx100n
     have j100n := jj_100.nF hm100n hx100n
     clear hm100n hx100n
     refine hK.out _ _ (B2.up j100n.1 HB0.out) (fun _ => ?_)
     clear hK K
     try simp only [Act.put, puA, puB, puC]
     have jj_100 := j100n
     obtain ⟨mm0_100, rfl⟩ : ∃ z, z = m100n := ⟨_, rfl⟩
     rotate_left
     refine stepAlloc ?_ ?_ ?_
     iterate 2 rfl
     intro m100n x100n hm100n hx100n
     have j100n := jj_100.nG hm100n hx100n
     clear hm100n hx100n
     refine hK.out _ _ (B2.up j100n.1 HB0.out) (fun _ => ?_)
     clear hK K
     try simp only [Act.put, puA, puB, puC]
     have jj_100 := j100n
     obtain ⟨mm1_100, rfl⟩ : ∃ z, z = m100n := ⟨_, rfl⟩
     rotate_left
    |refine atA [true, true, true, false, true, false, false, false] ?_
     refine rdA [3, 5] ?_
     refine AllReadyH.cons (o := oCmv5) rfl (fun K hK => ?_) (AllReadyH.cons (o := oCmv4) rfl (fun K hK => ?_) AllReadyH.nil)
     refine stepCall1 ?_ 65 (.tmp 9) #[31] ?_ (.agg #[.float .f64 c, .float .f64 d, .bool r, .bool s]) ?_ ?_ (enter_canonS _ _) ?_
     iterate 4 rfl
     refine (HB.out _).mono ?_
     rintro o x100n ⟨rfl, b100n⟩
     refine ⟨_, rfl, ?_⟩
     have j100n := jj_100.up b100n
     refine hK.out _ _ (B2.up j100n.1 HB0.out) (fun _ => ?_)
     clear hK K
     try simp only [Act.put, puA, puB, puC]
     have jj_100 := j100n
     rotate_left
     refine stepAlloc ?_ ?_ ?_
     iterate 2 rfl
     intro m100n x100n hm100n hx100n
     have j100n := jj_100.nG hm100n hx100n
     clear hm100n hx100n
     refine hK.out _ _ (B2.up j100n.1 HB0.out) (fun _ => ?_)
     clear hK K
     try simp only [Act.put, puA, puB, puC]
     have jj_100 := j100n
     obtain ⟨mm1_100, rfl⟩ : ∃ z, z = m100n := ⟨_, rfl⟩
     rotate_left
    |refine atA [true, true, true, false, false, true, false, false] ?_
     refine rdA [3, 4] ?_
     refine AllReadyH.cons (o := oCmv5) rfl (fun K hK => ?_) (AllReadyH.cons (o := oCmv3) rfl (fun K hK => ?_) AllReadyH.nil)
     refine stepCall1 ?_ 65 (.tmp 9) #[31] ?_ (.agg #[.float .f64 c, .float .f64 d, .bool r, .bool s]) ?_ ?_ (enter_canonS _ _) ?_
     iterate 4 rfl
     refine (HB.out _).mono ?_
     rintro o x100n ⟨rfl, b100n⟩
     refine ⟨_, rfl, ?_⟩
     have j100n := jj_100.up b100n
     refine hK.out _ _ (B2.up j100n.1 HB0.out) (fun _ => ?_)
     clear hK K
     try simp only [Act.put, puA, puB, puC]
     have jj_100 := j100n
     rotate_left
     refine stepAlloc ?_ ?_ ?_
     iterate 2 rfl
     intro m100n x100n hm100n hx100n
     have j100n := jj_100.nF hm100n hx100n
     clear hm100n hx100n
     refine hK.out _ _ (B2.up j100n.1 HB0.out) (fun _ => ?_)
     clear hK K
     try simp only [Act.put, puA, puB, puC]
     have jj_100 := j100n
     obtain ⟨mm0_100, rfl⟩ : ∃ z, z = m100n := ⟨_, rfl⟩
     rotate_left
    |refine atA [true, false, true, false, true, true, false, false] ?_
     refine rdA [1] ?_
     refine AllReadyH.cons (o := oCmv2) rfl (fun K hK => ?_) AllReadyH.nil
     refine stepCall1 ?_ 65 (.tmp 7) #[31] ?_ (.agg #[.float .f64 a, .float .f64 b, .bool p, .bool q]) ?_ ?_ (enter_canonS _ _) ?_
     iterate 4 rfl
     refine (HA.out _).mono ?_
     rintro o x100n ⟨rfl, b100n⟩
     refine ⟨_, rfl, ?_⟩
     have j100n := jj_100.up b100n
     refine hK.out _ _ (B2.up j100n.1 HB0.out) (fun _ => ?_)
     clear hK K
     try simp only [Act.put, puA, puB, puC]
     have jj_100 := j100n
   all_goals first
    |refine atA [true, true, true, true, true, false, false, false] ?_
     refine rdA [5] ?_
     refine AllReadyH.cons (o := oCmv4) rfl (fun K hK => ?_) AllReadyH.nil
     refine stepAlloc ?_ ?_ ?_
     iterate 2 rfl
     intro m100n x100n hm100n hx100n
     have j100n := jj_100.nG hm100n hx100n
     clear hm100n hx100n
     refine hK.out _ _ (B2.up j100n.1 HB0.out) (fun _ => ?_)
     clear hK K
     try simp only [Act.put, puA, puB, puC]
     have jj_100 := j100n
     obtain ⟨mm1_100, rfl⟩ : ∃ z, z = m100n := ⟨_, rfl⟩
    |refine atA [true, true, true, true, false, true, false, false] ?_
     refine rdA [4] ?_
     refine AllReadyH.cons (o := oCmv3) rfl (fun K hK => ?_) AllReadyH.nil
     refine stepAlloc ?_ ?_ ?_
     iterate 2 rfl
     intro m100n x100n hm100n hx100n
     have j100n := jj_100.nF hm100n hx100n
     clear hm100n hx100n
     refine hK.out _ _ (B2.up j100n.1 HB0.out) (fun _ => ?_)
     clear hK K
     try simp only [Act.put, puA, puB, puC]
     have jj_100 := j100n
     obtain ⟨mm0_100, rfl⟩ : ∃ z, z = m100n := ⟨_, rfl⟩
    |refine atA [true, true, true, false, true, true, false, false] ?_
     refine rdA [3] ?_
     refine AllReadyH.cons (o := oCmv5) rfl (fun K hK => ?_) AllReadyH.nil
     refine stepCall1 ?_ 65 (.tmp 9) #[31] ?_ (.agg #[.float .f64 c, .float .f64 d, .bool r, .bool s]) ?_ ?_ (enter_canonS _ _) ?_
     iterate 4 rfl
     refine (HB.out _).mono ?_
     rintro o x100n ⟨rfl, b100n⟩
     refine ⟨_, rfl, ?_⟩
     have j100n := jj_100.up b100n
     refine hK.out _ _ (B2.up j100n.1 HB0.out) (fun _ => ?_)
     clear hK K
     try simp only [Act.put, puA, puB, puC]
     have jj_100 := j100n
   all_goals
    refine atA [true, true, true, true, true, true, false, false] ?_
    refine rdA [6] ?_
    refine AllReadyH.cons (o := oCmv6) rfl (fun K hK => ?_) AllReadyH.nil
    refine stepStore ?_ (.tmp 5) (.tmp 8) ?_ mm0_100 u1 v1 e1 e1 ?_ ?_ jj_100.thereF ?_
    iterate 4 rfl
    refine hK.out _ _ (B2.up (jj_100.upF _) HB0.out) (fun _ => ?_)
    clear hK K
    try simp only [Act.put, puA, puB, puC]
   all_goals
    refine atA [true, true, true, true, true, true, true, false] ?_
    refine rdA [7] ?_
    refine AllReadyH.cons (o := oCmv7) rfl (fun K hK => ?_) AllReadyH.nil
    refine stepStore ?_ (.tmp 6) (.tmp 10) ?_ mm1_100 u2 v2 e2 e2 ?_ ?_ (jj_100.thereG _) ?_
    iterate 4 rfl
    refine hK.out _ _ (B2.up (jj_100.fin u1 v1 u2 v2 e1 e1 e2 e2).2.2 HB0.out) (fun _ => ?_)
    clear hK K
    try simp only [Act.put, puA, puB, puC]
   all_goals
    refine atA [true, true, true, true, true, true, true, true] ?_
    refine wpAnyH_done (by kernel_rfl) ?_ _
    refine NoPanic.normal ?_
    go_wp2_with fail
    go_meet
    case rel => exact ⟨mm0_100, mm1_100, rfl, rfl, (jj_100.fin u1 v1 u2 v2 e1 e1 e2 e2).1, (jj_100.fin u1 v1 u2 v2 e1 e1 e2 e2).2.1, (jj_100.fin u1 v1 u2 v2 e1 e1 e2 e2).2.2⟩
 case rest =>
  obtain ⟨m, n, rfl, rfl, sm, sn, U1⟩ := hcut
  have UW : Up w wc := U0.trans U1
  have hT0 : T2 m u1 v1 e1 n u2 v2 e2 wc := ⟨sm, sn⟩
  clear HB0 HA HB U0 U1
  obtain ⟨R1, R2, R3, R4⟩ := hR.out
  clear hR
  cases e1
  ·cases e2
   ·clear h1 h2 R1 R2 R3
    cases q1
    ·clear R4
     go_wp2_with fail
     go_region_held3 (T2 m u1 v1 false n u2 v2 false) (first | assumption | (refine T2.up ?_ hT0; (repeat (first | exact Up.refl _ | assumption | refine Up.drew ?_ | refine Up.alloc ?_ _ | refine Up.trans ?_ ‹Up _ _›)); done)) (first | (go_at_call 66; refine (none_any _).mono ?_; rintro o w5 ⟨rfl, hb5⟩))
     have hT5 : T2 m u1 v1 false n u2 v2 false w5 := by assumption
     go_wp2_with fail
     go_region_held3 (T2 m u1 v1 false n u2 v2 false) (first | assumption | (refine T2.up ?_ hT5; (repeat (first | exact Up.refl _ | assumption | refine Up.drew ?_ | refine Up.alloc ?_ _ | refine Up.trans ?_ ‹Up _ _›)); done)) (first | (go_at_call 66; refine (none_any _).mono ?_; rintro o w6 ⟨rfl, hb6⟩))
     have hT6 : T2 m u1 v1 false n u2 v2 false w6 := by assumption
     have UW6 : Up w w6 := (by repeat (first | exact Up.refl _ | assumption | refine Up.drew ?_ | refine Up.drewN ?_ _ | refine Up.alloc ?_ _ | refine Up.setCell ?_ ?_ _ | exact Nat.le_refl _ | exact Nat.le_add_right _ _ | (dsimp only; omega) | refine Up.trans ?_ ‹Up _ _›))
     go_wp2_with fail
     focus
      refine wp_region_noPanic ?_
      refine wp_region_held_drew (S := T2 m u1 v1 false n u2 v2 false) (by kernel_rfl) ?_ (fun hHeld => ?_)
      ·exact T2.up ((Up.refl _).drew) hT6
      try simp only [Act.put, puA, puB, puC]
      clear hHeld
      all_goals
       refine atA [false, false, false, false, false, false, false, false, false, false, false, false, false] ?_
       refine tkA (i := 0) (oi := oCmv8) (T2.up ((Up.refl w6).drew) hT6) ?_
       try simp only [Act.put, puA, puB, puC]
       refine tkA (i := 1) (oi := oCmv9) (T2.up ((Up.refl w6).drew) hT6) ?_
       try simp only [Act.put, puA, puB, puC]
       refine tkA (i := 2) (oi := oCmv10) (T2.up ((Up.refl w6).drew) hT6) ?_
       try simp only [Act.put, puA, puB, puC]
       refine tkA (i := 3) (oi := oCmv11) (T2.up ((Up.refl w6).drew) hT6) ?_
       try simp only [Act.put, puA, puB, puC]
       refine tkA (i := 5) (oi := oCmv12) (T2.up ((Up.refl w6).drew) hT6) ?_
       try simp only [Act.put, puA, puB, puC]
       refine tkA (i := 6) (oi := oCmv13) (T2.up ((Up.refl w6).drew) hT6) ?_
       try simp only [Act.put, puA, puB, puC]
       refine tkA (i := 7) (oi := oCmv14) (T2.up ((Up.refl w6).drew) hT6) ?_
       try simp only [Act.put, puA, puB, puC]
       refine tkA (i := 8) (oi := oCmv15) (T2.up ((Up.refl w6).drew) hT6) ?_
       try simp only [Act.put, puA, puB, puC]
       refine rdA [4] ?_
       refine AllReadyH.cons (o := oCmv16) rfl (fun K hK => ?_) AllReadyH.nil
       refine wantCall2 ?_ 72 (.tmp 24) (.tmp 26) #[22, 22] ?_ (.float .f64 u1) (.float .f64 u2) ?_ ?_ ?_ (ent_fcmp _ _) ?_
       iterate 5 rfl
       refine (HX.out _).mono ?_
       rintro o y200n ⟨rfl, rfl⟩
       refine ⟨_, rfl, ?_⟩
       refine hK.out _ _ (T2.up ((Up.refl w6).drew) hT6) (fun _ => ?_)
       clear hK K
       try simp only [Act.put, puA, puB, puC]
      all_goals
       refine atA [true, true, true, true, true, true, true, true, true, false, false, false, false] ?_
       refine rdA [9] ?_
       refine AllReadyH.cons (o := oCmv17) rfl (fun K hK => ?_) AllReadyH.nil
       refine wantCall2 ?_ 72 (.tmp 29) (.tmp 31) #[22, 22] ?_ (.float .f64 v1) (.float .f64 v2) ?_ ?_ ?_ (ent_fcmp _ _) ?_
       iterate 5 rfl
       refine (HY.out _).mono ?_
       rintro o y200n ⟨rfl, rfl⟩
       refine ⟨_, rfl, ?_⟩
       refine hK.out _ _ (T2.up ((Up.refl w6).drew) hT6) (fun _ => ?_)
       clear hK K
       try simp only [Act.put, puA, puB, puC]
      all_goals
       refine atA [true, true, true, true, true, true, true, true, true, true, false, false, false] ?_
       refine rdA [10] ?_
       refine AllReadyH.cons (o := oCmv18) rfl (fun K hK => ?_) AllReadyH.nil
       refine stepBuild2i ?_ (.tmp 27) (.tmp 32) ?_ x y ?_ ?_ ?_
       iterate 4 rfl
       intro m200n x200n hm200n hx200n
       obtain ⟨r0, r1, b200n⟩ := R2i_new (u := x) (v := y) hm200n hx200n
       clear hm200n hx200n
       have U200n := ((Up.refl w6).drew).trans b200n
       refine hK.out _ _ (T2.up U200n hT6) (fun _ => ?_)
       clear hK K
       try simp only [Act.put, puA, puB, puC]
       have UU_200 := U200n
       obtain ⟨mm_200, rfl⟩ : ∃ z, z = m200n := ⟨_, rfl⟩
      all_goals
       refine atA [true, true, true, true, true, true, true, true, true, true, true, false, false] ?_
       refine rdA [11] ?_
       refine AllReadyH.cons (o := oCmv19) rfl (fun K hK => ?_) AllReadyH.nil
       refine wantCall1 ?_ 138 (.tmp 33) #[170] ?_ (.slice (some ⟨mm_200, 0, none⟩) 2 2) ?_ ?_ (ent_or _ _) ?_
       iterate 4 rfl
       refine (HOr.out rfl _ _ _ r0 r1).mono ?_
       rintro o y200n ⟨rfl, rfl⟩
       refine ⟨_, rfl, ?_⟩
       refine hK.out _ _ (T2.up UU_200 hT6) (fun _ => ?_)
       clear hK K
       try simp only [Act.put, puA, puB, puC]
      all_goals
       refine atA [true, true, true, true, true, true, true, true, true, true, true, true, false] ?_
       refine rdA [12] ?_
       refine AllReadyH.cons (o := oCmv20) rfl (fun K hK => ?_) AllReadyH.nil
       go_simp
       refine hK.out _ _ (T2.up UU_200 hT6) (fun _ => ?_)
       clear hK K
       try simp only [Act.put, puA, puB, puC]
      all_goals
       refine atA [true, true, true, true, true, true, true, true, true, true, true, true, true] ?_
       refine wpAnyH_done (by kernel_rfl) ?_ _
       refine NoPanic.normal ?_
       go_wp2
       go_ret
       exact ⟨rfl, UW6.trans UU_200⟩
    ·cases q2
     ·clear R4
      go_wp2_with fail
      go_region_held3 (T2 m u1 v1 false n u2 v2 false) (first | assumption | (refine T2.up ?_ hT0; (repeat (first | exact Up.refl _ | assumption | refine Up.drew ?_ | refine Up.alloc ?_ _ | refine Up.trans ?_ ‹Up _ _›)); done)) (first | (go_at_call 66; refine (none_any _).mono ?_; rintro o w5 ⟨rfl, hb5⟩))
      have hT5 : T2 m u1 v1 false n u2 v2 false w5 := by assumption
      go_wp2_with fail
      go_region_held3 (T2 m u1 v1 false n u2 v2 false) (first | assumption | (refine T2.up ?_ hT5; (repeat (first | exact Up.refl _ | assumption | refine Up.drew ?_ | refine Up.alloc ?_ _ | refine Up.trans ?_ ‹Up _ _›)); done)) (first | (go_at_call 66; refine (none_any _).mono ?_; rintro o w6 ⟨rfl, hb6⟩))
      have hT6 : T2 m u1 v1 false n u2 v2 false w6 := by assumption
      have UW6 : Up w w6 := (by repeat (first | exact Up.refl _ | assumption | refine Up.drew ?_ | refine Up.drewN ?_ _ | refine Up.alloc ?_ _ | refine Up.setCell ?_ ?_ _ | exact Nat.le_refl _ | exact Nat.le_add_right _ _ | (dsimp only; omega) | refine Up.trans ?_ ‹Up _ _›))
      go_wp2_with fail
      focus
       refine wp_region_noPanic ?_
       refine wp_region_held_drew (S := T2 m u1 v1 false n u2 v2 false) (by kernel_rfl) ?_ (fun hHeld => ?_)
       ·exact T2.up ((Up.refl _).drew) hT6
       try simp only [Act.put, puA, puB, puC]
       clear hHeld
       all_goals
        refine atA [false, false, false, false, false, false, false, false, false, false, false, false, false] ?_
        refine tkA (i := 0) (oi := oCmv8) (T2.up ((Up.refl w6).drew) hT6) ?_
        try simp only [Act.put, puA, puB, puC]
        refine tkA (i := 1) (oi := oCmv9) (T2.up ((Up.refl w6).drew) hT6) ?_
        try simp only [Act.put, puA, puB, puC]
        refine tkA (i := 2) (oi := oCmv10) (T2.up ((Up.refl w6).drew) hT6) ?_
        try simp only [Act.put, puA, puB, puC]
        refine tkA (i := 3) (oi := oCmv11) (T2.up ((Up.refl w6).drew) hT6) ?_
        try simp only [Act.put, puA, puB, puC]
        refine tkA (i := 5) (oi := oCmv12) (T2.up ((Up.refl w6).drew) hT6) ?_
        try simp only [Act.put, puA, puB, puC]
        refine tkA (i := 6) (oi := oCmv13) (T2.up ((Up.refl w6).drew) hT6) ?_
        try simp only [Act.put, puA, puB, puC]
        refine tkA (i := 7) (oi := oCmv14) (T2.up ((Up.refl w6).drew) hT6) ?_
        try simp only [Act.put, puA, puB, puC]
        refine tkA (i := 8) (oi := oCmv15) (T2.up ((Up.refl w6).drew) hT6) ?_
        try simp only [Act.put, puA, puB, puC]
        refine rdA [4] ?_
        refine AllReadyH.cons (o := oCmv16) rfl (fun K hK => ?_) AllReadyH.nil
        refine wantCall2 ?_ 72 (.tmp 24) (.tmp 26) #[22, 22] ?_ (.float .f64 u1) (.float .f64 u2) ?_ ?_ ?_ (ent_fcmp _ _) ?_
        iterate 5 rfl
        refine (HX.out _).mono ?_
        rintro o y300n ⟨rfl, rfl⟩
        refine ⟨_, rfl, ?_⟩
        refine hK.out _ _ (T2.up ((Up.refl w6).drew) hT6) (fun _ => ?_)
        clear hK K
        try simp only [Act.put, puA, puB, puC]
       all_goals
        refine atA [true, true, true, true, true, true, true, true, true, false, false, false, false] ?_
        refine rdA [9] ?_
        refine AllReadyH.cons (o := oCmv17) rfl (fun K hK => ?_) AllReadyH.nil
        refine wantCall2 ?_ 72 (.tmp 29) (.tmp 31) #[22, 22] ?_ (.float .f64 v1) (.float .f64 v2) ?_ ?_ ?_ (ent_fcmp _ _) ?_
        iterate 5 rfl
        refine (HY.out _).mono ?_
        rintro o y300n ⟨rfl, rfl⟩
        refine ⟨_, rfl, ?_⟩
        refine hK.out _ _ (T2.up ((Up.refl w6).drew) hT6) (fun _ => ?_)
        clear hK K
        try simp only [Act.put, puA, puB, puC]
       all_goals
        refine atA [true, true, true, true, true, true, true, true, true, true, false, false, false] ?_
        refine rdA [10] ?_
        refine AllReadyH.cons (o := oCmv18) rfl (fun K hK => ?_) AllReadyH.nil
        refine stepBuild2i ?_ (.tmp 27) (.tmp 32) ?_ x y ?_ ?_ ?_
        iterate 4 rfl
        intro m300n x300n hm300n hx300n
        obtain ⟨r0, r1, b300n⟩ := R2i_new (u := x) (v := y) hm300n hx300n
        clear hm300n hx300n
        have U300n := ((Up.refl w6).drew).trans b300n
        refine hK.out _ _ (T2.up U300n hT6) (fun _ => ?_)
        clear hK K
        try simp only [Act.put, puA, puB, puC]
        have UU_300 := U300n
        obtain ⟨mm_300, rfl⟩ : ∃ z, z = m300n := ⟨_, rfl⟩
       all_goals
        refine atA [true, true, true, true, true, true, true, true, true, true, true, false, false] ?_
        refine rdA [11] ?_
        refine AllReadyH.cons (o := oCmv19) rfl (fun K hK => ?_) AllReadyH.nil
        refine wantCall1 ?_ 138 (.tmp 33) #[170] ?_ (.slice (some ⟨mm_300, 0, none⟩) 2 2) ?_ ?_ (ent_or _ _) ?_
        iterate 4 rfl
        refine (HOr.out rfl _ _ _ r0 r1).mono ?_
        rintro o y300n ⟨rfl, rfl⟩
        refine ⟨_, rfl, ?_⟩
        refine hK.out _ _ (T2.up UU_300 hT6) (fun _ => ?_)
        clear hK K
        try simp only [Act.put, puA, puB, puC]
       all_goals
        refine atA [true, true, true, true, true, true, true, true, true, true, true, true, false] ?_
        refine rdA [12] ?_
        refine AllReadyH.cons (o := oCmv20) rfl (fun K hK => ?_) AllReadyH.nil
        go_simp
        refine hK.out _ _ (T2.up UU_300 hT6) (fun _ => ?_)
        clear hK K
        try simp only [Act.put, puA, puB, puC]
       all_goals
        refine atA [true, true, true, true, true, true, true, true, true, true, true, true, true] ?_
        refine wpAnyH_done (by kernel_rfl) ?_ _
        refine NoPanic.normal ?_
        go_wp2
        go_ret
        exact ⟨rfl, UW6.trans UU_300⟩
     ·have hR := R4 rfl
      subst hR
      clear R4
      go_wp2
      go_ret
      exact ⟨rfl, UW⟩
   ·obtain ⟨rfl, rfl⟩ := h2 rfl
    have hR := R3 rfl
    subst hR
    clear h1 h2 R1 R2 R3 R4 HX HY HOr
    cases q1
    ·skip
     go_wp2_with fail
     go_region_held3 (T2 m u1 v1 false n 0 0 true) (first | assumption | (refine T2.up ?_ hT0; (repeat (first | exact Up.refl _ | assumption | refine Up.drew ?_ | refine Up.alloc ?_ _ | refine Up.trans ?_ ‹Up _ _›)); done)) (first | (go_at_call 66; refine (none_any _).mono ?_; rintro o w5 ⟨rfl, hb5⟩))
     have hT5 : T2 m u1 v1 false n 0 0 true w5 := by assumption
     go_wp2_with fail
     go_region_held3 (T2 m u1 v1 false n 0 0 true) (first | assumption | (refine T2.up ?_ hT5; (repeat (first | exact Up.refl _ | assumption | refine Up.drew ?_ | refine Up.alloc ?_ _ | refine Up.trans ?_ ‹Up _ _›)); done)) (first | (go_at_call 66; refine (none_any _).mono ?_; rintro o w6 ⟨rfl, hb6⟩))
     all_goals go_wp2
     all_goals go_ret
     all_goals exact ⟨rfl, (by repeat (first | exact Up.refl _ | assumption | refine Up.drew ?_ | refine Up.drewN ?_ _ | refine Up.alloc ?_ _ | refine Up.setCell ?_ ?_ _ | exact Nat.le_refl _ | exact Nat.le_add_right _ _ | (dsimp only; omega) | refine Up.trans ?_ ‹Up _ _›))⟩
    ·cases q2
     all_goals
      go_wp2_with fail
      go_region_held3 (T2 m u1 v1 false n 0 0 true) (first | assumption | (refine T2.up ?_ hT0; (repeat (first | exact Up.refl _ | assumption | refine Up.drew ?_ | refine Up.alloc ?_ _ | refine Up.trans ?_ ‹Up _ _›)); done)) (first | (go_at_call 66; refine (none_any _).mono ?_; rintro o w5 ⟨rfl, hb5⟩))
      have hT5 : T2 m u1 v1 false n 0 0 true w5 := by assumption
      go_wp2_with fail
      go_region_held3 (T2 m u1 v1 false n 0 0 true) (first | assumption | (refine T2.up ?_ hT5; (repeat (first | exact Up.refl _ | assumption | refine Up.drew ?_ | refine Up.alloc ?_ _ | refine Up.trans ?_ ‹Up _ _›)); done)) (first | (go_at_call 66; refine (none_any _).mono ?_; rintro o w6 ⟨rfl, hb6⟩))
      all_goals go_wp2
      all_goals go_ret
      all_goals exact ⟨rfl, (by repeat (first | exact Up.refl _ | assumption | refine Up.drew ?_ | refine Up.drewN ?_ _ | refine Up.alloc ?_ _ | refine Up.setCell ?_ ?_ _ | exact Nat.le_refl _ | exact Nat.le_add_right _ _ | (dsimp only; omega) | refine Up.trans ?_ ‹Up _ _›))⟩
  ·obtain ⟨rfl, rfl⟩ := h1 rfl
   cases e2
   ·have hR := R2 rfl
    subst hR
    clear h1 h2 R1 R2 R3 R4 HX HY HOr
    cases q1
    ·skip
     go_wp2_with fail
     go_region_held3 (T2 m 0 0 true n u2 v2 false) (first | assumption | (refine T2.up ?_ hT0; (repeat (first | exact Up.refl _ | assumption | refine Up.drew ?_ | refine Up.alloc ?_ _ | refine Up.trans ?_ ‹Up _ _›)); done)) (first | (go_at_call 66; refine (none_any _).mono ?_; rintro o w5 ⟨rfl, hb5⟩))
     all_goals go_wp2
     all_goals go_ret
     all_goals exact ⟨rfl, (by repeat (first | exact Up.refl _ | assumption | refine Up.drew ?_ | refine Up.drewN ?_ _ | refine Up.alloc ?_ _ | refine Up.setCell ?_ ?_ _ | exact Nat.le_refl _ | exact Nat.le_add_right _ _ | (dsimp only; omega) | refine Up.trans ?_ ‹Up _ _›))⟩
    ·cases q2
     all_goals
      go_wp2_with fail
      go_region_held3 (T2 m 0 0 true n u2 v2 false) (first | assumption | (refine T2.up ?_ hT0; (repeat (first | exact Up.refl _ | assumption | refine Up.drew ?_ | refine Up.alloc ?_ _ | refine Up.trans ?_ ‹Up _ _›)); done)) (first | (go_at_call 66; refine (none_any _).mono ?_; rintro o w5 ⟨rfl, hb5⟩))
      all_goals go_wp2
      all_goals go_ret
      all_goals exact ⟨rfl, (by repeat (first | exact Up.refl _ | assumption | refine Up.drew ?_ | refine Up.drewN ?_ _ | refine Up.alloc ?_ _ | refine Up.setCell ?_ ?_ _ | exact Nat.le_refl _ | exact Nat.le_add_right _ _ | (dsimp only; omega) | refine Up.trans ?_ ‹Up _ _›))⟩
   ·obtain ⟨rfl, rfl⟩ := h2 rfl
    have hR := R1 rfl
    subst hR
    clear h1 h2 R1 R2 R3 R4 HX HY HOr
    clear g1 g2
    go_wp2
    go_ret
    exact ⟨rfl, UW⟩
theorem cmp_at {u1 v1 u2 v2 : Nat} {e1 e2 : Bool} (f1 : Fl.IsForm u1 v1 e1) (f2 : Fl.IsForm u2 v2 e2) (a b c d : Nat) (p q r s : Bool) (HA : Hid (∀ w, Calls Tryz.prog 65 #[.agg #[.float .f64 a, .float .f64 b, .bool p, .bool q]] w fun o w' => o = .returned (.agg #[.float .f64 u1, .float .f64 v1, .bool e1, .bool e1]) ∧ Up w w')) (HB : Hid (∀ w, Calls Tryz.prog 65 #[.agg #[.float .f64 c, .float .f64 d, .bool r, .bool s]] w fun o w' => o = .returned (.agg #[.float .f64 u2, .float .f64 v2, .bool e2, .bool e2]) ∧ Up w w')) (w : World) :
    Calls Tryz.prog 123 #[.agg #[.float .f64 a, .float .f64 b, .bool p, .bool q], .agg #[.float .f64 c, .float .f64 d, .bool r, .bool s]] w fun o w' => o = .returned (.int .i64 (Fl.fc u1 v1 e1 u2 v2 e2)) ∧ Up w w' := by
 have n1 := Fl.form_nan f1
 have n2 := Fl.form_nan f2
 refine cmp_core a b c d u1 v1 u2 v2 (Fl.cmpc u1 u2) (Fl.cmpc v1 v2) _ p q r s e1 e2 _ _ f1.2.2.1 f2.2.2.1 rfl rfl HA HB (fun w => cmp_any u1 u2 f1.1 f2.1 w) (fun w => cmp_any v1 v2 f1.2.1 f2.2.1 w) ?_ ?_ w
 ·intro he m k W h0 h1
  obtain ⟨rfl, rfl⟩ : e1 = false ∧ e2 = false := by simpa using he
  have e0 : Fl.fc u1 v1 false u2 v2 false = if Fl.code u1 < Fl.code u2 then -1 else if Fl.code u2 < Fl.code u1 then 1 else if Fl.code v1 < Fl.code v2 then -1 else if Fl.code v2 < Fl.code v1 then 1 else 0 := rfl
  rw [e0]
  rcases Fl.cmpc_cases u1 u2 with ⟨e, l⟩ | ⟨e, l⟩ | ⟨e, l⟩
  ·rw [e] at h0; rw [if_pos l]; exact or_first m k (-1) _ (by decide) W h0 h1
  ·rw [e] at h0; rw [if_neg (by omega), if_neg (by omega)]
   rcases Fl.cmpc_cases v1 v2 with ⟨e', l'⟩ | ⟨e', l'⟩ | ⟨e', l'⟩
   ·rw [e'] at h1; rw [if_pos l']; exact or_second m k (-1) (by decide) W h0 h1
   ·rw [e'] at h1; rw [if_neg (by omega), if_neg (by omega)]; exact or_none m k W h0 h1
   ·rw [e'] at h1; rw [if_neg (by omega), if_pos l']; exact or_second m k 1 (by decide) W h0 h1
  ·rw [e] at h0; rw [if_neg (by omega), if_pos l]; exact or_first m k 1 _ (by decide) W h0 h1
 ·refine ⟨?_, ?_, ?_, ?_⟩
  ·intro h; obtain ⟨rfl, rfl⟩ : e1 = true ∧ e2 = true := by simpa using h
   rfl
  ·intro h; obtain ⟨rfl, rfl⟩ : e1 = true ∧ e2 = false := by simpa using h
   rfl
  ·intro h; obtain ⟨rfl, rfl⟩ : e1 = false ∧ e2 = true := by simpa using h
   rfl
  ·intro h
   rw [Fl.ord_code u1 u2 f1.1 f2.1 n1.1 n2.1, Fl.ord_code v1 v2 f1.2.1 f2.2.1 n1.2.1 n2.2.1] at h
   simp only [Bool.and_eq_true, decide_eq_true_eq, Bool.not_eq_true'] at h
   obtain ⟨⟨c1, c2⟩, rfl, rfl⟩ := h
   unfold Fl.fc; simp [c1, c2]
end Go.Proofs.YtajoodkapiifcaaGreat
