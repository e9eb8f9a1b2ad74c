/- A row of float64 in memory, read as an argument; a world that has grown: nothing old has turned; no condition. -/
import Derived.Test.YthjfkmjeppdcnaaGreatSqz
import Derived.Test.YthjfkmjeppdcnaaGreatClB
import Derived.ProofKit
import Derived.OpenShut
import Derived.Laws.StructEq
import Derived.Laws.Tables
import Derived.Deep.RegionHeld3
import Derived.Laws.AppendOwnNone
import Derived.OneCell
import Derived.ArgAppend
import Derived.OwnWalk
import Derived.Deep.QuietTactic
import Derived.BigQuiet
import Derived.Deep.Draws
import Derived.Test.YthjfkmjeppdcnaaGreatClD
import Derived.Lib.SliceRun
namespace Go.Proofs.YthjfkmjeppdcnaaGreat
set_option linter.unusedSimpArgs false
open Go.ChangeShapes Go.WideShapes Go.RowKit
theorem heap_new (w : World) (o : Obj) : (w.alloc o).heap[w.heap.size]? = some o := by
 show (w.heap.push o)[w.heap.size]? = _
 simp
theorem cell_new (w : World) (C : Array Value) (e : TypeId) (fr : Nat × Nat) (i : Nat) (v : Value) (h : C[i]? = some v) : (w.alloc (.cells C e fr)).cell? ⟨w.heap.size, i, none⟩ = some v := by
 simp only [World.cell?, heap_new]
 exact h
end Go.Proofs.YthjfkmjeppdcnaaGreat
namespace Go.Proofs.YthjfkmjeppdcnaaGreat
set_option linter.unusedSimpArgs false
open Go.RowKit
set_option linter.unusedVariables false
attribute [local go_sem] run_bits run_frombits run_store_float eqF
def fls (L : List Nat) : List Value := L.map fun b => .float .f64 b
theorem fls_len (L : List Nat) : (fls L).length = L.length := by simp [fls]
theorem fls_app (L M : List Nat) : fls L ++ fls M = fls (L ++ M) := by simp [fls]
theorem infoFloat : (Tryz.prog.info? 29).map (fun i => (i.zero, i.size, i.bytes)) = some (some (.float .f64 0), 1, 8) := by kernel_rfl
def OwnF (base : Nat) (w : World) (v : Value) (L : List Nat) : Prop := w.ownsRow base 29 1 v L.length (fls L)
theorem OwnF.empty {base g : Nat} {w : World} (hb : base ≤ w.heap.size) (hg : w.heap.size = g) : OwnF base (w.alloc (.cells #[] 29)) (.slice (some ⟨g, 0, none⟩) 0 0) [] := by
 subst hg
 exact World.ownsRow_made w #[] 0 hb (by unfold maxLen; omega) rfl
theorem OwnF.up {base : Nat} {w w' : World} {v : Value} {L : List Nat} (h : OwnF base w v L) (u : Old w w') : OwnF base w' v L := by
 refine ⟨h.1, ?_⟩
 rcases h.2 with e | ⟨g, cap, cur, e, hb', hg, r⟩
 ·exact .inl e
 ·exact .inr ⟨g, cap, cur, e, hb', by rw [u.block g (lt_of_block hg)]; exact hg, r⟩
theorem OwnF.shape {base : Nat} {w : World} {v : Value} {L : List Nat} (h : OwnF base w v L) (hn : 0 < L.length) :
    ∃ g cap, v = .slice (some ⟨g, 0, none⟩) L.length cap ∧ base ≤ g ∧ g < w.heap.size ∧ ∀ i (hi : i < L.length), w.cell? ⟨g, i, none⟩ = some (.float .f64 L[i]) := by
 have h2 := h
 unfold OwnF at h2
 rcases h2.2 with ⟨_, e⟩ | ⟨g, cap, cur, rfl, hb, hg, hnc, hcm, hcs, htk⟩
 ·omega
 ·refine ⟨g, cap, rfl, hb, lt_of_block hg, fun i hi => ?_⟩
  rw [h2.cellAt i (by omega)]
  simp [fls, hi]
theorem OwnF.len {base : Nat} {w : World} {v : Value} {L : List Nat} (h : OwnF base w v L) : ∃ a c, v = .slice a L.length c := by
 rcases h.2 with ⟨rfl, e⟩ | ⟨g, cap, cur, rfl, _⟩
 ·exact ⟨none, 0, by rw [e]⟩
 ·exact ⟨_, _, rfl⟩
theorem OwnF.grown {base : Nat} {w w' : World} {v : Value} {L : List Nat} {row : Option Nat} (h : OwnF base w v L) (hg : w.grownBy w' row) (hne : v.ownBlock = none ∨ v.ownBlock ≠ row) : OwnF base w' v L := h.kept hg hne
theorem wp_appF {ops : Array Oper} {rest : List Oper} {o : Oper} {a : Act} {Q : Exit → Act → World → Prop} {w : World} (hgd : o.guard = none) (s x : Operand)
    (ho : o.op = .call { callee := .builtin .append, args := #[s, x], argTypes := #[30, 30] }) (base : Nat) (v : Value) (L : List Nat) (g c1 y : Nat)
    (hs : a.eval s = v) (hx : a.eval x = .slice (some ⟨g, 0, none⟩) 1 c1) (hown : OwnF base w v L) (hc : w.cell? ⟨g, 0, none⟩ = some (.float .f64 y)) (hb : L.length + 1 ≤ 17592186044416) (hbase : base ≤ w.heap.size)
    (h : ∀ v' w', OwnF base w' v' (L ++ [y]) → Below base w w' → wpList Tryz.prog ops Q rest (a.put o.dst v') w') : wpList Tryz.prog ops Q (o :: rest) a w := by
 obtain ⟨i0, hi, hz0, hz1, hz2⟩ := info_parts infoFloat
 refine wpList_append_own w hgd s x 30 ho base 29 i0 _ 1 8 Tryz.underlying30 hi hz0 hz1 hz2 rfl (by decide) v L.length (fls L) hs hown ⟨g, 0, none⟩ 1 c1 (fls [y]) hx rfl ?_ ?_ (by unfold maxLen; omega) (by omega) hbase ?_
 ·intro j u hj
  match j with
  | 0 => simp [fls] at hj; subst hj; rw [Go.WideShapes.add_plain]; exact hc
  | j + 1 => simp [fls] at hj
 ·intro u hu; simp [fls] at hu; subst hu; rfl
 ·intro v' w' h1 h2 h3
  exact h v' w' (by unfold OwnF; rw [fls_app] at h1; simpa using h1) (Below.grown (Below.refl _ _) h2 hbase (fun k hk => (World.ownsRow.lt hown k hk).1))
theorem cell_one (w : World) (y g : Nat) (hg : w.heap.size = g) : (w.alloc (.cells #[.float .f64 y] 29)).cell? ⟨g, 0, none⟩ = some (.float .f64 y) := by subst hg; simp
theorem OwnF.mono {base b' : Nat} {w : World} {v : Value} {L : List Nat} (h : OwnF base w v L) (hb : b' ≤ base) : OwnF b' w v L := by
 refine ⟨h.1, ?_⟩
 rcases h.2 with e | ⟨g, cap, cur, e, hb', r⟩
 ·exact .inl e
 ·exact .inr ⟨g, cap, cur, e, by omega, r⟩
namespace Fl
def insG (x : Nat) : Bool → List Nat → List Nat × Bool
 | d, [] => ([], d)
 | d, y :: r => ((if code x < code y ∧ d = false then [canon x, y] else [y]) ++ (insG x (d || decide (code x ≤ code y)) r).1, (insG x (d || decide (code x ≤ code y)) r).2)
def insL (x : Nat) (L : List Nat) : List Nat := if (insG x false L).2 = true then (insG x false L).1 else (insG x false L).1 ++ [canon x]
def sortL (x : Nat → Nat) : Nat → List Nat | 0 => [] | k + 1 => insL (x k) (sortL x k)
theorem insG_len (x : Nat) : ∀ (L : List Nat) (d : Bool), (insG x d L).1.length ≤ L.length + 1 ∧ (d = true → (insG x d L).1.length = L.length) ∧ ((insG x d L).2 = false → (insG x d L).1.length = L.length)
 | [], d => ⟨by simp [insG], fun _ => rfl, fun _ => rfl⟩
 | y :: r, d => by
  have h := insG_len x r (d || decide (code x ≤ code y))
  unfold insG
  by_cases c : code x < code y ∧ d = false
  ·have e : (d || decide (code x ≤ code y)) = true := by rw [c.2]; simp; omega
   rw [e] at h ⊢
   have h2 := h.2.1 rfl
   rw [if_pos c]
   refine ⟨by simp; omega, fun hd => (by rw [c.2] at hd; cases hd), fun hf => ?_⟩
   have t := h.2.2 hf
   exfalso
   have k : ∀ (M : List Nat), (insG x true M).2 = true := by
    intro M
    induction M with
    | nil => rfl
    | cons a M ih => unfold insG; simpa using ih
   rw [k] at hf; cases hf
  ·rw [if_neg c]
   refine ⟨by simp; omega, fun hd => ?_, fun hf => ?_⟩
   ·subst hd; have := h.2.1 rfl; simp; simpa using this
   ·have := h.2.2 hf; simp; omega
theorem insL_len (x : Nat) (L : List Nat) : (insL x L).length ≤ L.length + 1 := by
 have h := insG_len x L false
 unfold insL
 split
 ·exact h.1
 ·have := h.2.2 (by simpa using ‹¬ (insG x false L).2 = true›); simp; omega
theorem sortL_len (x : Nat → Nat) : ∀ k, (sortL x k).length ≤ k
 | 0 => by simp [sortL]
 | k + 1 => by have := sortL_len x k; have := insL_len (x k) (sortL x k); show (insL (x k) (sortL x k)).length ≤ k + 1; omega
theorem insG_mem (x : Nat) : ∀ (L : List Nat) (d : Bool) z, z ∈ (insG x d L).1 → z = canon x ∨ z ∈ L
 | [], d, z, h => by simp [insG] at h
 | y :: r, d, z, h => by
  unfold insG at h
  have ih := insG_mem x r (d || decide (code x ≤ code y)) z
  rw [List.mem_append] at h
  rcases h with h | h
  ·split at h <;> simp at h
   ·rcases h with h | h <;> simp [h]
   ·simp [h]
  ·rcases ih h with h | h <;> simp [h]
end Fl
theorem below_up' {a w w1 w2 : World} (h : Old a w) (k : Old w w1) (u : Below a.heap.size w1 w2) : Old a w2 := Below.trans (Old.trans h k) u
theorem drop_cons (L : List Nat) (k : Nat) (h : k < L.length) : L.drop k = L[k] :: L.drop (k + 1) := List.drop_eq_getElem_cons h
set_option maxHeartbeats 4000000 in
set_option maxRecDepth 20000 in
theorem sort_any (b off n cap : Nat) (x : Nat → Nat) (hm : n ≤ 17592186044000) (w : World) (hc : ∀ i, i < n → Fl.W (x i) ∧ w.cell? ⟨b, off + i, none⟩ = some (.float .f64 (x i))) :
    Calls Tryz.prog 46 #[.slice (some ⟨b, off, none⟩) n cap] w fun e w' => ∃ v', e = .returned v' ∧ OwnF w.heap.size w' v' (Fl.sortL x n) ∧ Old w w' := by
 have HX := hid hc
 have hmm := hid hm
 clear hc
 go_enter Tryz.func46, Tryz.ntmps46
 go_wp2
 go_loopw [3, 4] (fun o i wi => ∃ m : Nat, m ≤ n ∧ i = .int .i64 (m : Nat) ∧ OwnF w.heap.size wi o (Fl.sortL x m) ∧ Old w wi ∧ ∀ y ∈ Fl.sortL x m, Fl.W y) (fun _ i _ => n - (intOf i).toNat)
 case atStart => exact ⟨0, Nat.zero_le _, rfl, OwnF.empty (Nat.le_refl _) rfl, (Old.refl w).alloc _, fun y h => by simp [Fl.sortL] at h⟩
 case round =>
  generalize wr = wi at *
  obtain ⟨m, hmn, rfl, ho, hu, hw⟩ := hrel
  by_cases hlt : m < n
  ·have hxm := (HX.out m hlt)
   have hWx := hxm.1
   have cx := hu.keep hxm.2
   have HW := hid hw
   have hSl := hid (Fl.sortL_len x m)
   have HSL : Hid (Fl.sortL x (m + 1) = Fl.insL (x m) (Fl.sortL x m)) := rfl
   have HXM := hid hxm
   clear hxm hw
   generalize Fl.sortL x m = L at *
   obtain ⟨oa, oc, hov⟩ := OwnF.len ho
   subst hov
   have HO := hid ho
   clear ho
   go_wp2
   go_loopw [5, 6, 7] (fun a d i wr => ∃ (k : Nat) (N : List Nat) (D : Bool), k ≤ L.length ∧ i = .int .i64 (k : Nat) ∧ d = .bool D ∧ N ++ (Fl.insG (x m) D (L.drop k)).1 = (Fl.insG (x m) false L).1 ∧ (Fl.insG (x m) D (L.drop k)).2 = (Fl.insG (x m) false L).2 ∧ (N.length ≤ k + 1 ∧ (D = false → N.length ≤ k)) ∧ OwnF wi.heap.size wr a N ∧ Old wi wr) (fun _ _ i _ => L.length - (intOf i).toNat)
   case atStart => exact ⟨0, [], false, Nat.zero_le _, rfl, rfl, rfl, rfl, ⟨by simp, fun _ => by simp⟩, OwnF.empty (Nat.le_refl _) rfl, (Old.refl wi).alloc _⟩
   case round =>
    obtain ⟨k, N, D, hk, rfl, rfl, e1, e2, hN, hon, hur⟩ := hrel
    by_cases hlt2 : k < L.length
    ·obtain ⟨g, gc, hs, hg1, hg2, hcell⟩ := OwnF.shape HO.out (by omega)
     cases hs
     have cy := hur.keep (hcell k hlt2)
     have cx2 := hur.keep cx
     have hWy : Fl.W L[k] := HW.out _ (List.getElem_mem hlt2)
     rw [drop_cons L k hlt2] at e1 e2
     have E1 := hid e1
     have E2 := hid e2
     have OK := hid hon
     have UK := hid hur
     have hNl := hid hN.1
     have hNf := hid hN.2
     have HCY := hid (hcell k hlt2)
     have l5 : (k : Int) + 1 ≤ 17592186044416 := by have := hSl.out; have := hmm.out; omega
     have l1 : (0 : Int) ≤ (k : Int) := by omega
     have l2 : (k : Int) < (L.length : Int) := by omega
     have l3 : (0 : Int) ≤ (m : Int) := by omega
     have l4 : (m : Int) < (n : Int) := by omega
     clear e1 e2 hon hcell hN cx
     generalize L[k] = y at *
     have cc := Fl.cmpc_cases (x m) y
     have HCC := hid cc
     clear cc
     generalize x m = X at *
     go_wp2
     go_quiet ((go_at_call 70; exact Calls.quiet_of_same (refCmp_any X y hWx hWy _)))
     have HOf0 := fun w => of_any (Fl.code X) (Fl.code_le X hWx) w
     rw [Fl.of_code X hWx] at HOf0
     have HOf := hid HOf0
     clear HOf0
     have OKd := hid (OwnF.up OK.out ((Old.refl wr).drewN nq))
     have UKd := hid (UK.out.drewN nq)
     rcases HCC.out with ⟨hq, hl⟩ | ⟨hq, hl⟩ | ⟨hq, hl⟩
     ·cases D
      ·have d1 : (Fl.insG X false (y :: L.drop (k + 1))) = ([Fl.canon X, y] ++ (Fl.insG X true (L.drop (k + 1))).1, (Fl.insG X true (L.drop (k + 1))).2) := by
         rw [Fl.insG]; simp [hl]; rw [decide_eq_true (by omega)]; exact ⟨rfl, rfl⟩
       rw [d1] at E1 E2
       clear d1 HCC hl OK UK
       simp only [hq]
       clear hq
       go_wp2_with (first | (go_at_call 72; refine (refCode_any X hWx _).mono ?_; rintro e w' ⟨rfl, rfl⟩) | (go_at_call 71; refine (HOf.out _).mono ?_; rintro e w' ⟨rfl, rfl⟩) | (at_builtin; refine wp_appF rfl (.tmp 38) (.tmp 45) rfl wi.heap.size _ N _ 1 (Fl.canon X) rfl rfl (OwnF.up OKd.out ((Old.refl _).alloc _)) (cell_one _ _ _ (by simp)) (by have := hNl.out; have := hSl.out; have := hmm.out; simp; omega) (by have := UKd.out.size; simp at *; omega) ?_; intro v7 w7 o7 u7; have O7 := hid o7; have V7 := hid (below_up' UKd.out ((Old.refl _).alloc _) u7); have cy7 := V7.out.keep HCY.out; clear o7 u7) | (at_builtin; refine wp_appF rfl (.tmp 49) (.tmp 54) rfl wi.heap.size _ (N ++ [Fl.canon X]) _ 1 y rfl rfl (OwnF.up O7.out ((Old.refl _).alloc _)) (cell_one _ _ _ (by simp)) (by have := hNl.out; have := hSl.out; have := hmm.out; simp; omega) (by have := V7.out.size; simp at *; omega) ?_; intro v8 w8 o8 u8; have O8 := hid o8; have V8 := hid (below_up' V7.out ((Old.refl _).alloc _) u8); clear o8 u8))
       go_roundw
       case rel => exact ⟨k + 1, N ++ [Fl.canon X] ++ [y], true, by omega, by go_num, rfl, by rw [← E1.out]; simp, by rw [← E2.out], ⟨by have := hNl.out; have := hNf.out; simp at *; omega, fun hD => by first | (cases hD; done) | (have := hNf.out rfl; simp; omega)⟩, O8.out, V8.out⟩
       case measure => simp [intOf]; omega
      ·have d1 : (Fl.insG X true (y :: L.drop (k + 1))) = ([y] ++ (Fl.insG X true (L.drop (k + 1))).1, (Fl.insG X true (L.drop (k + 1))).2) := by
         rw [Fl.insG]; simp
       rw [d1] at E1 E2
       clear d1 HCC hl OK UK
       simp only [hq]
       clear hq
       go_wp2_with (first | (at_builtin; refine wp_appF rfl (.tmp 49) (.tmp 54) rfl wi.heap.size _ N _ 1 y rfl rfl (OwnF.up OKd.out ((Old.refl _).alloc _)) (cell_one _ _ _ (by simp)) (by have := hNl.out; have := hSl.out; have := hmm.out; simp; omega) (by have := UKd.out.size; simp at *; omega) ?_; intro v8 w8 o8 u8; have O8 := hid o8; have V8 := hid (below_up' UKd.out ((Old.refl _).alloc _) u8); clear o8 u8))
       go_roundw
       case rel => exact ⟨k + 1, N ++ [y], true, by omega, by go_num, rfl, by rw [← E1.out]; simp, by rw [← E2.out], ⟨by have := hNl.out; have := hNf.out; simp at *; omega, fun hD => by first | (cases hD; done) | (have := hNf.out rfl; simp; omega)⟩, O8.out, V8.out⟩
       case measure => simp [intOf]; omega
     ·have d1 : (Fl.insG X D (y :: L.drop (k + 1))) = ([y] ++ (Fl.insG X true (L.drop (k + 1))).1, (Fl.insG X true (L.drop (k + 1))).2) := by
        rw [Fl.insG]; rw [if_neg (by omega), decide_eq_true (by omega)]; simp
      rw [d1] at E1 E2
      clear d1 HCC hl OK UK
      simp only [hq]
      clear hq
      cases D
      all_goals
       go_wp2_with (first | (at_builtin; refine wp_appF rfl (.tmp 49) (.tmp 54) rfl wi.heap.size _ N _ 1 y rfl rfl (OwnF.up OKd.out ((Old.refl _).alloc _)) (cell_one _ _ _ (by simp)) (by have := hNl.out; have := hSl.out; have := hmm.out; simp; omega) (by have := UKd.out.size; simp at *; omega) ?_; intro v8 w8 o8 u8; have O8 := hid o8; have V8 := hid (below_up' UKd.out ((Old.refl _).alloc _) u8); clear o8 u8))
       go_roundw
       case rel => exact ⟨k + 1, N ++ [y], true, by omega, by go_num, rfl, by rw [← E1.out]; simp, by rw [← E2.out], ⟨by have := hNl.out; have := hNf.out; simp at *; omega, fun hD => by first | (cases hD; done) | (have := hNf.out rfl; simp; omega)⟩, O8.out, V8.out⟩
       case measure => simp [intOf]; omega
     ·have d1 : (Fl.insG X D (y :: L.drop (k + 1))) = ([y] ++ (Fl.insG X D (L.drop (k + 1))).1, (Fl.insG X D (L.drop (k + 1))).2) := by
        rw [Fl.insG]; rw [if_neg (by omega), decide_eq_false (by omega)]; simp
      rw [d1] at E1 E2
      clear d1 HCC hl OK UK
      simp only [hq]
      clear hq
      cases D
      ·go_wp2_with (first | (at_builtin; refine wp_appF rfl (.tmp 49) (.tmp 54) rfl wi.heap.size _ N _ 1 y rfl rfl (OwnF.up OKd.out ((Old.refl _).alloc _)) (cell_one _ _ _ (by simp)) (by have := hNl.out; have := hSl.out; have := hmm.out; simp; omega) (by have := UKd.out.size; simp at *; omega) ?_; intro v8 w8 o8 u8; have O8 := hid o8; have V8 := hid (below_up' UKd.out ((Old.refl _).alloc _) u8); clear o8 u8))
       go_roundw
       case rel => exact ⟨k + 1, N ++ [y], false, by omega, by go_num, rfl, by rw [← E1.out]; simp, by rw [← E2.out], ⟨by have := hNl.out; have := hNf.out; simp at *; omega, fun hD => by first | (cases hD; done) | (have := hNf.out rfl; simp; omega)⟩, O8.out, V8.out⟩
       case measure => simp [intOf]; omega
      ·go_wp2_with (first | (at_builtin; refine wp_appF rfl (.tmp 49) (.tmp 54) rfl wi.heap.size _ N _ 1 y rfl rfl (OwnF.up OKd.out ((Old.refl _).alloc _)) (cell_one _ _ _ (by simp)) (by have := hNl.out; have := hSl.out; have := hmm.out; simp; omega) (by have := UKd.out.size; simp at *; omega) ?_; intro v8 w8 o8 u8; have O8 := hid o8; have V8 := hid (below_up' UKd.out ((Old.refl _).alloc _) u8); clear o8 u8))
       go_roundw
       case rel => exact ⟨k + 1, N ++ [y], true, by omega, by go_num, rfl, by rw [← E1.out]; simp, by rw [← E2.out], ⟨by have := hNl.out; have := hNf.out; simp at *; omega, fun hD => by first | (cases hD; done) | (have := hNf.out rfl; simp; omega)⟩, O8.out, V8.out⟩
       case measure => simp [intOf]; omega
    ·obtain rfl : k = L.length := by omega
     rw [List.drop_length] at e1 e2
     have OK := hid hon
     have UK := hid hur
     have hNl := hid hN.1
     have cx2 := hur.keep cx
     have l3 : (0 : Int) ≤ (m : Int) := by omega
     have l4 : (m : Int) < (n : Int) := by omega
     have l5 : (m : Int) + 1 ≤ 17592186044416 := by have := hmm.out; omega
     have HOf0 := fun w => of_any (Fl.code (x m)) (Fl.code_le (x m) hWx) w
     rw [Fl.of_code (x m) hWx] at HOf0
     have HOf := hid HOf0
     have HU := hid hu
     clear HOf0 hon cx hN
     cases D
     ·have hS : Fl.sortL x (m + 1) = N ++ [Fl.canon (x m)] := by
        rw [HSL.out]; unfold Fl.insL; rw [← e2, ← e1]; simp [Fl.insG]
      have HS := hid hS
      have HWn := hid (show ∀ y ∈ N ++ [Fl.canon (x m)], Fl.W y from fun y hy => by
       rcases List.mem_append.1 hy with h | h
       ·have h2 : y ∈ (Fl.insG (x m) false L).1 := by rw [← e1]; simp [h]
        rcases Fl.insG_mem _ _ _ _ h2 with h3 | h3
        ·rw [h3]; exact Fl.canon_lt _ hWx
        ·exact HW.out y h3
       ·rw [List.mem_singleton.1 h]; exact Fl.canon_lt _ hWx)
      clear e1 e2 hS HSL HW
      generalize x m = X at *
      go_wp2_with (first | (go_at_call 72; refine (refCode_any X hWx _).mono ?_; rintro e w' ⟨rfl, rfl⟩) | (go_at_call 71; refine (HOf.out _).mono ?_; rintro e w' ⟨rfl, rfl⟩) | (at_builtin; refine wp_appF rfl (.tmp 58) (.tmp 65) rfl wi.heap.size _ N _ 1 (Fl.canon X) rfl rfl (OwnF.up OK.out ((Old.refl _).alloc _)) (cell_one _ _ _ (by simp)) (by have := hNl.out; have := hSl.out; have := hmm.out; simp; omega) (by have := UK.out.size; simp at *; omega) ?_; intro v7 w7 o7 u7; have O7 := hid o7; have V7 := hid (below_up' UK.out ((Old.refl _).alloc _) u7); clear o7 u7))
      go_roundw
      case rel => exact ⟨m + 1, hlt, by go_num, by rw [HS.out]; exact OwnF.mono O7.out hu.size, Old.trans hu V7.out, by rw [HS.out]; exact HWn.out⟩
      case measure => simp [intOf]; omega
     ·have hS : Fl.sortL x (m + 1) = N := by
        rw [HSL.out]; unfold Fl.insL; rw [← e2, ← e1]; simp [Fl.insG]
      have HS := hid hS
      have HWn := hid (show ∀ y ∈ N, Fl.W y from fun y hy => by
       have h2 : y ∈ (Fl.insG (x m) false L).1 := by rw [← e1]; simp [hy]
       rcases Fl.insG_mem _ _ _ _ h2 with h3 | h3
       ·rw [h3]; exact Fl.canon_lt _ hWx
       ·exact HW.out y h3)
      clear e1 e2 hS HSL HW
      go_wp2
      go_roundw
      case rel => exact ⟨m + 1, hlt, by go_num, by rw [HS.out]; exact OwnF.mono OK.out hu.size, Old.trans hu UK.out, by rw [HS.out]; exact HWn.out⟩
      case measure => simp [intOf]; omega
  ·obtain rfl : m = n := by omega
   go_wp2
   go_ret
   exact ⟨_, rfl, ho, hu⟩
end Go.Proofs.YthjfkmjeppdcnaaGreat
namespace Go.Proofs.YthjfkmjeppdcnaaGreat
set_option linter.unusedSimpArgs false
namespace Fl
def ins (x : Nat) : List Nat → List Nat
 | [] => [canon x]
 | y :: r => if code x < code y then canon x :: y :: r else if code x = code y then y :: r else y :: ins x r
theorem insG_true (x : Nat) : ∀ L, insG x true L = (L, true)
 | [] => rfl
 | y :: r => by unfold insG; simp [insG_true x r]
theorem insL_ins (x : Nat) : ∀ L, insL x L = ins x L
 | [] => rfl
 | y :: r => by
  have ih := insL_ins x r
  unfold insL at ih ⊢
  unfold ins insG
  by_cases h1 : code x < code y
  ·rw [if_pos h1]
   simp [h1, show code x ≤ code y by omega, insG_true]
  ·rw [if_neg h1]
   by_cases h2 : code x = code y
   ·rw [if_pos h2]
    simp [show code x ≤ code y by omega, show ¬ code x < code y from h1, insG_true]
   ·rw [if_neg h2, ← ih]
    simp only [show ¬ code x ≤ code y by omega, h1, false_and, if_false, decide_false, Bool.or_false]
    split <;> simp
theorem canon_code (a b : Nat) (ha : a < 18446744073709551616) (hb : b < 18446744073709551616) (h : code a = code b) : canon a = canon b := by
 rw [← of_code a ha, ← of_code b hb, h]
theorem ins_all (x : Nat) (hx : x < 18446744073709551616) : ∀ L, (∀ y ∈ L, y < 18446744073709551616 ∧ canon y = y) → Asc L → Asc (ins x L) ∧ (∀ y ∈ ins x L, y < 18446744073709551616 ∧ canon y = y) ∧ (∀ z, z ∈ ins x L ↔ z = canon x ∨ z ∈ L)
 | [], _, _ => by
  refine ⟨by simp [ins, Asc], fun y hy => ?_, fun z => by simp [ins]⟩
  simp [ins] at hy
  subst hy
  exact ⟨canon_lt x hx, canon_canon x⟩
 | y :: r, hf, ha => by
  have ha1 := List.pairwise_cons.1 ha
  have hy := hf y (List.mem_cons_self ..)
  have hfr : ∀ z ∈ r, z < 18446744073709551616 ∧ canon z = z := fun z hz => hf z (List.mem_cons_of_mem _ hz)
  unfold ins
  by_cases h1 : code x < code y
  ·rw [if_pos h1]
   refine ⟨List.pairwise_cons.2 ⟨fun z hz => ?_, ha⟩, fun z hz => ?_, fun z => by simp⟩
   ·rw [code_canon]
    rcases List.mem_cons.1 hz with e | e
    ·rw [e]; exact h1
    ·have := ha1.1 z e; omega
   ·rcases List.mem_cons.1 hz with e | e
    ·rw [e]; exact ⟨canon_lt x hx, canon_canon x⟩
    ·exact hf z e
  ·rw [if_neg h1]
   by_cases h2 : code x = code y
   ·rw [if_pos h2]
    have e : canon x = y := (canon_code x y hx hy.1 h2).trans hy.2
    refine ⟨ha, hf, fun z => ?_⟩
    rw [e]; simp
   ·rw [if_neg h2]
    obtain ⟨i1, i2, i3⟩ := ins_all x hx r hfr ha1.2
    refine ⟨List.pairwise_cons.2 ⟨fun z hz => ?_, i1⟩, fun z hz => ?_, fun z => ?_⟩
    ·rcases (i3 z).1 hz with e | e
     ·rw [e, code_canon]; omega
     ·exact ha1.1 z e
    ·rcases List.mem_cons.1 hz with e | e
     ·rw [e]; exact hy
     ·exact i2 z e
    ·rw [List.mem_cons, i3 z, List.mem_cons]
     constructor
     ·rintro (h | h | h) <;> simp [h]
     ·rintro (h | h | h) <;> simp [h]
theorem sortL_all (x : Nat → Nat) (n : Nat) (hx : ∀ i, i < n → x i < 18446744073709551616) : ∀ k, k ≤ n → Asc (sortL x k) ∧ (∀ y ∈ sortL x k, y < 18446744073709551616 ∧ canon y = y) ∧ (∀ z, z ∈ sortL x k ↔ ∃ i, i < k ∧ z = canon (x i))
 | 0, _ => ⟨List.Pairwise.nil, fun y hy => by simp [sortL] at hy, fun z => by simp [sortL]⟩
 | k + 1, hk => by
  obtain ⟨h1, h2, h3⟩ := sortL_all x n hx k (by omega)
  have e : sortL x (k + 1) = ins (x k) (sortL x k) := insL_ins (x k) (sortL x k)
  rw [e]
  obtain ⟨i1, i2, i3⟩ := ins_all (x k) (hx k (by omega)) _ h2 h1
  refine ⟨i1, i2, fun z => ?_⟩
  rw [i3 z, h3 z]
  constructor
  ·rintro (h | ⟨i, hi, h⟩)
   ·exact ⟨k, by omega, h⟩
   ·exact ⟨i, by omega, h⟩
  ·rintro ⟨i, hi, h⟩
   by_cases e : i = k
   ·subst e; exact .inl h
   ·exact .inr ⟨i, by omega, h⟩
end Fl
end Go.Proofs.YthjfkmjeppdcnaaGreat
namespace Go.Proofs.YthjfkmjeppdcnaaGreat
abbrev oCfm0 : Oper := { dst := some 18, op := .move (.tmp 1), type := 143, pos := "slices.go:401", after := #[], guard := none }
abbrev oCfm1 : Oper := { dst := some 19, op := .move (.tmp 0), type := 30, pos := "slices.go:401", after := #[], guard := none }
abbrev oCfm2 : Oper := { dst := some 20, op := .move (.tmp 5), type := 3, pos := "slices.go:401", after := #[], guard := none }
abbrev oCfm3 : Oper := { dst := some 21, op := .indexAddr 30 (.tmp 19) (.tmp 20), type := 0, pos := "slices.go:401", after := #[⟨1, .data⟩, ⟨2, .data⟩], guard := none }
abbrev oCfm4 : Oper := { dst := some 22, op := .load 29 (.tmp 21), type := 29, pos := "slices.go:401", after := #[⟨3, .data⟩], guard := none }
abbrev oCfm5 : Oper := { dst := some 23, op := .move (.tmp 0), type := 30, pos := "slices.go:401", after := #[], guard := none }
abbrev oCfm6 : Oper := { dst := some 24, op := .move (.tmp 5), type := 3, pos := "slices.go:401", after := #[], guard := none }
abbrev oCfm7 : Oper := { dst := some 25, op := .binOp .sub 3 (.tmp 24) (.const (.int IntKind.i64 1)) 3, type := 3, pos := "slices.go:401", after := #[⟨6, .data⟩], guard := none }
abbrev oCfm8 : Oper := { dst := some 26, op := .indexAddr 30 (.tmp 23) (.tmp 25), type := 0, pos := "slices.go:401", after := #[⟨5, .data⟩, ⟨7, .data⟩], guard := none }
abbrev oCfm9 : Oper := { dst := some 27, op := .load 29 (.tmp 26), type := 29, pos := "slices.go:401", after := #[⟨8, .data⟩], guard := none }
abbrev oCfm10 : Oper := { dst := some 28, op := .call { callee := Callee.value (.tmp 18), args := #[.tmp 22, .tmp 27], argTypes := #[29, 29] }, type := 4, pos := "slices.go:401", after := #[⟨0, .data⟩, ⟨4, .data⟩, ⟨9, .data⟩], guard := none }
abbrev oCfm11 : Oper := { dst := some 38, op := .move (.tmp 1), type := 143, pos := "slices.go:404", after := #[], guard := none }
abbrev oCfm12 : Oper := { dst := some 39, op := .move (.tmp 6), type := 30, pos := "slices.go:404", after := #[], guard := none }
abbrev oCfm13 : Oper := { dst := some 40, op := .move (.tmp 7), type := 3, pos := "slices.go:404", after := #[], guard := none }
abbrev oCfm14 : Oper := { dst := some 41, op := .indexAddr 30 (.tmp 39) (.tmp 40), type := 0, pos := "slices.go:404", after := #[⟨1, .data⟩, ⟨2, .data⟩], guard := none }
abbrev oCfm15 : Oper := { dst := some 42, op := .load 29 (.tmp 41), type := 29, pos := "slices.go:404", after := #[⟨3, .data⟩], guard := none }
abbrev oCfm16 : Oper := { dst := some 43, op := .move (.tmp 6), type := 30, pos := "slices.go:404", after := #[], guard := none }
abbrev oCfm17 : Oper := { dst := some 44, op := .move (.tmp 7), type := 3, pos := "slices.go:404", after := #[], guard := none }
abbrev oCfm18 : Oper := { dst := some 45, op := .binOp .sub 3 (.tmp 44) (.const (.int IntKind.i64 1)) 3, type := 3, pos := "slices.go:404", after := #[⟨6, .data⟩], guard := none }
abbrev oCfm19 : Oper := { dst := some 46, op := .indexAddr 30 (.tmp 43) (.tmp 45), type := 0, pos := "slices.go:404", after := #[⟨5, .data⟩, ⟨7, .data⟩], guard := none }
abbrev oCfm20 : Oper := { dst := some 47, op := .load 29 (.tmp 46), type := 29, pos := "slices.go:404", after := #[⟨8, .data⟩], guard := none }
abbrev oCfm21 : Oper := { dst := some 48, op := .call { callee := Callee.value (.tmp 38), args := #[.tmp 42, .tmp 47], argTypes := #[29, 29] }, type := 4, pos := "slices.go:404", after := #[⟨0, .data⟩, ⟨4, .data⟩, ⟨9, .data⟩], guard := none }
abbrev oCfm22 : Oper := { dst := some 49, op := .unOp UnOp.not 4 (.tmp 48), type := 4, pos := "slices.go:404", after := #[⟨10, .data⟩], guard := none }
set_option linter.unusedSimpArgs false
open Go.RowKit
set_option linter.unusedVariables false
attribute [local go_sem] run_bits run_frombits run_store_float eqF
def RowW (w : World) (g n : Nat) (y : Nat → Nat) : Prop := ∀ i, i < n → w.cell? ⟨g, i, none⟩ = some (.float .f64 (y i)) ∧ w.frozen? ⟨g, i, none⟩ = false
structure Only (g : Nat) (w w' : World) : Prop where
 os : w'.os = w.os
 tape : w'.tape = w.tape
 output : w'.output = w.output
 size : w'.heap.size = w.heap.size
 block : ∀ k, k ≠ g → w'.heap[k]? = w.heap[k]?
theorem Only.refl (g : Nat) (w : World) : Only g w w := ⟨rfl, rfl, rfl, rfl, fun _ _ => rfl⟩
theorem Only.trans {g : Nat} {a b c : World} (h : Only g a b) (k : Only g b c) : Only g a c := ⟨k.os.trans h.os, k.tape.trans h.tape, k.output.trans h.output, k.size.trans h.size, fun i hi => (k.block i hi).trans (h.block i hi)⟩
theorem Only.drewN {g : Nat} {a b : World} (h : Only g a b) (n : Nat) : Only g a (b.drewN n) := ⟨h.os, h.tape, h.output, h.size, h.block⟩
theorem Only.set {g : Nat} {a b : World} (h : Only g a b) (o : Nat) (v : Value) : Only g a (b.setCell ⟨g, o, none⟩ v) := ⟨h.os, h.tape, h.output, by simpa using h.size, fun k hk => (Below.heap_setCell b ⟨g, o, none⟩ v k hk).trans (h.block k hk)⟩
theorem Only.sets {g : Nat} {a : World} : ∀ (vs : List Value) (o : Nat) {b : World}, Only g a b → Only g a (b.setCells g o vs)
 | [], _, _, h => h
 | v :: r, o, _, h => by rw [World.setCells]; exact Only.sets r (o + 1) (h.set o v)
theorem RowW.drewN {w : World} {g n : Nat} {y : Nat → Nat} (h : RowW w g n y) (m : Nat) : RowW (w.drewN m) g n y := h
def up1 (y : Nat → Nat) (k v : Nat) : Nat → Nat := fun i => if i = k then v else y i
theorem RowW.set {w : World} {g n : Nat} {y : Nat → Nat} (h : RowW w g n y) (k v : Nat) (hk : k < n) : RowW (w.setCell ⟨g, k, none⟩ (.float .f64 v)) g n (up1 y k v) := fun i hi => by
 obtain ⟨h1, h2⟩ := h i hi
 refine ⟨?_, by simpa using h2⟩
 by_cases e : i = k
 ·subst e
  have := World.cell?_setCells_in g [.float .f64 v] i w (fun j hj => by simp at hj; subst hj; simp [h1]) 0 (by simp)
  simpa [World.setCells, up1] using this
 ·have := World.cell?_setCells_out g [.float .f64 v] k w ⟨g, i, none⟩ (fun e2 => by simp at e2 ⊢; omega)
  simpa [World.setCells, up1, e, h1] using this
theorem zeroF (w : World) : (zeroValue 29).run Tryz.prog w = .ok (.float .f64 0) w := by kernel_rfl
theorem step_callv {P : Program} {ops : Array Oper} {o : Oper} {a : Act} {w : World} {K : Act → World → Prop} {Q : Exit → Act → World → Prop} {E : Prop} (hg : o.guard = none) (F : FuncId) (c s x : Operand) (ts : Array TypeId)
    (hop : o.op = Op.call { callee := Callee.value c, args := #[s, x], argTypes := ts }) (u v : Value) (hs : a.eval s = u) (hx : a.eval x = v) (hF : a.eval c = .func (.func F) #[] #[])
    (henter : (callFunc F #[u, v]).run P w = .ok (.enter F #[u, v]) w)
    (hc : Calls P F #[u, v] w fun e w' => ∃ r, e = .returned r ∧ K (a.put o.dst r) w') :
    if Region.wanted o (yielded ops a.tmps) = true then Oper.wp P o a w K Q else E := by
 have hw : Region.wanted o (yielded ops a.tmps) = true := by simp [Region.wanted, hg]
 rw [if_pos hw]
 unfold Oper.wp
 simp [execOp, hop, resolve, invoke, hs, hx, hF, Deferred.ofValue]
 rw [henter]
 refine hc.mono ?_
 rintro e w' ⟨r, rfl, hk⟩
 exact hk
theorem enter_same (args : Array Value) (w : World) : (callFunc 85 args).run Tryz.prog w = .ok (.enter 85 args) w := by kernel_rfl
set_option maxHeartbeats 400000 in
set_option maxRecDepth 20000 in
theorem same_form (a b : Nat) (ha : Fl.W a) (hb : Fl.W b) (hca : Fl.canon a = a) (hcb : Fl.canon b = b) (w : World) :
    Calls Tryz.prog 85 #[.float .f64 a, .float .f64 b] w fun e w' => e = .returned (.bool (decide (a = b))) ∧ w' = w := by
 have HC := hid (cmp_any a b ha hb w)
 have he : (Fl.cmpc a b == 0) = decide (a = b) := by
  rcases Fl.cmpc_cases a b with ⟨h1, h2⟩ | ⟨h1, h2⟩ | ⟨h1, h2⟩
  ·rw [h1]; have : a ≠ b := fun e => by subst e; omega
   simp [this]
  ·rw [h1]
   have e : Fl.canon a = Fl.canon b := by rw [← Fl.of_code a ha, ← Fl.of_code b hb, h2]
   rw [hca, hcb] at e
   simp [e]
  ·rw [h1]; have : a ≠ b := fun e => by subst e; omega
   simp [this]
 generalize Fl.cmpc a b = C at *
 go_enter Tryz.func85, Tryz.ntmps85
 go_wp2_with (go_at_call 83; refine HC.out.mono ?_; rintro e w' ⟨rfl, hw⟩; have hw2 := hw.symm; subst hw2)
 go_ret
 exact ⟨by first | rfl | exact ret_b he, rfl⟩
set_option maxHeartbeats 400000 in
set_option maxRecDepth 20000 in
theorem compact_short (a : Option Addr) (n c : Nat) (fv : Value) (hn : n < 2) (w : World) :
    Calls Tryz.prog 84 #[.slice a n c, fv] w fun e w' => e = .returned (.slice a n c) ∧ w' = w := by
 go_enter Tryz.func84, Tryz.ntmps84
 go_wp2
 go_ret
 exact ⟨rfl, rfl⟩
set_option maxRecDepth 20000 in
set_option maxHeartbeats 2000000 in
set_option maxRecDepth 20000 in
theorem compact_any (g n cap : Nat) (x : Nat → Nat) (hn : 2 ≤ n) (hnc : n ≤ cap) (hm : cap ≤ maxLen) (w : World) (h : RowW w g n x) (hW : ∀ i, i < n → Fl.W (x i) ∧ Fl.canon (x i) = x i) :
    Calls Tryz.prog 84 #[.slice (some ⟨g, 0, none⟩) n cap, .func (.func 85) #[] #[]] w fun e w' => e = .returned (.slice (some ⟨g, 0, none⟩) (Fl.dt x n).length cap) ∧ (∀ i, i < (Fl.dt x n).length → w'.cell? ⟨g, i, none⟩ = (Fl.dt x n)[i]?.map (Value.float .f64)) ∧ (∀ i, i < n → w'.frozen? ⟨g, i, none⟩ = false) ∧ Only g w w' := by
 unfold maxLen at hm
 have HW := hid hW
 have HR := hid h
 clear h hW
 go_enter Tryz.func84, Tryz.ntmps84
 go_wp2
 go_loopw [5] (fun i wr => ∃ k : Nat, 1 ≤ k ∧ k ≤ n ∧ i = .int .i64 (k : Nat) ∧ (∀ j, 0 < j → j < k → x j ≠ x (j - 1)) ∧ ∃ dn, wr = w.drewN dn) (fun i _ => n - (intOf i).toNat)
 case atStart => exact ⟨1, by omega, by omega, rfl, fun j h1 h2 => by omega, 0, rfl⟩
 case round =>
  obtain ⟨k, hk1, hkn, rfl, hfresh, dn, rfl⟩ := hrel
  have HF := hid hfresh
  clear hfresh
  by_cases hlt : k < n
  ·obtain ⟨c1, _⟩ := HR.out k hlt
   obtain ⟨c0, _⟩ := HR.out (k - 1) (by omega)
   obtain ⟨w1, f1⟩ := HW.out k hlt
   obtain ⟨w2, f2⟩ := HW.out (k - 1) (by omega)
   have eS : wrap64 ((k : Int) - 1) = ((k - 1 : Nat) : Int) := by unfold wrap64; omega
   have eS2 : IntKind.i64.wrap ((k : Int) - 1) = ((k - 1 : Nat) : Int) := by rw [IntKind.wrap_i64]; omega
   have HS := hid (fun W => same_form (x k) (x (k - 1)) w1 w2 f1 f2 W)
   have l1 : (k : Int) < (n : Int) := by omega
   have l0 : (0 : Int) ≤ (k : Int) := by omega
   have m1 : ((k - 1 : Nat) : Int) < (n : Int) := by omega
   have hkm : k - 1 < n := by omega
   by_cases he : x k = x (k - 1)
   ·rw [show decide (x k = x (k - 1)) = true by simp [he]] at HS
    have hd0 := Fl.dt_fresh x k HF.out
    have hd1 : Fl.dt x (k + 1) = Fl.dt x k := by rw [Fl.dt, if_pos ⟨by omega, he⟩]
    have HD : Hid ((Fl.dt x (k + 1)).length = k ∧ ∀ i, i < k → (Fl.dt x (k + 1))[i]? = some (x i)) := by rw [hd1]; exact hd0
    clear he hd0 hd1
    generalize x k = A at c1 HS
    generalize x (k - 1) = B at c0 HS
    clear w1 f1 w2 f2
    go_wp2
    refine wp_region_held_drew (S := fun W => W.cell? ⟨g, k, none⟩ = some (.float .f64 A) ∧ W.cell? ⟨g, k - 1, none⟩ = some (.float .f64 B)) (by kernel_rfl) ?_ (fun hHeld => ?_)
    ·exact ⟨c1, c0⟩
    clear hHeld
    refine tkA (i := 0) (oi := oCfm0) ⟨c1, c0⟩ ?_
    try simp only [Act.put, puA, puB, puC]
    refine tkA (i := 1) (oi := oCfm1) ⟨c1, c0⟩ ?_
    try simp only [Act.put, puA, puB, puC]
    refine tkA (i := 2) (oi := oCfm2) ⟨c1, c0⟩ ?_
    try simp only [Act.put, puA, puB, puC]
    refine tkA (i := 3) (oi := oCfm3) ⟨c1, c0⟩ ?_
    try simp only [Act.put, puA, puB, puC]
    refine tkA (i := 4) (oi := oCfm4) ⟨c1, c0⟩ ?_
    try simp only [Act.put, puA, puB, puC]
    refine tkA (i := 5) (oi := oCfm5) ⟨c1, c0⟩ ?_
    try simp only [Act.put, puA, puB, puC]
    refine tkA (i := 6) (oi := oCfm6) ⟨c1, c0⟩ ?_
    try simp only [Act.put, puA, puB, puC]
    refine tkA (i := 7) (oi := oCfm7) ⟨c1, c0⟩ ?_
    try simp only [Act.put, puA, puB, puC]
    refine tkA (i := 8) (oi := oCfm8) ⟨c1, c0⟩ ?_
    try simp only [Act.put, puA, puB, puC]
    refine tkA (i := 9) (oi := oCfm9) ⟨c1, c0⟩ ?_
    try simp only [Act.put, puA, puB, puC]
    refine rdB 10 oCfm10 fun K hK => ?_
    refine step_callv ?_ 85 (.tmp 18) (.tmp 22) (.tmp 27) #[29, 29] ?_ (.float .f64 A) (.float .f64 B) ?_ ?_ ?_ (enter_same _ _) ?_
    iterate 5 rfl
    refine (HS.out _).mono ?_
    rintro e wq ⟨rfl, hw⟩
    have hw2 := hw.symm
    subst hw2
    refine ⟨_, rfl, ?_⟩
    refine hK.out _ _ ⟨c1, c0⟩ (fun _ => ?_)
    clear hK K
    try simp only [Act.put, puA, puB, puC]
    refine wpAnyH_done (by kernel_rfl) ?_ _
    go_wp2
    clear c0 c1 HS eS eS2 l1 l0 m1 hkm
    go_loopw [5, 7] (fun kv jv wr => ∃ (j : Nat) (y : Nat → Nat), 1 ≤ j ∧ j ≤ n - k ∧ jv = .int .i64 (j : Nat) ∧ kv = .int .i64 ((Fl.dt x (k + j)).length : Nat) ∧ (Fl.dt x (k + j)).length ≤ k + j - 1 ∧ RowW wr g n y ∧ (∀ i, i < (Fl.dt x (k + j)).length → (Fl.dt x (k + j))[i]? = some (y i)) ∧ (∀ i, k + j - 1 ≤ i → i < n → y i = x i) ∧ Only g w wr) (fun _ jv _ => n - k - (intOf jv).toNat)
    case atStart => exact ⟨1, x, by omega, by omega, rfl, by rw [HD.out.1], by rw [HD.out.1]; omega, HR.out, fun i hi => HD.out.2 i (by rw [← HD.out.1]; exact hi), fun i _ _ => rfl, ((Only.refl g w).drewN _).drewN 1⟩
    case round =>
     obtain ⟨j, y, hj1, hj2, rfl, rfl, hkk, hrow, hpre, hsuf, hon⟩ := hrel
     have HRow := hid hrow
     have HPre := hid hpre
     have HSuf := hid hsuf
     have HOn := hid hon
     clear hrow hpre hsuf hon HD
     by_cases hjl : j < n - k
     ·have hkj : k + j < n := by omega
      have d1 := (HRow.out (k + j) (by omega)).1
      have d0 := (HRow.out (k + (j - 1)) (by omega)).1
      rw [HSuf.out (k + j) (by omega) (by omega)] at d1
      rw [HSuf.out (k + (j - 1)) (by omega) (by omega)] at d0
      obtain ⟨w1, f1⟩ := HW.out (k + j) (by omega)
      obtain ⟨w2, f2⟩ := HW.out (k + (j - 1)) (by omega)
      have HS2 := hid (fun W => same_form (x (k + j)) (x (k + (j - 1))) w1 w2 f1 f2 W)
      have eS : IntKind.i64.wrap ((j : Int) - 1) = ((j - 1 : Nat) : Int) := by rw [IntKind.wrap_i64]; omega
      have l1 : (j : Int) < ((n - k : Nat) : Int) := by omega
      have l0 : (0 : Int) ≤ (j : Int) := by omega
      have m1 : ((j - 1 : Nat) : Int) < ((n - k : Nat) : Int) := by omega
      have m2 : j - 1 < n - k := by omega
      have hdt : Fl.dt x (k + (j + 1)) = if k + j ≠ 0 ∧ x (k + j) = x (k + j - 1) then Fl.dt x (k + j) else Fl.dt x (k + j) ++ [x (k + j)] := rfl
      rw [show k + j - 1 = k + (j - 1) by omega] at hdt
      by_cases he : x (k + j) = x (k + (j - 1))
      ·rw [show decide (x (k + j) = x (k + (j - 1))) = true by simp [he]] at HS2
       rw [if_pos ⟨by omega, he⟩] at hdt
       have HNext : Hid (∀ W, RowW W g n y → Only g w W → ∃ (j' : Nat) (y' : Nat → Nat), 1 ≤ j' ∧ j' ≤ n - k ∧ (Value.int .i64 ((j : Int) + 1)) = .int .i64 (j' : Nat) ∧ (Value.int .i64 ((Fl.dt x (k + j)).length : Nat)) = .int .i64 ((Fl.dt x (k + j')).length : Nat) ∧ (Fl.dt x (k + j')).length ≤ k + j' - 1 ∧ RowW W g n y' ∧ (∀ i, i < (Fl.dt x (k + j')).length → (Fl.dt x (k + j'))[i]? = some (y' i)) ∧ (∀ i, k + j' - 1 ≤ i → i < n → y' i = x i) ∧ Only g w W) := fun W h1 h2 => ⟨j + 1, y, by omega, by omega, by simp, by rw [hdt], by rw [hdt]; omega, h1, by rw [hdt]; exact HPre.out, fun i hi1 hi2 => HSuf.out i (by omega) hi2, h2⟩
       clear he hdt w1 w2 f1 f2 HF HPre HSuf HW
       generalize x (k + j) = A at d1 HS2
       generalize x (k + (j - 1)) = B at d0 HS2
       generalize (Fl.dt x (k + j)).length = KK at *
       go_wp2
       refine wp_region_held_drew (S := fun W => W.cell? ⟨g, k + j, none⟩ = some (.float .f64 A) ∧ W.cell? ⟨g, k + (j - 1), none⟩ = some (.float .f64 B)) (by kernel_rfl) ?_ (fun hHeld => ?_)
       ·exact ⟨d1, d0⟩
       clear hHeld
       refine tkA (i := 0) (oi := oCfm11) ⟨d1, d0⟩ ?_
       try simp only [Act.put, puA, puB, puC]
       refine tkA (i := 1) (oi := oCfm12) ⟨d1, d0⟩ ?_
       try simp only [Act.put, puA, puB, puC]
       refine tkA (i := 2) (oi := oCfm13) ⟨d1, d0⟩ ?_
       try simp only [Act.put, puA, puB, puC]
       refine tkA (i := 3) (oi := oCfm14) ⟨d1, d0⟩ ?_
       try simp only [Act.put, puA, puB, puC]
       refine tkA (i := 4) (oi := oCfm15) ⟨d1, d0⟩ ?_
       try simp only [Act.put, puA, puB, puC]
       refine tkA (i := 5) (oi := oCfm16) ⟨d1, d0⟩ ?_
       try simp only [Act.put, puA, puB, puC]
       refine tkA (i := 6) (oi := oCfm17) ⟨d1, d0⟩ ?_
       try simp only [Act.put, puA, puB, puC]
       refine tkA (i := 7) (oi := oCfm18) ⟨d1, d0⟩ ?_
       try simp only [Act.put, puA, puB, puC]
       refine tkA (i := 8) (oi := oCfm19) ⟨d1, d0⟩ ?_
       try simp only [Act.put, puA, puB, puC]
       refine tkA (i := 9) (oi := oCfm20) ⟨d1, d0⟩ ?_
       try simp only [Act.put, puA, puB, puC]
       refine rdB 10 oCfm21 fun K hK => ?_
       refine step_callv ?_ 85 (.tmp 38) (.tmp 42) (.tmp 47) #[29, 29] ?_ (.float .f64 A) (.float .f64 B) ?_ ?_ ?_ (enter_same _ _) ?_
       iterate 5 rfl
       refine (HS2.out _).mono ?_
       rintro e wq ⟨rfl, hw⟩
       have hw2 := hw.symm
       subst hw2
       refine ⟨_, rfl, ?_⟩
       refine hK.out _ _ ⟨d1, d0⟩ (fun _ => ?_)
       clear hK K
       try simp only [Act.put, puA, puB, puC]
       refine tkA (i := 11) (oi := oCfm22) ⟨d1, d0⟩ ?_
       try simp only [Act.put, puA, puB, puC]
       refine wpAnyH_done (by kernel_rfl) ?_ _
       go_wp2
       go_roundw
       case rel => exact HNext.out _ HRow.out (HOn.out.drewN 1)
       case measure => simp [intOf]; omega
      ·rw [show decide (x (k + j) = x (k + (j - 1))) = false by simp [he]] at HS2
       rw [if_neg (fun h => he h.2)] at hdt
       have hKn : (Fl.dt x (k + j)).length < n := by omega
       obtain ⟨cK, fK⟩ := HRow.out (Fl.dt x (k + j)).length hKn
       have HNext : Hid (∀ W, RowW W g n (up1 y (Fl.dt x (k + j)).length (x (k + j))) → Only g w W → ∃ (j' : Nat) (y' : Nat → Nat), 1 ≤ j' ∧ j' ≤ n - k ∧ (Value.int .i64 ((j : Int) + 1)) = .int .i64 (j' : Nat) ∧ (Value.int .i64 (((Fl.dt x (k + j)).length : Int) + 1)) = .int .i64 ((Fl.dt x (k + j')).length : Nat) ∧ (Fl.dt x (k + j')).length ≤ k + j' - 1 ∧ RowW W g n y' ∧ (∀ i, i < (Fl.dt x (k + j')).length → (Fl.dt x (k + j'))[i]? = some (y' i)) ∧ (∀ i, k + j' - 1 ≤ i → i < n → y' i = x i) ∧ Only g w W) := fun W h1 h2 => by
        refine ⟨j + 1, _, by omega, by omega, by simp, by rw [hdt]; simp, by rw [hdt]; simp; omega, h1, fun i hi => ?_, fun i hi1 hi2 => ?_, h2⟩
        ·rw [hdt] at hi ⊢
         unfold up1
         by_cases e : i < (Fl.dt x (k + j)).length
         ·rw [List.getElem?_append_left e, HPre.out i e, if_neg (by omega)]
         ·simp at hi
          obtain rfl : i = (Fl.dt x (k + j)).length := by omega
          rw [List.getElem?_append_right (Nat.le_refl _)]; simp
        ·unfold up1
         rw [if_neg (by omega)]
         exact HSuf.out i (by omega) hi2
       clear he hdt w1 w2 f1 f2 HF HPre HSuf HW
       generalize x (k + j) = A at d1 HS2 HNext
       generalize x (k + (j - 1)) = B at d0 HS2
       generalize (Fl.dt x (k + j)).length = KK at *
       have n1 : (KK : Int) < (n : Int) := by omega
       have n0 : (0 : Int) ≤ (KK : Int) := by omega
       go_wp2
       refine wp_region_held_drew (S := fun W => W.cell? ⟨g, k + j, none⟩ = some (.float .f64 A) ∧ W.cell? ⟨g, k + (j - 1), none⟩ = some (.float .f64 B)) (by kernel_rfl) ?_ (fun hHeld => ?_)
       ·exact ⟨d1, d0⟩
       clear hHeld
       refine tkA (i := 0) (oi := oCfm11) ⟨d1, d0⟩ ?_
       try simp only [Act.put, puA, puB, puC]
       refine tkA (i := 1) (oi := oCfm12) ⟨d1, d0⟩ ?_
       try simp only [Act.put, puA, puB, puC]
       refine tkA (i := 2) (oi := oCfm13) ⟨d1, d0⟩ ?_
       try simp only [Act.put, puA, puB, puC]
       refine tkA (i := 3) (oi := oCfm14) ⟨d1, d0⟩ ?_
       try simp only [Act.put, puA, puB, puC]
       refine tkA (i := 4) (oi := oCfm15) ⟨d1, d0⟩ ?_
       try simp only [Act.put, puA, puB, puC]
       refine tkA (i := 5) (oi := oCfm16) ⟨d1, d0⟩ ?_
       try simp only [Act.put, puA, puB, puC]
       refine tkA (i := 6) (oi := oCfm17) ⟨d1, d0⟩ ?_
       try simp only [Act.put, puA, puB, puC]
       refine tkA (i := 7) (oi := oCfm18) ⟨d1, d0⟩ ?_
       try simp only [Act.put, puA, puB, puC]
       refine tkA (i := 8) (oi := oCfm19) ⟨d1, d0⟩ ?_
       try simp only [Act.put, puA, puB, puC]
       refine tkA (i := 9) (oi := oCfm20) ⟨d1, d0⟩ ?_
       try simp only [Act.put, puA, puB, puC]
       refine rdB 10 oCfm21 fun K hK => ?_
       refine step_callv ?_ 85 (.tmp 38) (.tmp 42) (.tmp 47) #[29, 29] ?_ (.float .f64 A) (.float .f64 B) ?_ ?_ ?_ (enter_same _ _) ?_
       iterate 5 rfl
       refine (HS2.out _).mono ?_
       rintro e wq ⟨rfl, hw⟩
       have hw2 := hw.symm
       subst hw2
       refine ⟨_, rfl, ?_⟩
       refine hK.out _ _ ⟨d1, d0⟩ (fun _ => ?_)
       clear hK K
       try simp only [Act.put, puA, puB, puC]
       refine tkA (i := 11) (oi := oCfm22) ⟨d1, d0⟩ ?_
       try simp only [Act.put, puA, puB, puC]
       refine wpAnyH_done (by kernel_rfl) ?_ _
       go_wp2
       go_roundw
       case rel => exact HNext.out _ ((HRow.out.drewN 1).set KK A hKn) ((HOn.out.drewN 1).set KK _)
       case measure => simp [intOf]; omega
     ·obtain rfl : j = n - k := by omega
      rw [show k + (n - k) = n by omega] at hkk HPre
      have hKn : (Fl.dt x n).length < n := by omega
      have hcc : ¬ cap = (Fl.dt x n).length := by omega
      have eD : Fl.dt x (k + (n - k)) = Fl.dt x n := by rw [show k + (n - k) = n by omega]
      rw [eD]
      have HCc : Hid (∀ i, i < n - (Fl.dt x n).length → (wr.cell? ⟨g, (Fl.dt x n).length + i, none⟩).isSome = true ∧ wr.frozen? ⟨g, (Fl.dt x n).length + i, none⟩ = false) := fun i hi => by
       obtain ⟨q1, q2⟩ := HRow.out ((Fl.dt x n).length + i) (by omega)
       exact ⟨by rw [q1]; rfl, q2⟩
      have HFin : Hid ((∀ i, i < (Fl.dt x n).length → (wr.setCells g (Fl.dt x n).length (List.replicate (n - (Fl.dt x n).length) (.float .f64 0))).cell? ⟨g, i, none⟩ = (Fl.dt x n)[i]?.map (Value.float .f64)) ∧ (∀ i, i < n → (wr.setCells g (Fl.dt x n).length (List.replicate (n - (Fl.dt x n).length) (.float .f64 0))).frozen? ⟨g, i, none⟩ = false) ∧ Only g w (wr.setCells g (Fl.dt x n).length (List.replicate (n - (Fl.dt x n).length) (.float .f64 0)))) := by
       refine ⟨fun i hi => ?_, fun i hi => ?_, Only.sets _ _ HOn.out⟩
       ·rw [World.cell?_setCells_out g _ _ wr ⟨g, i, none⟩ (fun _ => by simp; omega), HPre.out i hi]
        exact (HRow.out i (by omega)).1
       ·rw [World.frozen?_setCells]; exact (HRow.out i hi).2
      have HKK : Hid ((Fl.dt x n).length = (Fl.dt x n).length) := rfl
      clear HF HPre HSuf HW HRow HOn hjl hj1 hj2 eD
      generalize hKKe : (Fl.dt x n).length = KK at hkk hKn hcc HCc HFin ⊢
      have HKe := hid hKKe
      clear hKKe HKK
      have n1 : (KK : Int) ≤ (n : Int) := by omega
      have n0 : (0 : Int) ≤ (KK : Int) := by omega
      have HRun := hid (Go.Lib.run_clear_slice (P := Tryz.prog) wr 30 29 0 (.float .f64 0) Tryz.underlying30 zeroF rfl rfl g KK (n - KK) (cap - KK) (by omega) (fun i hi => (HCc.out i hi).1) (fun i hi => (HCc.out i hi).2))
      go_wp2
      rw [HRun.out]
      go_wp2
      go_ret
      have hf := HFin.out
      exact ⟨by rw [HKe.out]; rfl, fun i hi => hf.1 i (by rw [← HKe.out]; exact hi), hf.2.1, hf.2.2⟩
   ·rw [show decide (x k = x (k - 1)) = false by simp [he]] at HS
    have HN : Hid (∀ j, 0 < j → j < k + 1 → x j ≠ x (j - 1)) := fun j h1 h2 => by
     by_cases e : j = k
     ·subst e; exact he
     ·exact HF.out j h1 (by omega)
    clear he
    generalize x k = A at c1 HS
    generalize x (k - 1) = B at c0 HS
    clear w1 f1 w2 f2
    go_wp2
    refine wp_region_held_drew (S := fun W => W.cell? ⟨g, k, none⟩ = some (.float .f64 A) ∧ W.cell? ⟨g, k - 1, none⟩ = some (.float .f64 B)) (by kernel_rfl) ?_ (fun hHeld => ?_)
    ·exact ⟨c1, c0⟩
    clear hHeld
    refine tkA (i := 0) (oi := oCfm0) ⟨c1, c0⟩ ?_
    try simp only [Act.put, puA, puB, puC]
    refine tkA (i := 1) (oi := oCfm1) ⟨c1, c0⟩ ?_
    try simp only [Act.put, puA, puB, puC]
    refine tkA (i := 2) (oi := oCfm2) ⟨c1, c0⟩ ?_
    try simp only [Act.put, puA, puB, puC]
    refine tkA (i := 3) (oi := oCfm3) ⟨c1, c0⟩ ?_
    try simp only [Act.put, puA, puB, puC]
    refine tkA (i := 4) (oi := oCfm4) ⟨c1, c0⟩ ?_
    try simp only [Act.put, puA, puB, puC]
    refine tkA (i := 5) (oi := oCfm5) ⟨c1, c0⟩ ?_
    try simp only [Act.put, puA, puB, puC]
    refine tkA (i := 6) (oi := oCfm6) ⟨c1, c0⟩ ?_
    try simp only [Act.put, puA, puB, puC]
    refine tkA (i := 7) (oi := oCfm7) ⟨c1, c0⟩ ?_
    try simp only [Act.put, puA, puB, puC]
    refine tkA (i := 8) (oi := oCfm8) ⟨c1, c0⟩ ?_
    try simp only [Act.put, puA, puB, puC]
    refine tkA (i := 9) (oi := oCfm9) ⟨c1, c0⟩ ?_
    try simp only [Act.put, puA, puB, puC]
    refine rdB 10 oCfm10 fun K hK => ?_
    refine step_callv ?_ 85 (.tmp 18) (.tmp 22) (.tmp 27) #[29, 29] ?_ (.float .f64 A) (.float .f64 B) ?_ ?_ ?_ (enter_same _ _) ?_
    iterate 5 rfl
    refine (HS.out _).mono ?_
    rintro e wq ⟨rfl, hw⟩
    have hw2 := hw.symm
    subst hw2
    refine ⟨_, rfl, ?_⟩
    refine hK.out _ _ ⟨c1, c0⟩ (fun _ => ?_)
    clear hK K
    try simp only [Act.put, puA, puB, puC]
    refine wpAnyH_done (by kernel_rfl) ?_ _
    go_wp2
    go_roundw
    case rel => exact ⟨k + 1, by omega, by omega, by go_num, HN.out, _, rfl⟩
    case measure => simp [intOf]; omega
  ·obtain rfl : n = k := by omega
   have hd := Fl.dt_fresh x n HF.out
   have HD := hid hd
   clear hd HW
   go_wp2
   go_ret
   refine ⟨by rw [HD.out.1]; rfl, fun i hi => ?_, fun i hi => (HR.out i hi).2, (Only.refl g w).drewN _⟩
   rw [HD.out.2 i (by rw [← HD.out.1]; exact hi)]
   exact (HR.out i (by rw [← HD.out.1]; exact hi)).1
end Go.Proofs.YthjfkmjeppdcnaaGreat
