/- Rows of numbers that the call itself has made; the document's Sort: its first and its last number; conditions: the lengths fit. -/
import Derived.Test.YtbkbnfgjkefcmaaGreatUsm
import Derived.Laws.AppendOwnNone
import Derived.OneCell
import Derived.ArgAppend
import Derived.OwnWalk
import Derived.Deep.QuietTactic
import Derived.BigQuiet
import Derived.Deep.Draws
namespace Go.Proofs.YtbkbnfgjkefcmaaGreat
open Go.RowKit
set_option linter.unusedVariables false
attribute [local go_sem] run_bits run_frombits run_store_float eqF
def fls (L : List Nat) : List Value := L.map fun b => .float .f64 b
theorem fls_len (L : List Nat) : (fls L).length = L.length := by simp [fls]
theorem fls_app (L M : List Nat) : fls L ++ fls M = fls (L ++ M) := by simp [fls]
theorem infoFloat : (Tryz.prog.info? 43).map (fun i => (i.zero, i.size, i.bytes)) = some (some (.float .f64 0), 1, 8) := by kernel_rfl
/-- The slice value v owns numbers among the call's own blocks. -/
def OwnF (base : Nat) (w : World) (v : Value) (L : List Nat) : Prop := w.ownsRow base 43 1 v L.length (fls L)
theorem OwnF.empty {base g : Nat} {w : World} (hb : base ≤ w.heap.size) (hg : w.heap.size = g) : OwnF base (w.alloc (.cells #[] 43)) (.slice (some ⟨g, 0, none⟩) 0 0) [] := by
  subst hg
  exact World.ownsRow_made w #[] 0 hb (by unfold maxLen; omega) rfl
theorem OwnF.up {base : Nat} {w w' : World} {v : Value} {L : List Nat} (h : OwnF base w v L) (u : Old w w') : OwnF base w' v L := by
  refine ⟨h.1, ?_⟩
  rcases h.2 with e | ⟨g, cap, cur, e, hb', hg, r⟩
  · exact .inl e
  · exact .inr ⟨g, cap, cur, e, hb', by rw [u.block g (lt_of_block hg)]; exact hg, r⟩
theorem OwnF.shape {base : Nat} {w : World} {v : Value} {L : List Nat} (h : OwnF base w v L) (hn : 0 < L.length) :
    ∃ g cap, v = .slice (some ⟨g, 0, none⟩) L.length cap ∧ base ≤ g ∧ g < w.heap.size ∧ ∀ i (hi : i < L.length), w.cell? ⟨g, i, none⟩ = some (.float .f64 L[i]) := by
  have h2 := h
  unfold OwnF at h2
  rcases h2.2 with ⟨_, e⟩ | ⟨g, cap, cur, rfl, hb, hg, hnc, hcm, hcs, htk⟩
  · omega
  · refine ⟨g, cap, rfl, hb, lt_of_block hg, fun i hi => ?_⟩
    rw [h2.cellAt i (by omega)]
    simp [fls, hi]
theorem OwnF.len {base : Nat} {w : World} {v : Value} {L : List Nat} (h : OwnF base w v L) : ∃ a c, v = .slice a L.length c := by
  rcases h.2 with ⟨rfl, e⟩ | ⟨g, cap, cur, rfl, _⟩
  · exact ⟨none, 0, by rw [e]⟩
  · exact ⟨_, _, rfl⟩
theorem OwnF.grown {base : Nat} {w w' : World} {v : Value} {L : List Nat} {row : Option Nat} (h : OwnF base w v L) (hg : w.grownBy w' row) (hne : v.ownBlock = none ∨ v.ownBlock ≠ row) : OwnF base w' v L := h.kept hg hne
theorem wp_appF {ops : Array Oper} {rest : List Oper} {o : Oper} {a : Act} {Q : Exit → Act → World → Prop} {w : World} (hgd : o.guard = none) (s x : Operand)
    (ho : o.op = .call { callee := .builtin .append, args := #[s, x], argTypes := #[28, 28] }) (base : Nat) (v : Value) (L : List Nat) (g c1 y : Nat)
    (hs : a.eval s = v) (hx : a.eval x = .slice (some ⟨g, 0, none⟩) 1 c1) (hown : OwnF base w v L) (hc : w.cell? ⟨g, 0, none⟩ = some (.float .f64 y)) (hb : L.length + 1 ≤ 17592186044416) (hbase : base ≤ w.heap.size)
    (h : ∀ v' w', OwnF base w' v' (L ++ [y]) → Below base w w' → wpList Tryz.prog ops Q rest (a.put o.dst v') w') : wpList Tryz.prog ops Q (o :: rest) a w := by
  obtain ⟨i0, hi, hz0, hz1, hz2⟩ := info_parts infoFloat
  refine wpList_append_own w hgd s x 28 ho base 43 i0 _ 1 8 Tryz.underlying28 hi hz0 hz1 hz2 rfl (by decide) v L.length (fls L) hs hown ⟨g, 0, none⟩ 1 c1 (fls [y]) hx rfl ?_ ?_ (by unfold maxLen; omega) (by omega) hbase ?_
  · intro j u hj
    match j with
    | 0 => simp [fls] at hj; subst hj; rw [Go.WideShapes.add_plain]; exact hc
    | j + 1 => simp [fls] at hj
  · intro u hu; simp [fls] at hu; subst hu; rfl
  · intro v' w' h1 h2 h3
    exact h v' w' (by unfold OwnF; rw [fls_app] at h1; simpa using h1) (Below.grown (Below.refl _ _) h2 hbase (fun k hk => (World.ownsRow.lt hown k hk).1))
theorem cell_one (w : World) (y g : Nat) (hg : w.heap.size = g) : (w.alloc (.cells #[.float .f64 y] 43)).cell? ⟨g, 0, none⟩ = some (.float .f64 y) := by subst hg; simp
theorem OwnF.mono {base b' : Nat} {w : World} {v : Value} {L : List Nat} (h : OwnF base w v L) (hb : b' ≤ base) : OwnF b' w v L := by
  refine ⟨h.1, ?_⟩
  rcases h.2 with e | ⟨g, cap, cur, e, hb', r⟩
  · exact .inl e
  · exact .inr ⟨g, cap, cur, e, by omega, r⟩
namespace Fl
def insG (x : Nat) : Bool → List Nat → List Nat × Bool
  | d, [] => ([], d)
  | d, y :: r => ((if code x < code y ∧ d = false then [canon x, y] else [y]) ++ (insG x (d || decide (code x ≤ code y)) r).1, (insG x (d || decide (code x ≤ code y)) r).2)
def insL (x : Nat) (L : List Nat) : List Nat := if (insG x false L).2 = true then (insG x false L).1 else (insG x false L).1 ++ [canon x]
def sortL (x : Nat → Nat) : Nat → List Nat | 0 => [] | k + 1 => insL (x k) (sortL x k)
theorem insG_len (x : Nat) : ∀ (L : List Nat) (d : Bool), (insG x d L).1.length ≤ L.length + 1 ∧ (d = true → (insG x d L).1.length = L.length) ∧ ((insG x d L).2 = false → (insG x d L).1.length = L.length)
  | [], d => ⟨by simp [insG], fun _ => rfl, fun _ => rfl⟩
  | y :: r, d => by
    have h := insG_len x r (d || decide (code x ≤ code y))
    unfold insG
    by_cases c : code x < code y ∧ d = false
    · have e : (d || decide (code x ≤ code y)) = true := by rw [c.2]; simp; omega
      rw [e] at h ⊢
      have h2 := h.2.1 rfl
      rw [if_pos c]
      refine ⟨by simp; omega, fun hd => (by rw [c.2] at hd; cases hd), fun hf => ?_⟩
      have t := h.2.2 hf
      exfalso
      have k : ∀ (M : List Nat), (insG x true M).2 = true := by
        intro M
        induction M with
        | nil => rfl
        | cons a M ih => unfold insG; simpa using ih
      rw [k] at hf; cases hf
    · rw [if_neg c]
      refine ⟨by simp; omega, fun hd => ?_, fun hf => ?_⟩
      · subst hd; have := h.2.1 rfl; simp; simpa using this
      · have := h.2.2 hf; simp; omega
theorem insL_len (x : Nat) (L : List Nat) : (insL x L).length ≤ L.length + 1 := by
  have h := insG_len x L false
  unfold insL
  split
  · exact h.1
  · have := h.2.2 (by simpa using ‹¬ (insG x false L).2 = true›); simp; omega
theorem sortL_len (x : Nat → Nat) : ∀ k, (sortL x k).length ≤ k
  | 0 => by simp [sortL]
  | k + 1 => by have := sortL_len x k; have := insL_len (x k) (sortL x k); show (insL (x k) (sortL x k)).length ≤ k + 1; omega
theorem insG_mem (x : Nat) : ∀ (L : List Nat) (d : Bool) z, z ∈ (insG x d L).1 → z = canon x ∨ z ∈ L
  | [], d, z, h => by simp [insG] at h
  | y :: r, d, z, h => by
    unfold insG at h
    have ih := insG_mem x r (d || decide (code x ≤ code y)) z
    rw [List.mem_append] at h
    rcases h with h | h
    · split at h <;> simp at h
      · rcases h with h | h <;> simp [h]
      · simp [h]
    · rcases ih h with h | h <;> simp [h]
end Fl
theorem below_up' {a w w1 w2 : World} (h : Old a w) (k : Old w w1) (u : Below a.heap.size w1 w2) : Old a w2 := Below.trans (Old.trans h k) u
theorem drop_cons (L : List Nat) (k : Nat) (h : k < L.length) : L.drop k = L[k] :: L.drop (k + 1) := List.drop_eq_getElem_cons h
set_option maxHeartbeats 4000000 in
set_option maxRecDepth 20000 in
theorem sort_any (b off n cap : Nat) (x : Nat → Nat) (hm : n ≤ 17592186044000) (w : World) (hc : ∀ i, i < n → Fl.W (x i) ∧ w.cell? ⟨b, off + i, none⟩ = some (.float .f64 (x i))) :
    Calls Tryz.prog 41 #[.slice (some ⟨b, off, none⟩) n cap] w fun e w' => ∃ v', e = .returned v' ∧ OwnF w.heap.size w' v' (Fl.sortL x n) ∧ Old w w' := by
  have HX := hid hc
  have hmm := hid hm
  clear hc
  go_enter Tryz.func41, Tryz.ntmps41
  go_wp2
  go_loopw [3, 4] (fun o i wi => ∃ m : Nat, m ≤ n ∧ i = .int .i64 (m : Nat) ∧ OwnF w.heap.size wi o (Fl.sortL x m) ∧ Old w wi ∧ ∀ y ∈ Fl.sortL x m, Fl.W y) (fun _ i _ => n - (intOf i).toNat)
  case atStart => exact ⟨0, Nat.zero_le _, rfl, OwnF.empty (Nat.le_refl _) rfl, (Old.refl w).alloc _, fun y h => by simp [Fl.sortL] at h⟩
  case round =>
    generalize wr = wi at *
    obtain ⟨m, hmn, rfl, ho, hu, hw⟩ := hrel
    by_cases hlt : m < n
    · have hxm := (HX.out m hlt)
      have hWx := hxm.1
      have cx := hu.keep hxm.2
      have HW := hid hw
      have hSl := hid (Fl.sortL_len x m)
      have HSL : Hid (Fl.sortL x (m + 1) = Fl.insL (x m) (Fl.sortL x m)) := rfl
      have HXM := hid hxm
      clear hxm hw
      generalize Fl.sortL x m = L at *
      obtain ⟨oa, oc, hov⟩ := OwnF.len ho
      subst hov
      have HO := hid ho
      clear ho
      go_wp2
      go_loopw [5, 6, 7] (fun a d i wr => ∃ (k : Nat) (N : List Nat) (D : Bool), k ≤ L.length ∧ i = .int .i64 (k : Nat) ∧ d = .bool D ∧ N ++ (Fl.insG (x m) D (L.drop k)).1 = (Fl.insG (x m) false L).1 ∧ (Fl.insG (x m) D (L.drop k)).2 = (Fl.insG (x m) false L).2 ∧ (N.length ≤ k + 1 ∧ (D = false → N.length ≤ k)) ∧ OwnF wi.heap.size wr a N ∧ Old wi wr) (fun _ _ i _ => L.length - (intOf i).toNat)
      case atStart => exact ⟨0, [], false, Nat.zero_le _, rfl, rfl, rfl, rfl, ⟨by simp, fun _ => by simp⟩, OwnF.empty (Nat.le_refl _) rfl, (Old.refl wi).alloc _⟩
      case round =>
        obtain ⟨k, N, D, hk, rfl, rfl, e1, e2, hN, hon, hur⟩ := hrel
        by_cases hlt2 : k < L.length
        · obtain ⟨g, gc, hs, hg1, hg2, hcell⟩ := OwnF.shape HO.out (by omega)
          cases hs
          have cy := hur.keep (hcell k hlt2)
          have cx2 := hur.keep cx
          have hWy : Fl.W L[k] := HW.out _ (List.getElem_mem hlt2)
          rw [drop_cons L k hlt2] at e1 e2
          have E1 := hid e1
          have E2 := hid e2
          have OK := hid hon
          have UK := hid hur
          have hNl := hid hN.1
          have hNf := hid hN.2
          have HCY := hid (hcell k hlt2)
          have l5 : (k : Int) + 1 ≤ 17592186044416 := by have := hSl.out; have := hmm.out; omega
          have l1 : (0 : Int) ≤ (k : Int) := by omega
          have l2 : (k : Int) < (L.length : Int) := by omega
          have l3 : (0 : Int) ≤ (m : Int) := by omega
          have l4 : (m : Int) < (n : Int) := by omega
          clear e1 e2 hon hcell hN cx
          generalize L[k] = y at *
          have cc := Fl.cmpc_cases (x m) y
          have HCC := hid cc
          clear cc
          generalize x m = X at *
          go_wp2
          go_quiet ((go_at_call 68; exact Calls.quiet_of_same (refCmp_any X y hWx hWy _)))
          have HOf0 := fun w => of_any (Fl.code X) (Fl.code_le X hWx) w
          rw [Fl.of_code X hWx] at HOf0
          have HOf := hid HOf0
          clear HOf0
          have OKd := hid (OwnF.up OK.out ((Old.refl wr).drewN nq))
          have UKd := hid (UK.out.drewN nq)
          rcases HCC.out with ⟨hq, hl⟩ | ⟨hq, hl⟩ | ⟨hq, hl⟩
          · cases D
            · have d1 : (Fl.insG X false (y :: L.drop (k + 1))) = ([Fl.canon X, y] ++ (Fl.insG X true (L.drop (k + 1))).1, (Fl.insG X true (L.drop (k + 1))).2) := by
                rw [Fl.insG]; simp [hl]; rw [decide_eq_true (by omega)]; exact ⟨rfl, rfl⟩
              rw [d1] at E1 E2
              clear d1 HCC hl OK UK
              simp only [hq]
              clear hq
              go_wp2_with (first | (go_at_call 65; refine (refCode_any X hWx _).mono ?_; rintro e w' ⟨rfl, rfl⟩) | (go_at_call 69; refine (HOf.out _).mono ?_; rintro e w' ⟨rfl, rfl⟩) | (at_builtin; refine wp_appF rfl (.tmp 38) (.tmp 45) rfl wi.heap.size _ N _ 1 (Fl.canon X) rfl rfl (OwnF.up OKd.out ((Old.refl _).alloc _)) (cell_one _ _ _ (by simp)) (by have := hNl.out; have := hSl.out; have := hmm.out; simp; omega) (by have := UKd.out.size; simp at *; omega) ?_; intro v7 w7 o7 u7; have O7 := hid o7; have V7 := hid (below_up' UKd.out ((Old.refl _).alloc _) u7); have cy7 := V7.out.keep HCY.out; clear o7 u7) | (at_builtin; refine wp_appF rfl (.tmp 49) (.tmp 54) rfl wi.heap.size _ (N ++ [Fl.canon X]) _ 1 y rfl rfl (OwnF.up O7.out ((Old.refl _).alloc _)) (cell_one _ _ _ (by simp)) (by have := hNl.out; have := hSl.out; have := hmm.out; simp; omega) (by have := V7.out.size; simp at *; omega) ?_; intro v8 w8 o8 u8; have O8 := hid o8; have V8 := hid (below_up' V7.out ((Old.refl _).alloc _) u8); clear o8 u8))
              go_roundw
              case rel => exact ⟨k + 1, N ++ [Fl.canon X] ++ [y], true, by omega, by go_num, rfl, by rw [← E1.out]; simp, by rw [← E2.out], ⟨by have := hNl.out; have := hNf.out; simp at *; omega, fun hD => by first | (cases hD; done) | (have := hNf.out rfl; simp; omega)⟩, O8.out, V8.out⟩
              case measure => simp [intOf]; omega
            · have d1 : (Fl.insG X true (y :: L.drop (k + 1))) = ([y] ++ (Fl.insG X true (L.drop (k + 1))).1, (Fl.insG X true (L.drop (k + 1))).2) := by
                rw [Fl.insG]; simp
              rw [d1] at E1 E2
              clear d1 HCC hl OK UK
              simp only [hq]
              clear hq
              go_wp2_with (first | (at_builtin; refine wp_appF rfl (.tmp 49) (.tmp 54) rfl wi.heap.size _ N _ 1 y rfl rfl (OwnF.up OKd.out ((Old.refl _).alloc _)) (cell_one _ _ _ (by simp)) (by have := hNl.out; have := hSl.out; have := hmm.out; simp; omega) (by have := UKd.out.size; simp at *; omega) ?_; intro v8 w8 o8 u8; have O8 := hid o8; have V8 := hid (below_up' UKd.out ((Old.refl _).alloc _) u8); clear o8 u8))
              go_roundw
              case rel => exact ⟨k + 1, N ++ [y], true, by omega, by go_num, rfl, by rw [← E1.out]; simp, by rw [← E2.out], ⟨by have := hNl.out; have := hNf.out; simp at *; omega, fun hD => by first | (cases hD; done) | (have := hNf.out rfl; simp; omega)⟩, O8.out, V8.out⟩
              case measure => simp [intOf]; omega
          · have d1 : (Fl.insG X D (y :: L.drop (k + 1))) = ([y] ++ (Fl.insG X true (L.drop (k + 1))).1, (Fl.insG X true (L.drop (k + 1))).2) := by
              rw [Fl.insG]; rw [if_neg (by omega), decide_eq_true (by omega)]; simp
            rw [d1] at E1 E2
            clear d1 HCC hl OK UK
            simp only [hq]
            clear hq
            cases D
            all_goals
              go_wp2_with (first | (at_builtin; refine wp_appF rfl (.tmp 49) (.tmp 54) rfl wi.heap.size _ N _ 1 y rfl rfl (OwnF.up OKd.out ((Old.refl _).alloc _)) (cell_one _ _ _ (by simp)) (by have := hNl.out; have := hSl.out; have := hmm.out; simp; omega) (by have := UKd.out.size; simp at *; omega) ?_; intro v8 w8 o8 u8; have O8 := hid o8; have V8 := hid (below_up' UKd.out ((Old.refl _).alloc _) u8); clear o8 u8))
              go_roundw
              case rel => exact ⟨k + 1, N ++ [y], true, by omega, by go_num, rfl, by rw [← E1.out]; simp, by rw [← E2.out], ⟨by have := hNl.out; have := hNf.out; simp at *; omega, fun hD => by first | (cases hD; done) | (have := hNf.out rfl; simp; omega)⟩, O8.out, V8.out⟩
              case measure => simp [intOf]; omega
          · have d1 : (Fl.insG X D (y :: L.drop (k + 1))) = ([y] ++ (Fl.insG X D (L.drop (k + 1))).1, (Fl.insG X D (L.drop (k + 1))).2) := by
              rw [Fl.insG]; rw [if_neg (by omega), decide_eq_false (by omega)]; simp
            rw [d1] at E1 E2
            clear d1 HCC hl OK UK
            simp only [hq]
            clear hq
            cases D
            · go_wp2_with (first | (at_builtin; refine wp_appF rfl (.tmp 49) (.tmp 54) rfl wi.heap.size _ N _ 1 y rfl rfl (OwnF.up OKd.out ((Old.refl _).alloc _)) (cell_one _ _ _ (by simp)) (by have := hNl.out; have := hSl.out; have := hmm.out; simp; omega) (by have := UKd.out.size; simp at *; omega) ?_; intro v8 w8 o8 u8; have O8 := hid o8; have V8 := hid (below_up' UKd.out ((Old.refl _).alloc _) u8); clear o8 u8))
              go_roundw
              case rel => exact ⟨k + 1, N ++ [y], false, by omega, by go_num, rfl, by rw [← E1.out]; simp, by rw [← E2.out], ⟨by have := hNl.out; have := hNf.out; simp at *; omega, fun hD => by first | (cases hD; done) | (have := hNf.out rfl; simp; omega)⟩, O8.out, V8.out⟩
              case measure => simp [intOf]; omega
            · go_wp2_with (first | (at_builtin; refine wp_appF rfl (.tmp 49) (.tmp 54) rfl wi.heap.size _ N _ 1 y rfl rfl (OwnF.up OKd.out ((Old.refl _).alloc _)) (cell_one _ _ _ (by simp)) (by have := hNl.out; have := hSl.out; have := hmm.out; simp; omega) (by have := UKd.out.size; simp at *; omega) ?_; intro v8 w8 o8 u8; have O8 := hid o8; have V8 := hid (below_up' UKd.out ((Old.refl _).alloc _) u8); clear o8 u8))
              go_roundw
              case rel => exact ⟨k + 1, N ++ [y], true, by omega, by go_num, rfl, by rw [← E1.out]; simp, by rw [← E2.out], ⟨by have := hNl.out; have := hNf.out; simp at *; omega, fun hD => by first | (cases hD; done) | (have := hNf.out rfl; simp; omega)⟩, O8.out, V8.out⟩
              case measure => simp [intOf]; omega
        · obtain rfl : k = L.length := by omega
          rw [List.drop_length] at e1 e2
          have OK := hid hon
          have UK := hid hur
          have hNl := hid hN.1
          have cx2 := hur.keep cx
          have l3 : (0 : Int) ≤ (m : Int) := by omega
          have l4 : (m : Int) < (n : Int) := by omega
          have l5 : (m : Int) + 1 ≤ 17592186044416 := by have := hmm.out; omega
          have HOf0 := fun w => of_any (Fl.code (x m)) (Fl.code_le (x m) hWx) w
          rw [Fl.of_code (x m) hWx] at HOf0
          have HOf := hid HOf0
          have HU := hid hu
          clear HOf0 hon cx hN
          cases D
          · have hS : Fl.sortL x (m + 1) = N ++ [Fl.canon (x m)] := by
              rw [HSL.out]; unfold Fl.insL; rw [← e2, ← e1]; simp [Fl.insG]
            have HS := hid hS
            have HWn := hid (show ∀ y ∈ N ++ [Fl.canon (x m)], Fl.W y from fun y hy => by
              rcases List.mem_append.1 hy with h | h
              · have h2 : y ∈ (Fl.insG (x m) false L).1 := by rw [← e1]; simp [h]
                rcases Fl.insG_mem _ _ _ _ h2 with h3 | h3
                · rw [h3]; exact Fl.canon_lt _ hWx
                · exact HW.out y h3
              · rw [List.mem_singleton.1 h]; exact Fl.canon_lt _ hWx)
            clear e1 e2 hS HSL HW
            generalize x m = X at *
            go_wp2_with (first | (go_at_call 65; refine (refCode_any X hWx _).mono ?_; rintro e w' ⟨rfl, rfl⟩) | (go_at_call 69; refine (HOf.out _).mono ?_; rintro e w' ⟨rfl, rfl⟩) | (at_builtin; refine wp_appF rfl (.tmp 58) (.tmp 65) rfl wi.heap.size _ N _ 1 (Fl.canon X) rfl rfl (OwnF.up OK.out ((Old.refl _).alloc _)) (cell_one _ _ _ (by simp)) (by have := hNl.out; have := hSl.out; have := hmm.out; simp; omega) (by have := UK.out.size; simp at *; omega) ?_; intro v7 w7 o7 u7; have O7 := hid o7; have V7 := hid (below_up' UK.out ((Old.refl _).alloc _) u7); clear o7 u7))
            go_roundw
            case rel => exact ⟨m + 1, hlt, by go_num, by rw [HS.out]; exact OwnF.mono O7.out hu.size, Old.trans hu V7.out, by rw [HS.out]; exact HWn.out⟩
            case measure => simp [intOf]; omega
          · have hS : Fl.sortL x (m + 1) = N := by
              rw [HSL.out]; unfold Fl.insL; rw [← e2, ← e1]; simp [Fl.insG]
            have HS := hid hS
            have HWn := hid (show ∀ y ∈ N, Fl.W y from fun y hy => by
              have h2 : y ∈ (Fl.insG (x m) false L).1 := by rw [← e1]; simp [hy]
              rcases Fl.insG_mem _ _ _ _ h2 with h3 | h3
              · rw [h3]; exact Fl.canon_lt _ hWx
              · exact HW.out y h3)
            clear e1 e2 hS HSL HW
            go_wp2
            go_roundw
            case rel => exact ⟨m + 1, hlt, by go_num, by rw [HS.out]; exact OwnF.mono OK.out hu.size, Old.trans hu UK.out, by rw [HS.out]; exact HWn.out⟩
            case measure => simp [intOf]; omega
    · obtain rfl : m = n := by omega
      go_wp2
      go_ret
      exact ⟨_, rfl, ho, hu⟩
end Go.Proofs.YtbkbnfgjkefcmaaGreat
