/- met.dangerous; cert.clone; slices.Delete of the eldest one; conditions: the rows lie in memory. -/
import Derived.Test.YtgeinnaljlajoaaGreatSqa
import Derived.Test.YtgeinnaljlajoaaGreatCxO
import Derived.Maps.AppendAt
import Derived.Lib.JoinLaws
namespace Go.Proofs.YtgeinnaljlajoaaGreat
abbrev oCe70 : Oper := { dst := some 3, op := .fieldAddr 25 (.tmp 1) 3, type := 0, pos := "cert.go:119", after := #[], guard := none }
abbrev oCe71 : Oper := { dst := some 6, op := .fieldAddr 25 (.tmp 1) 4, type := 0, pos := "cert.go:119", after := #[], guard := none }
abbrev oCe72 : Oper := { dst := some 9, op := .fieldAddr 25 (.tmp 1) 5, type := 0, pos := "cert.go:119", after := #[], guard := none }
abbrev oCe73 : Oper := { dst := some 4, op := .load 22 (.tmp 3), type := 22, pos := "cert.go:119", after := #[⟨0, .data⟩], guard := none }
abbrev oCe74 : Oper := { dst := some 7, op := .load 23 (.tmp 6), type := 23, pos := "cert.go:119", after := #[⟨3, .data⟩], guard := none }
abbrev oCe75 : Oper := { dst := some 10, op := .load 22 (.tmp 9), type := 22, pos := "cert.go:119", after := #[⟨6, .data⟩], guard := none }
abbrev oCe76 : Oper := { dst := some 5, op := .call { callee := Callee.value (.func 81), args := #[.tmp 4], argTypes := #[22] }, type := 22, pos := "cert.go:119", after := #[⟨1, .data⟩], guard := none }
abbrev oCe77 : Oper := { dst := some 8, op := .call { callee := Callee.value (.func 82), args := #[.tmp 7], argTypes := #[23] }, type := 23, pos := "cert.go:119", after := #[⟨4, .data⟩, ⟨2, .chain⟩], guard := none }
abbrev oCe78 : Oper := { dst := some 12, op := .fieldAddr 25 (.tmp 1) 3, type := 0, pos := "cert.go:119", after := #[⟨0, .phase⟩, ⟨1, .phase⟩, ⟨2, .phase⟩, ⟨3, .phase⟩, ⟨4, .phase⟩, ⟨5, .textOnly Departure.lateStoresUnsure⟩, ⟨6, .phase⟩, ⟨7, .phase⟩, ⟨8, .textOnly Departure.lateStoresUnsure⟩], guard := none }
abbrev oCe79 : Oper := { dst := some 11, op := .call { callee := Callee.value (.func 81), args := #[.tmp 10], argTypes := #[22] }, type := 22, pos := "cert.go:119", after := #[⟨7, .data⟩, ⟨5, .chain⟩], guard := none }
abbrev oCe710 : Oper := { dst := none, op := .store 22 (.tmp 12) (.tmp 5), type := 0, pos := "cert.go:119", after := #[⟨9, .data⟩, ⟨2, .data⟩, ⟨8, .chain⟩, ⟨0, .phase⟩, ⟨1, .phase⟩, ⟨2, .phase⟩, ⟨3, .phase⟩, ⟨4, .phase⟩, ⟨5, .textOnly Departure.lateStoresUnsure⟩, ⟨6, .phase⟩, ⟨7, .phase⟩, ⟨8, .textOnly Departure.lateStoresUnsure⟩], guard := none }
abbrev oCe711 : Oper := { dst := some 13, op := .fieldAddr 25 (.tmp 1) 4, type := 0, pos := "cert.go:119", after := #[⟨0, .phase⟩, ⟨1, .phase⟩, ⟨2, .phase⟩, ⟨3, .phase⟩, ⟨4, .phase⟩, ⟨5, .phase⟩, ⟨6, .phase⟩, ⟨7, .phase⟩, ⟨8, .textOnly Departure.lateStoresUnsure⟩, ⟨9, .phase⟩, ⟨10, .phase⟩], guard := none }
abbrev oCe712 : Oper := { dst := none, op := .store 23 (.tmp 13) (.tmp 8), type := 0, pos := "cert.go:119", after := #[⟨11, .data⟩, ⟨5, .data⟩, ⟨10, .chain⟩, ⟨0, .phase⟩, ⟨1, .phase⟩, ⟨2, .phase⟩, ⟨3, .phase⟩, ⟨4, .phase⟩, ⟨5, .phase⟩, ⟨6, .phase⟩, ⟨7, .phase⟩, ⟨8, .textOnly Departure.lateStoresUnsure⟩, ⟨9, .phase⟩, ⟨10, .phase⟩], guard := none }
abbrev oCe713 : Oper := { dst := some 14, op := .fieldAddr 25 (.tmp 1) 5, type := 0, pos := "cert.go:119", after := #[⟨0, .phase⟩, ⟨1, .phase⟩, ⟨2, .phase⟩, ⟨3, .phase⟩, ⟨4, .phase⟩, ⟨5, .phase⟩, ⟨6, .phase⟩, ⟨7, .phase⟩, ⟨8, .phase⟩, ⟨9, .phase⟩, ⟨10, .phase⟩, ⟨11, .phase⟩, ⟨12, .phase⟩], guard := none }
abbrev oCe714 : Oper := { dst := none, op := .store 22 (.tmp 14) (.tmp 11), type := 0, pos := "cert.go:119", after := #[⟨13, .data⟩, ⟨8, .data⟩, ⟨12, .chain⟩, ⟨0, .phase⟩, ⟨1, .phase⟩, ⟨2, .phase⟩, ⟨3, .phase⟩, ⟨4, .phase⟩, ⟨5, .phase⟩, ⟨6, .phase⟩, ⟨7, .phase⟩, ⟨8, .phase⟩, ⟨9, .phase⟩, ⟨10, .phase⟩, ⟨11, .phase⟩, ⟨12, .phase⟩], guard := none }
abbrev oCe715 : Oper := { dst := some 20, op := .move (.tmp 0), type := 57, pos := "slices.go:232", after := #[], guard := none }
abbrev oCe716 : Oper := { dst := some 21, op := .move (.tmp 1), type := 3, pos := "slices.go:232", after := #[], guard := none }
abbrev oCe717 : Oper := { dst := some 22, op := .slice 57 (.tmp 20) none (some (.tmp 21)) none, type := 57, pos := "slices.go:232", after := #[⟨0, .data⟩, ⟨1, .data⟩], guard := none }
abbrev oCe718 : Oper := { dst := some 23, op := .move (.tmp 0), type := 57, pos := "slices.go:232", after := #[], guard := none }
abbrev oCe719 : Oper := { dst := some 24, op := .move (.tmp 2), type := 3, pos := "slices.go:232", after := #[], guard := none }
abbrev oCe720 : Oper := { dst := some 25, op := .slice 57 (.tmp 23) (some (.tmp 24)) none none, type := 57, pos := "slices.go:232", after := #[⟨3, .data⟩, ⟨4, .data⟩], guard := none }
abbrev oCe721 : Oper := { dst := some 26, op := .call { callee := Callee.builtin Builtin.append, args := #[.tmp 22, .tmp 25], argTypes := #[57, 57] }, type := 57, pos := "slices.go:232", after := #[⟨2, .data⟩, ⟨5, .data⟩], guard := none }
abbrev oCe722 : Oper := { dst := some 0, op := .assign (.tmp 26), type := 57, pos := "slices.go:232", after := #[⟨6, .data⟩, ⟨6, .chain⟩, ⟨0, .phase⟩, ⟨1, .phase⟩, ⟨2, .phase⟩, ⟨3, .phase⟩, ⟨4, .phase⟩, ⟨5, .phase⟩, ⟨6, .phase⟩], guard := none }
open Go.RowKit Go.Lib
set_option linter.unusedVariables false
set_option linter.unusedSimpArgs false
set_option maxRecDepth 20000
attribute [local go_sem] run_bits run_frombits run_store_float eqF
theorem step_liftC {ops : Array Oper} {o : Oper} {a : Act} {w : World} {K : Act → World → Prop} {Q : Exit → Act → World → Prop} {E : Prop} (hgd : o.guard = none)
    (h2 : wpList Tryz.prog ops (fun e a' w' => e = .normal ∧ K a' w') [o] a w) : if Region.wanted o (yielded ops a.tmps) = true then Oper.wp Tryz.prog o a w K Q else E := by
 have hw : Region.wanted o (yielded ops a.tmps) = true := by simp [Region.wanted, hgd]
 rw [if_pos hw]
 unfold wpList at h2
 rw [if_pos hw] at h2
 rcases h2 with h2 | ⟨_, a', w', h3, _⟩
 ·unfold Oper.wp at *
  generalize (execOp a.eval o).run Tryz.prog w = r at *
  cases r with
  | ok nx w' =>
   cases nx <;> simp only [Oper.upon] at h2 ⊢ <;>
    first
     | exact h2.2
     | exact h2
     | exact Calls.mono h2 (fun e w'' he => by
         cases e with
         | returned r => exact he.2
         | panicked c => exact absurd he.1 (by simp)
         | outgrown => obtain ⟨a', w', h3, _⟩ := he; exact absurd h3 (by simp))
     | exact Rows.mono h2 (fun _ _ he => he.2)
  | halt x w' => cases x <;> simp only [Oper.upon] at h2 ⊢ <;> first | exact h2 | exact absurd h2.1 (by simp)
 ·exact absurd h3 (by simp)
set_option maxHeartbeats 2000000 in
theorem dang_any (m : Met) (w : World) : Calls Tryz.prog 24 #[.agg (metV m)] w fun e w' => e = .returned (.bool (dangM m)) ∧ Old w w' := by
 obtain ⟨mw, mm, mf, ml⟩ := m
 unfold metV
 dsimp only
 have U0 := hid ((Old.refl w).alloc (.cells #[.bool mw, .bool mm, .int .i64 mf, .int .i64 ml] 64))
 cases mm
 ·by_cases h : 0 < mf
  ·have d1 : decide (0 < mf) = true := by simp [h]
   go_enter Tryz.func24, Tryz.ntmps24
   go_wp2
   go_ret
   exact ⟨by unfold dangM; simp [h], U0.out⟩
  ·have d1 : decide (0 < mf) = false := by simp; omega
   go_enter Tryz.func24, Tryz.ntmps24
   go_wp2
   go_ret
   exact ⟨by unfold dangM; simp [d1], U0.out⟩
 ·go_enter Tryz.func24, Tryz.ntmps24
  go_wp2
  go_ret
  exact ⟨by unfold dangM; simp, U0.out⟩
set_option maxHeartbeats 2000000 in
theorem cloneFs (v : Value) (n : Nat) (x : Nat → Nat) (w : World) (h : FRow w v n x) (hn : n ≤ 17592186044000) :
    Calls Tryz.prog 81 #[v] w fun e w' => ∃ v', e = .returned v' ∧ OwnF w.heap.size w' v' (lsG x n) ∧ Old w w' := by
 obtain ⟨_, p, c, rfl, hc⟩ := h
 cases p with
 | none =>
  have hz : n = 0 := Classical.byContradiction fun q => by obtain ⟨g, off, e, _⟩ := hc 0 (by omega); cases e
  subst hz
  have hq := fun w => Go.Lib.run_eql_slice_nil (P := Tryz.prog) w 22 37 none 0 c 0 0 Tryz.underlying22
  clear hc
  go_enter Tryz.func81, Tryz.ntmps81
  go_wp2
  go_ret
  exact ⟨_, rfl, World.ownsRow_nil w _ _ _, Old.refl _⟩
 | some ad =>
  have hq := fun w => Go.Lib.run_eql_slice_nil (P := Tryz.prog) w 22 37 (some ad) n c 0 0 Tryz.underlying22
  obtain ⟨i0, hi, hz0, hz1, hz2⟩ := info_parts infoFloat
  have HI := hid (And.intro hi (And.intro hz0 (And.intro hz1 hz2)))
  have HC : Hid (∀ j u, (fls (lsG x n))[j]? = some u → w.cell? (ad.add j) = some u) := hid (fun j u hj => by
   have hlt : j < n := by
    have := List.getElem?_eq_some_iff.1 hj
    obtain ⟨q, _⟩ := this
    simp [fls, lsG_len] at q; exact q
   obtain ⟨g', off', e, _, q⟩ := hc j hlt
   cases e
   rw [Go.WideShapes.add_plain, q, ← hj]
   unfold fls
   rw [List.getElem?_map, lsG_at x n j hlt]
   rfl)
  have hE : w.alloc (.cells #[] 37) |>.ownsRow w.heap.size 37 1 (.slice (some ⟨w.heap.size, 0, none⟩) 0 0) 0 [] := World.ownsRow_made w #[] 0 (Nat.le_refl _) (by unfold maxLen; omega) rfl
  have HEE := hid hE
  have HN := hid hn
  clear hi hz0 hz1 hz2 hE hc
  go_enter Tryz.func81, Tryz.ntmps81
  go_wp2_with (at_builtin; refine wpList_append_own_at _ rfl (.tmp 5) (.tmp 6) 22 rfl w.heap.size 37 i0 _ 1 8 Tryz.underlying22 HI.out.1 HI.out.2.1 HI.out.2.2.1 HI.out.2.2.2 rfl (by decide) _ 0 [] rfl HEE.out ad n c (fls (lsG x n)) rfl (by simp [fls, lsG_len]) (fun j u hj => ((Old.refl w).alloc _).keep (HC.out j u hj)) (fun u hu => by simp [fls] at hu; obtain ⟨a, _, rfl⟩ := hu; rfl) (by unfold maxLen; have := HN.out; omega) (by have := HN.out; omega) (by simp) ?_; intro v' w' h1 h2 h3 h4; have H1 := hid h1; have H2 := hid (Old.below ((Old.refl w).alloc (.cells #[] 37)) (Below.grown (Below.refl _ _) h2 (by simp) (fun k hk => by cases hk; exact Nat.le_refl _))); clear h1 h2 h3 h4)
  go_ret
  have q := H1.out
  rw [Nat.zero_add, List.nil_append] at q
  refine ⟨_, rfl, ?_, H2.out⟩
  unfold OwnF
  rw [lsG_len]
  exact q
set_option maxHeartbeats 2000000 in
theorem cloneSs (v : Value) (n : Nat) (x : Nat → Sp) (w : World) (h : SRow w v n x) (hn : n ≤ 5864062014805) :
    Calls Tryz.prog 82 #[v] w fun e w' => ∃ v', e = .returned v' ∧ OwnS w.heap.size w' v' (lsG x n) ∧ Old w w' := by
 obtain ⟨_, p, c, rfl, hc⟩ := h
 cases p with
 | none =>
  have hz : n = 0 := Classical.byContradiction fun q => by obtain ⟨g, off, e, _⟩ := hc 0 (by omega); cases e
  subst hz
  have hq := fun w => Go.Lib.run_eql_slice_nil (P := Tryz.prog) w 23 74 none 0 c 0 0 Tryz.underlying23
  clear hc
  go_enter Tryz.func82, Tryz.ntmps82
  go_wp2
  go_ret
  exact ⟨_, rfl, World.ownsRow_nil w _ _ _, Old.refl _⟩
 | some ad =>
  have hq := fun w => Go.Lib.run_eql_slice_nil (P := Tryz.prog) w 23 74 (some ad) n c 0 0 Tryz.underlying23
  obtain ⟨i0, hi, hz0, hz1, hz2⟩ := info_parts infoSpanZ
  have HI := hid (And.intro hi (And.intro hz0 (And.intro hz1 hz2)))
  have HC : Hid (∀ j u, (spcs (lsG x n))[j]? = some u → w.cell? (ad.add j) = some u) := hid (fun j u hj => by
   have hlj : j < n * 4 := by
    have := (List.getElem?_eq_some_iff.1 hj).1
    rw [spcs_len, lsG_len] at this; exact this
   obtain ⟨q, r, hr, rfl⟩ : ∃ q r, r < 4 ∧ j = q * 4 + r := ⟨j / 4, j % 4, Nat.mod_lt _ (by decide), by omega⟩
   have hlt : q < n := by omega
   obtain ⟨g', off', e, _, _, q0, q1, q2, q3⟩ := hc q hlt
   cases e
   have e2 : (spcs (lsG x n))[q * 4 + r]? = (spc (x q))[r]? := by
    have := flat_get spc 4 (fun _ => rfl) (lsG x n) q r (by rw [lsG_len]; exact hlt) hr
    have e3 : (lsG x n)[q]'(by rw [lsG_len]; exact hlt) = x q := by
     have := lsG_at x n q hlt
     rw [List.getElem?_eq_getElem (by rw [lsG_len]; exact hlt)] at this
     exact Option.some.inj this
    rw [e3] at this
    exact this
   rw [e2] at hj
   rw [Go.WideShapes.add_plain, ← Nat.add_assoc]
   match r, hr with
   | 0, _ => rw [← hj]; exact q0
   | 1, _ => rw [← hj]; exact q1
   | 2, _ => rw [← hj]; exact q2
   | 3, _ => rw [← hj]; exact q3)
  have hE : w.alloc (.cells #[] 74) |>.ownsRow w.heap.size 74 4 (.slice (some ⟨w.heap.size, 0, none⟩) 0 0) 0 [] := World.ownsRow_made w #[] 0 (Nat.le_refl _) (by unfold maxLen; omega) rfl
  have HEE := hid hE
  have HN := hid hn
  clear hi hz0 hz1 hz2 hE hc
  go_enter Tryz.func82, Tryz.ntmps82
  go_wp2_with (at_builtin; refine wpList_append_own_at _ rfl (.tmp 5) (.tmp 6) 23 rfl w.heap.size 74 i0 _ 4 24 Tryz.underlying23 HI.out.1 HI.out.2.1 HI.out.2.2.1 HI.out.2.2.2 rfl (by decide) _ 0 [] rfl HEE.out ad n c (spcs (lsG x n)) rfl (by rw [spcs_len, lsG_len]) (fun j u hj => ((Old.refl w).alloc _).keep (HC.out j u hj)) (spcs_one _) (by unfold maxLen; have := HN.out; omega) (by have := HN.out; omega) (by simp) ?_; intro v' w' h1 h2 h3 h4; have H1 := hid h1; have H2 := hid (Old.below ((Old.refl w).alloc (.cells #[] 74)) (Below.grown (Below.refl _ _) h2 (by simp) (fun k hk => by cases hk; exact Nat.le_refl _))); clear h1 h2 h3 h4)
  go_ret
  have q := H1.out
  rw [Nat.zero_add, List.nil_append] at q
  refine ⟨_, rfl, ?_, H2.out⟩
  unfold OwnS
  rw [lsG_len]
  exact q
theorem stepLdF {ops : Array Oper} {o : Oper} {a : Act} {w : World} {K : Act → World → Prop} {Q : Exit → Act → World → Prop} {E : Prop} (hg : o.guard = none) (x : Operand) (hop : o.op = Op.load 22 x) (b j : Nat) (p : Option Addr) (n c : Nat)
    (hx : a.eval x = .pointer (some ⟨b, j, none⟩)) (hc : w.cell? ⟨b, j, none⟩ = some (.slice p n c))
    (hK : K (a.put o.dst (.slice p n c)) w) :
    if Region.wanted o (yielded ops a.tmps) = true then Oper.wp Tryz.prog o a w K Q else E := by
 have hw : Region.wanted o (yielded ops a.tmps) = true := by simp [Region.wanted, hg]
 rw [if_pos hw]
 obtain ⟨d, p', t, ps, af, gd⟩ := o
 subst hop
 unfold Oper.wp execOp
 simp only [hx]
 go_simp
 exact hK
theorem stepStF {ops : Array Oper} {o : Oper} {a : Act} {w : World} {K : Act → World → Prop} {Q : Exit → Act → World → Prop} {E : Prop} (hg : o.guard = none) (x y : Operand) (hop : o.op = Op.store 22 x y) (b j : Nat) (p : Option Addr) (n c : Nat) (u : Value)
    (hx : a.eval x = .pointer (some ⟨b, j, none⟩)) (hy : a.eval y = .slice p n c) (hc : w.cell? ⟨b, j, none⟩ = some u) (hf : w.frozen? ⟨b, j, none⟩ = false)
    (hK : K (a.put o.dst undef) (w.setCell ⟨b, j, none⟩ (.slice p n c))) :
    if Region.wanted o (yielded ops a.tmps) = true then Oper.wp Tryz.prog o a w K Q else E := by
 have hw : Region.wanted o (yielded ops a.tmps) = true := by simp [Region.wanted, hg]
 rw [if_pos hw]
 obtain ⟨d, p', t, ps, af, gd⟩ := o
 subst hop
 unfold Oper.wp execOp
 simp only [hx, hy]
 go_simp
 exact hK
theorem stepLdS {ops : Array Oper} {o : Oper} {a : Act} {w : World} {K : Act → World → Prop} {Q : Exit → Act → World → Prop} {E : Prop} (hg : o.guard = none) (x : Operand) (hop : o.op = Op.load 23 x) (b j : Nat) (p : Option Addr) (n c : Nat)
    (hx : a.eval x = .pointer (some ⟨b, j, none⟩)) (hc : w.cell? ⟨b, j, none⟩ = some (.slice p n c))
    (hK : K (a.put o.dst (.slice p n c)) w) :
    if Region.wanted o (yielded ops a.tmps) = true then Oper.wp Tryz.prog o a w K Q else E := by
 have hw : Region.wanted o (yielded ops a.tmps) = true := by simp [Region.wanted, hg]
 rw [if_pos hw]
 obtain ⟨d, p', t, ps, af, gd⟩ := o
 subst hop
 unfold Oper.wp execOp
 simp only [hx]
 go_simp
 exact hK
theorem stepStS {ops : Array Oper} {o : Oper} {a : Act} {w : World} {K : Act → World → Prop} {Q : Exit → Act → World → Prop} {E : Prop} (hg : o.guard = none) (x y : Operand) (hop : o.op = Op.store 23 x y) (b j : Nat) (p : Option Addr) (n c : Nat) (u : Value)
    (hx : a.eval x = .pointer (some ⟨b, j, none⟩)) (hy : a.eval y = .slice p n c) (hc : w.cell? ⟨b, j, none⟩ = some u) (hf : w.frozen? ⟨b, j, none⟩ = false)
    (hK : K (a.put o.dst undef) (w.setCell ⟨b, j, none⟩ (.slice p n c))) :
    if Region.wanted o (yielded ops a.tmps) = true then Oper.wp Tryz.prog o a w K Q else E := by
 have hw : Region.wanted o (yielded ops a.tmps) = true := by simp [Region.wanted, hg]
 rw [if_pos hw]
 obtain ⟨d, p', t, ps, af, gd⟩ := o
 subst hop
 unfold Oper.wp execOp
 simp only [hx, hy]
 go_simp
 exact hK
theorem box6F {w : World} {b : Nat} {x y z u v r : Value} {T : TypeId} (h : w.heap[b]? = some (.cells #[x, y, z, u, v, r] T (0, 0))) : (w.cell? ⟨b, 0, none⟩ = some x ∧ w.cell? ⟨b, 1, none⟩ = some y ∧ w.cell? ⟨b, 2, none⟩ = some z ∧ w.cell? ⟨b, 3, none⟩ = some u ∧ w.cell? ⟨b, 4, none⟩ = some v ∧ w.cell? ⟨b, 5, none⟩ = some r) ∧ ∀ o, w.frozen? ⟨b, o, none⟩ = false := by
 refine ⟨⟨?_, ?_, ?_, ?_, ?_, ?_⟩, fun o => Go.Joins.unfrozen_of_block h o⟩ <;> (rw [Go.Joins.cell_of_block h]; rfl)
abbrev SubBx (b : Nat) (s1 s2 s3 : Int) (u v r : Value) (w : World) : Prop := w.heap[b]? = some (.cells #[.int .i64 s1, .int .i64 s2, .int .i64 s3, u, v, r] 25 (0, 0))
theorem SubBx.s3 {b : Nat} {s1 s2 s3 : Int} {u v r x : Value} {w : World} (h : SubBx b s1 s2 s3 u v r w) : SubBx b s1 s2 s3 x v r (w.setCell ⟨b, 3, none⟩ x) := Go.Joins.block_setCell h x (i := 3)
theorem SubBx.s4 {b : Nat} {s1 s2 s3 : Int} {u v r x : Value} {w : World} (h : SubBx b s1 s2 s3 u v r w) : SubBx b s1 s2 s3 u x r (w.setCell ⟨b, 4, none⟩ x) := Go.Joins.block_setCell h x (i := 4)
theorem SubBx.s5 {b : Nat} {s1 s2 s3 : Int} {u v r x : Value} {w : World} (h : SubBx b s1 s2 s3 u v r w) : SubBx b s1 s2 s3 u v x (w.setCell ⟨b, 5, none⟩ x) := Go.Joins.block_setCell h x (i := 5)
theorem own_base {base b' : Nat} {w : World} {t : TypeId} {k n : Nat} {xs : List Value} {v : Value} (h : w.ownsRow base t k v n xs) (hb : b' ≤ base) : w.ownsRow b' t k v n xs := by
 refine ⟨h.1, ?_⟩
 rcases h.2 with e | ⟨g, cap, cur, e, hb', r⟩
 ·exact .inl e
 ·exact .inr ⟨g, cap, cur, e, by omega, r⟩
theorem ownS_mono {base b' : Nat} {w : World} {v : Value} {L : List Sp} (h : OwnS base w v L) (hb : b' ≤ base) : OwnS b' w v L := own_base h hb
def ClPost (s : Sb) (w : World) (e : Ending) (w' : World) : Prop := ∃ q1 q2 q3 d1 d2 d3, e = .returned (.agg #[.int .i64 s.s1, .int .i64 s.s2, .int .i64 s.s3, .slice q1 s.n1 d1, .slice q2 s.n2 d2, .slice q3 s.n3 d3]) ∧ OwnF w.heap.size w' (.slice q1 s.n1 d1) (lsG s.x1 s.n1) ∧ OwnS w.heap.size w' (.slice q2 s.n2 d2) (lsG s.f2 s.n2) ∧ OwnF w.heap.size w' (.slice q3 s.n3 d3) (lsG s.x3 s.n3) ∧ Old w w'
set_option maxHeartbeats 16000000 in
theorem clone_any (s : Sb) (w : World) (hs : s.Ok w) : Calls Tryz.prog 48 #[.agg #[.int .i64 s.s1, .int .i64 s.s2, .int .i64 s.s3, .slice s.a1 s.n1 s.c1, .slice s.a2 s.n2 s.c2, .slice s.a3 s.n3 s.c3]] w fun e w' => ClPost s w e w' := by
 have HC1 := hid (fun (W : World) (u : Old w W) => cloneFs _ s.n1 s.x1 W (hs.h1.old u) hs.b1)
 have HC2 := hid (fun (W : World) (u : Old w W) => cloneSs _ s.n2 s.f2 W (hs.h2.old u) hs.b2)
 have HC3 := hid (fun (W : World) (u : Old w W) => cloneFs _ s.n3 s.x3 W (hs.h3.old u) hs.b3)
 obtain ⟨s1, s2, s3, a1, a2, a3, n1, n2, n3, c1, c2, c3, x1, x3, f2⟩ := s
 unfold ClPost
 dsimp only at HC1 HC2 HC3 ⊢
 clear hs
 have HL1 := hid (lsG_len x1 n1)
 have HL2 := hid (lsG_len f2 n2)
 have HL3 := hid (lsG_len x3 n3)
 generalize lsG x1 n1 = L1 at *
 generalize lsG f2 n2 = L2 at *
 generalize lsG x3 n3 = L3 at *
 clear x1 x3 f2
 go_enter Tryz.func48, Tryz.ntmps48
 go_upto_region 1 with fail
 have U0 := hid (((Old.refl w).alloc (.cells #[.int .i64 s1, .int .i64 s2, .int .i64 s3, .slice a1 n1 c1, .slice a2 n2 c2, .slice a3 n3 c3] 25)).alloc (.cells #[.int .i64 0, .int .i64 0, .int .i64 0, .slice none 0 0, .slice none 0 0, .slice none 0 0] 25))
 have N0 := hid (two_newK w (.cells #[.int .i64 s1, .int .i64 s2, .int .i64 s3, .slice a1 n1 c1, .slice a2 n2 c2, .slice a3 n3 c3] 25) (.cells #[.int .i64 0, .int .i64 0, .int .i64 0, .slice none 0 0, .slice none 0 0, .slice none 0 0] 25))
 generalize (w.alloc (.cells #[.int .i64 s1, .int .i64 s2, .int .i64 s3, .slice a1 n1 c1, .slice a2 n2 c2, .slice a3 n3 c3] 25)).alloc (.cells #[.int .i64 0, .int .i64 0, .int .i64 0, .slice none 0 0, .slice none 0 0, .slice none 0 0] 25) = w0 at *
 have HGE := hid (Nat.le_refl w.heap.size)
 obtain ⟨sb, hsb⟩ : ∃ sb, w.heap.size = sb := ⟨_, rfl⟩
 have HSb := hid hsb
 rw [hsb] at N0 HGE ⊢
 obtain ⟨rb, hrb⟩ : ∃ rb, sb + 1 = rb := ⟨_, rfl⟩
 have HRb := hid (show sb ≤ rb ∧ rb ≠ sb from by omega)
 rw [hrb] at N0 ⊢
 have HRb3 := hid hrb
 clear hsb hrb
 have B0 := hid (show SubBx sb s1 s2 s3 (.slice a1 n1 c1) (.slice a2 n2 c2) (.slice a3 n3 c3) w0 from N0.out.1)
 have R0 := hid (show SubBx rb 0 0 0 (.slice none 0 0) (.slice none 0 0) (.slice none 0 0) w0 from N0.out.2)
 have UU := hid (fun (W : World) (u : Old w0 W) => U0.out.trans u)
 have HSz := hid (show sb + 2 ≤ w0.heap.size from by have := heap_lt N0.out.2; have := HRb3.out; omega)
 have HRb2 := hid HRb3.out
 clear N0 U0
 focus
  refine wp_region_noPanic ?_
  refine wp_region_held_drew (S := fun _ => True) (by kernel_rfl) ?_ (fun hHeld => ?_)
  ·exact trivial
  try simp only [Act.put, puA, puB, puC]
  clear hHeld
  all_goals
   refine atA [false, false, false, false, false, false, false, false, false, false, false, false, false, false, false] ?_
   refine tkA (i := 0) (oi := oCe70) trivial ?_
   try simp only [Act.put, puA, puB, puC]
   refine tkA (i := 3) (oi := oCe71) trivial ?_
   try simp only [Act.put, puA, puB, puC]
   refine tkA (i := 6) (oi := oCe72) trivial ?_
   try simp only [Act.put, puA, puB, puC]
   refine rdA [1, 4, 7] ?_
   refine AllReadyH.cons (o := oCe73) rfl (fun K hK => ?_) (AllReadyH.cons (o := oCe74) rfl (fun K hK => ?_) (AllReadyH.cons (o := oCe75) rfl (fun K hK => ?_) AllReadyH.nil))
   obtain ⟨⟨z0, z1, z2, z3, z4, z5⟩, -⟩ := box6F B0.out
   refine stepLdF ?_ (.tmp 3) ?_ sb 3 a1 n1 c1 ?_ z3 ?_
   iterate 3 rfl
   clear z0 z1 z2 z3 z4 z5
   refine hK.out _ _ trivial (fun _ => ?_)
   clear hK K
   try simp only [Act.put, puA, puB, puC]
   rotate_left
   obtain ⟨⟨z0, z1, z2, z3, z4, z5⟩, -⟩ := box6F B0.out
   refine stepLdS ?_ (.tmp 6) ?_ sb 4 a2 n2 c2 ?_ z4 ?_
   iterate 3 rfl
   clear z0 z1 z2 z3 z4 z5
   refine hK.out _ _ trivial (fun _ => ?_)
   clear hK K
   try simp only [Act.put, puA, puB, puC]
   rotate_left
   obtain ⟨⟨z0, z1, z2, z3, z4, z5⟩, -⟩ := box6F B0.out
   refine stepLdF ?_ (.tmp 9) ?_ sb 5 a3 n3 c3 ?_ z5 ?_
   iterate 3 rfl
   clear z0 z1 z2 z3 z4 z5
   refine hK.out _ _ trivial (fun _ => ?_)
   clear hK K
   try simp only [Act.put, puA, puB, puC]
   rotate_left
  all_goals first
   |refine atA [true, true, false, true, false, false, true, false, false, false, false, false, false, false, false] ?_
    refine rdA [2, 4, 7] ?_
    refine AllReadyH.cons (o := oCe76) rfl (fun K hK => ?_) (AllReadyH.cons (o := oCe74) rfl (fun K hK => ?_) (AllReadyH.cons (o := oCe75) rfl (fun K hK => ?_) AllReadyH.nil))
    refine wantCall1 ?_ 81 (.tmp 4) #[22] ?_ (.slice a1 n1 c1) ?_ ?_ ((enters_of Tryz.func81 (by kernel_rfl) rfl) _ _) ?_
    iterate 4 rfl
    refine (HC1.out _ (UU.out _ ((Old.refl w0).drew))).mono ?_
    rintro o x100n ⟨v100n, rfl, r100n, b100n⟩
    refine ⟨_, rfl, ?_⟩
    obtain ⟨q1, d1, e100n⟩ := r100n.len
    rw [HL1.out] at e100n
    subst e100n
    have U100n := ((Old.refl w0).drew).trans b100n
    have B100n := hid (b100n.block B0.out)
    have R100n := hid (b100n.block R0.out)
    have W1_100n := hid (r100n.mono (show sb + 2 ≤ _ from Nat.le_trans HSz.out ((Old.refl w0).drew).size))
    refine hK.out _ _ trivial (fun _ => ?_)
    clear hK K
    try simp only [Act.put, puA, puB, puC]
    have BB_100 := B100n
    have RR_100 := R100n
    have UU_100 := U100n
    have Wown1_100 := W1_100n
    obtain ⟨xw_100, rfl⟩ : ∃ z, z = x100n := ⟨_, rfl⟩
    rotate_left
    obtain ⟨⟨z0, z1, z2, z3, z4, z5⟩, -⟩ := box6F B0.out
    refine stepLdS ?_ (.tmp 6) ?_ sb 4 a2 n2 c2 ?_ z4 ?_
    iterate 3 rfl
    clear z0 z1 z2 z3 z4 z5
    refine hK.out _ _ trivial (fun _ => ?_)
    clear hK K
    try simp only [Act.put, puA, puB, puC]
    rotate_left
    obtain ⟨⟨z0, z1, z2, z3, z4, z5⟩, -⟩ := box6F B0.out
    refine stepLdF ?_ (.tmp 9) ?_ sb 5 a3 n3 c3 ?_ z5 ?_
    iterate 3 rfl
    clear z0 z1 z2 z3 z4 z5
    refine hK.out _ _ trivial (fun _ => ?_)
    clear hK K
    try simp only [Act.put, puA, puB, puC]
    rotate_left
   |refine atA [true, false, false, true, true, false, true, false, false, false, false, false, false, false, false] ?_
    refine rdA [1, 7] ?_
    refine AllReadyH.cons (o := oCe73) rfl (fun K hK => ?_) (AllReadyH.cons (o := oCe75) rfl (fun K hK => ?_) AllReadyH.nil)
    obtain ⟨⟨z0, z1, z2, z3, z4, z5⟩, -⟩ := box6F B0.out
    refine stepLdF ?_ (.tmp 3) ?_ sb 3 a1 n1 c1 ?_ z3 ?_
    iterate 3 rfl
    clear z0 z1 z2 z3 z4 z5
    refine hK.out _ _ trivial (fun _ => ?_)
    clear hK K
    try simp only [Act.put, puA, puB, puC]
    rotate_left
    obtain ⟨⟨z0, z1, z2, z3, z4, z5⟩, -⟩ := box6F B0.out
    refine stepLdF ?_ (.tmp 9) ?_ sb 5 a3 n3 c3 ?_ z5 ?_
    iterate 3 rfl
    clear z0 z1 z2 z3 z4 z5
    refine hK.out _ _ trivial (fun _ => ?_)
    clear hK K
    try simp only [Act.put, puA, puB, puC]
    rotate_left
   |refine atA [true, false, false, true, false, false, true, true, false, false, false, false, false, false, false] ?_
    refine rdA [1, 4] ?_
    refine AllReadyH.cons (o := oCe73) rfl (fun K hK => ?_) (AllReadyH.cons (o := oCe74) rfl (fun K hK => ?_) AllReadyH.nil)
    obtain ⟨⟨z0, z1, z2, z3, z4, z5⟩, -⟩ := box6F B0.out
    refine stepLdF ?_ (.tmp 3) ?_ sb 3 a1 n1 c1 ?_ z3 ?_
    iterate 3 rfl
    clear z0 z1 z2 z3 z4 z5
    refine hK.out _ _ trivial (fun _ => ?_)
    clear hK K
    try simp only [Act.put, puA, puB, puC]
    rotate_left
    obtain ⟨⟨z0, z1, z2, z3, z4, z5⟩, -⟩ := box6F B0.out
    refine stepLdS ?_ (.tmp 6) ?_ sb 4 a2 n2 c2 ?_ z4 ?_
    iterate 3 rfl
    clear z0 z1 z2 z3 z4 z5
    refine hK.out _ _ trivial (fun _ => ?_)
    clear hK K
    try simp only [Act.put, puA, puB, puC]
    rotate_left
  all_goals first
   |refine atA [true, true, true, true, false, false, true, false, false, false, false, false, false, false, false] ?_
    refine rdA [4, 7] ?_
    refine AllReadyH.cons (o := oCe74) rfl (fun K hK => ?_) (AllReadyH.cons (o := oCe75) rfl (fun K hK => ?_) AllReadyH.nil)
    obtain ⟨⟨z0, z1, z2, z3, z4, z5⟩, -⟩ := box6F BB_100.out
    refine stepLdS ?_ (.tmp 6) ?_ sb 4 a2 n2 c2 ?_ z4 ?_
    iterate 3 rfl
    clear z0 z1 z2 z3 z4 z5
    refine hK.out _ _ trivial (fun _ => ?_)
    clear hK K
    try simp only [Act.put, puA, puB, puC]
    rotate_left
    obtain ⟨⟨z0, z1, z2, z3, z4, z5⟩, -⟩ := box6F BB_100.out
    refine stepLdF ?_ (.tmp 9) ?_ sb 5 a3 n3 c3 ?_ z5 ?_
    iterate 3 rfl
    clear z0 z1 z2 z3 z4 z5
    refine hK.out _ _ trivial (fun _ => ?_)
    clear hK K
    try simp only [Act.put, puA, puB, puC]
    rotate_left
   |refine atA [true, true, false, true, true, false, true, false, false, false, false, false, false, false, false] ?_
    refine rdA [2, 7] ?_
    refine AllReadyH.cons (o := oCe76) rfl (fun K hK => ?_) (AllReadyH.cons (o := oCe75) rfl (fun K hK => ?_) AllReadyH.nil)
    refine wantCall1 ?_ 81 (.tmp 4) #[22] ?_ (.slice a1 n1 c1) ?_ ?_ ((enters_of Tryz.func81 (by kernel_rfl) rfl) _ _) ?_
    iterate 4 rfl
    refine (HC1.out _ (UU.out _ ((Old.refl w0).drew))).mono ?_
    rintro o x100n ⟨v100n, rfl, r100n, b100n⟩
    refine ⟨_, rfl, ?_⟩
    obtain ⟨q1, d1, e100n⟩ := r100n.len
    rw [HL1.out] at e100n
    subst e100n
    have U100n := ((Old.refl w0).drew).trans b100n
    have B100n := hid (b100n.block B0.out)
    have R100n := hid (b100n.block R0.out)
    have W1_100n := hid (r100n.mono (show sb + 2 ≤ _ from Nat.le_trans HSz.out ((Old.refl w0).drew).size))
    refine hK.out _ _ trivial (fun _ => ?_)
    clear hK K
    try simp only [Act.put, puA, puB, puC]
    have BB_100 := B100n
    have RR_100 := R100n
    have UU_100 := U100n
    have Wown1_100 := W1_100n
    obtain ⟨xw_100, rfl⟩ : ∃ z, z = x100n := ⟨_, rfl⟩
    rotate_left
    obtain ⟨⟨z0, z1, z2, z3, z4, z5⟩, -⟩ := box6F B0.out
    refine stepLdF ?_ (.tmp 9) ?_ sb 5 a3 n3 c3 ?_ z5 ?_
    iterate 3 rfl
    clear z0 z1 z2 z3 z4 z5
    refine hK.out _ _ trivial (fun _ => ?_)
    clear hK K
    try simp only [Act.put, puA, puB, puC]
    rotate_left
   |refine atA [true, true, false, true, false, false, true, true, false, false, false, false, false, false, false] ?_
    refine rdA [2, 4] ?_
    refine AllReadyH.cons (o := oCe76) rfl (fun K hK => ?_) (AllReadyH.cons (o := oCe74) rfl (fun K hK => ?_) AllReadyH.nil)
    refine wantCall1 ?_ 81 (.tmp 4) #[22] ?_ (.slice a1 n1 c1) ?_ ?_ ((enters_of Tryz.func81 (by kernel_rfl) rfl) _ _) ?_
    iterate 4 rfl
    refine (HC1.out _ (UU.out _ ((Old.refl w0).drew))).mono ?_
    rintro o x100n ⟨v100n, rfl, r100n, b100n⟩
    refine ⟨_, rfl, ?_⟩
    obtain ⟨q1, d1, e100n⟩ := r100n.len
    rw [HL1.out] at e100n
    subst e100n
    have U100n := ((Old.refl w0).drew).trans b100n
    have B100n := hid (b100n.block B0.out)
    have R100n := hid (b100n.block R0.out)
    have W1_100n := hid (r100n.mono (show sb + 2 ≤ _ from Nat.le_trans HSz.out ((Old.refl w0).drew).size))
    refine hK.out _ _ trivial (fun _ => ?_)
    clear hK K
    try simp only [Act.put, puA, puB, puC]
    have BB_100 := B100n
    have RR_100 := R100n
    have UU_100 := U100n
    have Wown1_100 := W1_100n
    obtain ⟨xw_100, rfl⟩ : ∃ z, z = x100n := ⟨_, rfl⟩
    rotate_left
    obtain ⟨⟨z0, z1, z2, z3, z4, z5⟩, -⟩ := box6F B0.out
    refine stepLdS ?_ (.tmp 6) ?_ sb 4 a2 n2 c2 ?_ z4 ?_
    iterate 3 rfl
    clear z0 z1 z2 z3 z4 z5
    refine hK.out _ _ trivial (fun _ => ?_)
    clear hK K
    try simp only [Act.put, puA, puB, puC]
    rotate_left
   |refine atA [true, false, false, true, true, false, true, true, false, false, false, false, false, false, false] ?_
    refine rdA [1] ?_
    refine AllReadyH.cons (o := oCe73) rfl (fun K hK => ?_) AllReadyH.nil
    obtain ⟨⟨z0, z1, z2, z3, z4, z5⟩, -⟩ := box6F B0.out
    refine stepLdF ?_ (.tmp 3) ?_ sb 3 a1 n1 c1 ?_ z3 ?_
    iterate 3 rfl
    clear z0 z1 z2 z3 z4 z5
    refine hK.out _ _ trivial (fun _ => ?_)
    clear hK K
    try simp only [Act.put, puA, puB, puC]
  all_goals first
   |refine atA [true, true, true, true, true, false, true, false, false, false, false, false, false, false, false] ?_
    refine rdA [5, 7] ?_
    refine AllReadyH.cons (o := oCe77) rfl (fun K hK => ?_) (AllReadyH.cons (o := oCe75) rfl (fun K hK => ?_) AllReadyH.nil)
    refine wantCall1 ?_ 82 (.tmp 7) #[23] ?_ (.slice a2 n2 c2) ?_ ?_ ((enters_of Tryz.func82 (by kernel_rfl) rfl) _ _) ?_
    iterate 4 rfl
    refine (HC2.out _ (UU.out _ UU_100)).mono ?_
    rintro o x100n ⟨v100n, rfl, r100n, b100n⟩
    refine ⟨_, rfl, ?_⟩
    obtain ⟨q2, d2, e100n⟩ := r100n.len
    rw [HL2.out] at e100n
    subst e100n
    have U100n := UU_100.trans b100n
    have B100n := hid (b100n.block BB_100.out)
    have R100n := hid (b100n.block RR_100.out)
    have W1_100n := hid (Wown1_100.out.up b100n)
    have W2_100n := hid (ownS_mono r100n (show sb + 2 ≤ _ from Nat.le_trans HSz.out UU_100.size))
    refine hK.out _ _ trivial (fun _ => ?_)
    clear hK K
    try simp only [Act.put, puA, puB, puC]
    have BB_100 := B100n
    have RR_100 := R100n
    have UU_100 := U100n
    have Wown1_100 := W1_100n
    have Wown2_100 := W2_100n
    obtain ⟨xw_100, rfl⟩ : ∃ z, z = x100n := ⟨_, rfl⟩
    rotate_left
    obtain ⟨⟨z0, z1, z2, z3, z4, z5⟩, -⟩ := box6F BB_100.out
    refine stepLdF ?_ (.tmp 9) ?_ sb 5 a3 n3 c3 ?_ z5 ?_
    iterate 3 rfl
    clear z0 z1 z2 z3 z4 z5
    refine hK.out _ _ trivial (fun _ => ?_)
    clear hK K
    try simp only [Act.put, puA, puB, puC]
    rotate_left
   |refine atA [true, true, true, true, false, false, true, true, false, false, false, false, false, false, false] ?_
    refine rdA [4] ?_
    refine AllReadyH.cons (o := oCe74) rfl (fun K hK => ?_) AllReadyH.nil
    obtain ⟨⟨z0, z1, z2, z3, z4, z5⟩, -⟩ := box6F BB_100.out
    refine stepLdS ?_ (.tmp 6) ?_ sb 4 a2 n2 c2 ?_ z4 ?_
    iterate 3 rfl
    clear z0 z1 z2 z3 z4 z5
    refine hK.out _ _ trivial (fun _ => ?_)
    clear hK K
    try simp only [Act.put, puA, puB, puC]
   |refine atA [true, true, false, true, true, false, true, true, false, false, false, false, false, false, false] ?_
    refine rdA [2] ?_
    refine AllReadyH.cons (o := oCe76) rfl (fun K hK => ?_) AllReadyH.nil
    refine wantCall1 ?_ 81 (.tmp 4) #[22] ?_ (.slice a1 n1 c1) ?_ ?_ ((enters_of Tryz.func81 (by kernel_rfl) rfl) _ _) ?_
    iterate 4 rfl
    refine (HC1.out _ (UU.out _ ((Old.refl w0).drew))).mono ?_
    rintro o x100n ⟨v100n, rfl, r100n, b100n⟩
    refine ⟨_, rfl, ?_⟩
    obtain ⟨q1, d1, e100n⟩ := r100n.len
    rw [HL1.out] at e100n
    subst e100n
    have U100n := ((Old.refl w0).drew).trans b100n
    have B100n := hid (b100n.block B0.out)
    have R100n := hid (b100n.block R0.out)
    have W1_100n := hid (r100n.mono (show sb + 2 ≤ _ from Nat.le_trans HSz.out ((Old.refl w0).drew).size))
    refine hK.out _ _ trivial (fun _ => ?_)
    clear hK K
    try simp only [Act.put, puA, puB, puC]
    have BB_100 := B100n
    have RR_100 := R100n
    have UU_100 := U100n
    have Wown1_100 := W1_100n
    obtain ⟨xw_100, rfl⟩ : ∃ z, z = x100n := ⟨_, rfl⟩
  all_goals first
   |refine atA [true, true, true, true, true, true, true, false, false, false, false, false, false, false, false] ?_
    refine rdA [7] ?_
    refine AllReadyH.cons (o := oCe75) rfl (fun K hK => ?_) AllReadyH.nil
    obtain ⟨⟨z0, z1, z2, z3, z4, z5⟩, -⟩ := box6F BB_100.out
    refine stepLdF ?_ (.tmp 9) ?_ sb 5 a3 n3 c3 ?_ z5 ?_
    iterate 3 rfl
    clear z0 z1 z2 z3 z4 z5
    refine hK.out _ _ trivial (fun _ => ?_)
    clear hK K
    try simp only [Act.put, puA, puB, puC]
   |refine atA [true, true, true, true, true, false, true, true, false, false, false, false, false, false, false] ?_
    refine tkA (i := 9) (oi := oCe78) trivial ?_
    try simp only [Act.put, puA, puB, puC]
    refine rdA [5] ?_
    refine AllReadyH.cons (o := oCe77) rfl (fun K hK => ?_) AllReadyH.nil
    refine wantCall1 ?_ 82 (.tmp 7) #[23] ?_ (.slice a2 n2 c2) ?_ ?_ ((enters_of Tryz.func82 (by kernel_rfl) rfl) _ _) ?_
    iterate 4 rfl
    refine (HC2.out _ (UU.out _ UU_100)).mono ?_
    rintro o x100n ⟨v100n, rfl, r100n, b100n⟩
    refine ⟨_, rfl, ?_⟩
    obtain ⟨q2, d2, e100n⟩ := r100n.len
    rw [HL2.out] at e100n
    subst e100n
    have U100n := UU_100.trans b100n
    have B100n := hid (b100n.block BB_100.out)
    have R100n := hid (b100n.block RR_100.out)
    have W1_100n := hid (Wown1_100.out.up b100n)
    have W2_100n := hid (ownS_mono r100n (show sb + 2 ≤ _ from Nat.le_trans HSz.out UU_100.size))
    refine hK.out _ _ trivial (fun _ => ?_)
    clear hK K
    try simp only [Act.put, puA, puB, puC]
    have BB_100 := B100n
    have RR_100 := R100n
    have UU_100 := U100n
    have Wown1_100 := W1_100n
    have Wown2_100 := W2_100n
    obtain ⟨xw_100, rfl⟩ : ∃ z, z = x100n := ⟨_, rfl⟩
  all_goals first
   |refine atA [true, true, true, true, true, true, true, true, false, false, false, false, false, false, false] ?_
    refine tkA (i := 9) (oi := oCe78) trivial ?_
    try simp only [Act.put, puA, puB, puC]
    refine rdA [8] ?_
    refine AllReadyH.cons (o := oCe79) rfl (fun K hK => ?_) AllReadyH.nil
    refine wantCall1 ?_ 81 (.tmp 10) #[22] ?_ (.slice a3 n3 c3) ?_ ?_ ((enters_of Tryz.func81 (by kernel_rfl) rfl) _ _) ?_
    iterate 4 rfl
    refine (HC3.out _ (UU.out _ UU_100)).mono ?_
    rintro o x100n ⟨v100n, rfl, r100n, b100n⟩
    refine ⟨_, rfl, ?_⟩
    obtain ⟨q3, d3, e100n⟩ := r100n.len
    rw [HL3.out] at e100n
    subst e100n
    have U100n := UU_100.trans b100n
    have B100n := hid (b100n.block BB_100.out)
    have R100n := hid (b100n.block RR_100.out)
    have W1_100n := hid (Wown1_100.out.up b100n)
    have W2_100n := hid (Wown2_100.out.old b100n)
    have W3_100n := hid (r100n.mono (show sb + 2 ≤ _ from Nat.le_trans HSz.out UU_100.size))
    refine hK.out _ _ trivial (fun _ => ?_)
    clear hK K
    try simp only [Act.put, puA, puB, puC]
    have BB_100 := B100n
    have RR_100 := R100n
    have UU_100 := U100n
    have Wown1_100 := W1_100n
    have Wown2_100 := W2_100n
    have Wown3_100 := W3_100n
    obtain ⟨xw_100, rfl⟩ : ∃ z, z = x100n := ⟨_, rfl⟩
   |refine atA [true, true, true, true, true, true, true, true, false, true, false, false, false, false, false] ?_
    refine rdA [8] ?_
    refine AllReadyH.cons (o := oCe79) rfl (fun K hK => ?_) AllReadyH.nil
    refine wantCall1 ?_ 81 (.tmp 10) #[22] ?_ (.slice a3 n3 c3) ?_ ?_ ((enters_of Tryz.func81 (by kernel_rfl) rfl) _ _) ?_
    iterate 4 rfl
    refine (HC3.out _ (UU.out _ UU_100)).mono ?_
    rintro o x100n ⟨v100n, rfl, r100n, b100n⟩
    refine ⟨_, rfl, ?_⟩
    obtain ⟨q3, d3, e100n⟩ := r100n.len
    rw [HL3.out] at e100n
    subst e100n
    have U100n := UU_100.trans b100n
    have B100n := hid (b100n.block BB_100.out)
    have R100n := hid (b100n.block RR_100.out)
    have W1_100n := hid (Wown1_100.out.up b100n)
    have W2_100n := hid (Wown2_100.out.old b100n)
    have W3_100n := hid (r100n.mono (show sb + 2 ≤ _ from Nat.le_trans HSz.out UU_100.size))
    refine hK.out _ _ trivial (fun _ => ?_)
    clear hK K
    try simp only [Act.put, puA, puB, puC]
    have BB_100 := B100n
    have RR_100 := R100n
    have UU_100 := U100n
    have Wown1_100 := W1_100n
    have Wown2_100 := W2_100n
    have Wown3_100 := W3_100n
    obtain ⟨xw_100, rfl⟩ : ∃ z, z = x100n := ⟨_, rfl⟩
  all_goals
   refine atA [true, true, true, true, true, true, true, true, true, true, false, false, false, false, false] ?_
   refine rdA [10] ?_
   refine AllReadyH.cons (o := oCe710) rfl (fun K hK => ?_) AllReadyH.nil
   obtain ⟨⟨z0, z1, z2, z3, z4, z5⟩, zf⟩ := box6F BB_100.out
   refine stepStF ?_ (.tmp 12) (.tmp 5) ?_ sb 3 q1 n1 d1 _ ?_ ?_ z3 (zf 3) ?_
   iterate 4 rfl
   clear z0 z1 z2 z3 z4 z5 zf
   have B100n := hid (SubBx.s3 (x := .slice q1 n1 d1) BB_100.out)
   have R100n := hid ((Below.heap_setCell _ ⟨sb, 3, none⟩ (.slice q1 n1 d1) rb HRb.out.2).trans RR_100.out)
   have P100n := hid (UU.out _ UU_100)
   refine hK.out _ _ trivial (fun _ => ?_)
   clear hK K
   try simp only [Act.put, puA, puB, puC]
   have BB_100 := B100n
   have PP_100 := P100n
   have RR_100 := R100n
  all_goals
   refine atA [true, true, true, true, true, true, true, true, true, true, true, false, false, false, false] ?_
   refine tkA (i := 11) (oi := oCe711) trivial ?_
   try simp only [Act.put, puA, puB, puC]
   refine rdA [12] ?_
   refine AllReadyH.cons (o := oCe712) rfl (fun K hK => ?_) AllReadyH.nil
   obtain ⟨⟨z0, z1, z2, z3, z4, z5⟩, zf⟩ := box6F BB_100.out
   refine stepStS ?_ (.tmp 13) (.tmp 8) ?_ sb 4 q2 n2 d2 _ ?_ ?_ z4 (zf 4) ?_
   iterate 4 rfl
   clear z0 z1 z2 z3 z4 z5 zf
   have B100n := hid (SubBx.s4 (x := .slice q2 n2 d2) BB_100.out)
   have R100n := hid ((Below.heap_setCell _ ⟨sb, 4, none⟩ (.slice q2 n2 d2) rb HRb.out.2).trans RR_100.out)
   refine hK.out _ _ trivial (fun _ => ?_)
   clear hK K
   try simp only [Act.put, puA, puB, puC]
   have BB_100 := B100n
   have RR_100 := R100n
  all_goals
   refine atA [true, true, true, true, true, true, true, true, true, true, true, true, true, false, false] ?_
   refine tkA (i := 13) (oi := oCe713) trivial ?_
   try simp only [Act.put, puA, puB, puC]
   refine rdA [14] ?_
   refine AllReadyH.cons (o := oCe714) rfl (fun K hK => ?_) AllReadyH.nil
   obtain ⟨⟨z0, z1, z2, z3, z4, z5⟩, zf⟩ := box6F BB_100.out
   refine stepStF ?_ (.tmp 14) (.tmp 11) ?_ sb 5 q3 n3 d3 _ ?_ ?_ z5 (zf 5) ?_
   iterate 4 rfl
   clear z0 z1 z2 z3 z4 z5 zf
   have B100n := hid (SubBx.s5 (x := .slice q3 n3 d3) BB_100.out)
   have R100n := hid ((Below.heap_setCell _ ⟨sb, 5, none⟩ (.slice q3 n3 d3) rb HRb.out.2).trans RR_100.out)
   refine hK.out _ _ trivial (fun _ => ?_)
   clear hK K
   try simp only [Act.put, puA, puB, puC]
   have BB_100 := B100n
   have RR_100 := R100n
  all_goals
   refine atA [true, true, true, true, true, true, true, true, true, true, true, true, true, true, true] ?_
   refine wpAnyH_done (by kernel_rfl) ?_ _
   refine NoPanic.normal ?_
   have BB := BB_100
   have RR := RR_100
   have CC := hid ((((Chg.refl [sb] xw_100).trans (Chg.set (S := [sb]) _ ⟨sb, 3, none⟩ (.slice q1 n1 d1) (by simp))).trans (Chg.set (S := [sb]) _ ⟨sb, 4, none⟩ (.slice q2 n2 d2) (by simp))).trans (Chg.set (S := [sb]) _ ⟨sb, 5, none⟩ (.slice q3 n3 d3) (by simp)))
   have PP := PP_100
   have WW1 := Wown1_100
   have WW2 := Wown2_100
   have WW3 := Wown3_100
   generalize (((xw_100.setCell ⟨sb, 3, none⟩ (.slice q1 n1 d1)).setCell ⟨sb, 4, none⟩ (.slice q2 n2 d2)).setCell ⟨sb, 5, none⟩ (.slice q3 n3 d3)) = w9 at *
   have U9 := hid (PP.out.below (CC.out.below w.heap.size (fun k q => by simp at q; have := HSb.out; omega) PP.out.size))
   skip
   obtain ⟨⟨z0, z1, z2, z3, z4, z5⟩, zf⟩ := box6F BB.out
   obtain ⟨⟨y0, y1, y2, y3, y4, y5⟩, yf⟩ := box6F RR.out
   have g0 := yf 0
   have g1 := yf 1
   have g2 := yf 2
   have g3 := yf 3
   have g4 := yf 4
   have g5 := yf 5
   clear zf yf
   have HNo := hid (show ∀ v g, (∃ t k n xs, xw_100.ownsRow (sb + 2) t k v n xs) → v.ownBlock = some g → g ∉ [sb] from fun v g ⟨t, k, n, xs, h⟩ e q => by have := (World.ownsRow.lt h g e).1; simp at q; omega)
   have X1 := hid (own_chg WW1.out CC.out (fun g e => HNo.out _ g ⟨_, _, _, _, WW1.out⟩ e))
   have X2 := hid (own_chg WW2.out CC.out (fun g e => HNo.out _ g ⟨_, _, _, _, WW2.out⟩ e))
   have X3 := hid (own_chg WW3.out CC.out (fun g e => HNo.out _ g ⟨_, _, _, _, WW3.out⟩ e))
   go_wp2
   have RF := hid (Go.Joins.block_setCell (Go.Joins.block_setCell (Go.Joins.block_setCell (Go.Joins.block_setCell (Go.Joins.block_setCell (Go.Joins.block_setCell RR.out (.int .i64 s1) (i := 0)) (.int .i64 s2) (i := 1)) (.int .i64 s3) (i := 2)) (.slice q1 n1 d1) (i := 3)) (.slice q2 n2 d2) (i := 4)) (.slice q3 n3 d3) (i := 5))
   have CF := hid (((((((Chg.refl [rb] w9).trans (Chg.set (S := [rb]) _ ⟨rb, 0, none⟩ (.int .i64 s1) (by simp))).trans (Chg.set (S := [rb]) _ ⟨rb, 1, none⟩ (.int .i64 s2) (by simp))).trans (Chg.set (S := [rb]) _ ⟨rb, 2, none⟩ (.int .i64 s3) (by simp))).trans (Chg.set (S := [rb]) _ ⟨rb, 3, none⟩ (.slice q1 n1 d1) (by simp))).trans (Chg.set (S := [rb]) _ ⟨rb, 4, none⟩ (.slice q2 n2 d2) (by simp))).trans (Chg.set (S := [rb]) _ ⟨rb, 5, none⟩ (.slice q3 n3 d3) (by simp)))
   have UF := hid (U9.out.below (CF.out.below w.heap.size (fun k q => by simp at q; have := HRb.out; have := HSb.out; omega) U9.out.size))
   have HNo2 := hid (show ∀ v g, (∃ t k n xs, w9.ownsRow (sb + 2) t k v n xs) → v.ownBlock = some g → g ∉ [rb] from fun v g ⟨t, k, n, xs, h⟩ e q => by have := (World.ownsRow.lt h g e).1; simp at q; have := HRb2.out; omega)
   obtain ⟨⟨k0, k1, k2, k3, k4, k5⟩, -⟩ := box6F RF.out
   refine bodyPost_ret (v := .agg #[.int .i64 s1, .int .i64 s2, .int .i64 s3, .slice q1 n1 d1, .slice q2 n2 d2, .slice q3 n3 d3]) (by simp [results, Tryz.results48, go_sem, k0, k1, k2, k3, k4, k5]) rfl ?_
   refine ⟨q1, q2, q3, d1, d2, d3, rfl, ?_, ?_, ?_, UF.out⟩
   ·exact own_base (own_chg X1.out CF.out (fun g e => HNo2.out _ g ⟨_, _, _, _, X1.out⟩ e)) (by have := HSb.out; omega)
   ·exact own_base (own_chg X2.out CF.out (fun g e => HNo2.out _ g ⟨_, _, _, _, X2.out⟩ e)) (by have := HSb.out; omega)
   ·exact own_base (own_chg X3.out CF.out (fun g e => HNo2.out _ g ⟨_, _, _, _, X3.out⟩ e)) (by have := HSb.out; omega)
theorem infoKn : (Tryz.prog.info? 93).map (fun i => (i.zero, i.size, i.bytes)) = some (some (.agg #[.int .i64 0, .int .i64 0, .int .i64 0, .int .i64 0, .slice none 0 0, .slice none 0 0, .slice none 0 0, .bool false]), 8, 112) := by kernel_rfl
theorem run_clearK (w : World) (ty : TypeId) (g o c : Nat) (cur : Array Value) (hg : w.heap[g]? = some (.cells cur 93 (0, 0))) (hf : o + 8 ≤ cur.size) :
    (Builtin.clear_ #[57] ty #[.slice (some ⟨g, o, none⟩) 1 c]).run Tryz.prog w = .ok (.tuple #[]) (w.setCells g o [.int .i64 0, .int .i64 0, .int .i64 0, .int .i64 0, .slice none 0 0, .slice none 0 0, .slice none 0 0, .bool false]) := by
 obtain ⟨i0, hi, hz0, hz1, hz2⟩ := info_parts infoKn
 have h1 : ∀ u ∈ ([.int .i64 0, .int .i64 0, .int .i64 0, .int .i64 0, .slice none 0 0, .slice none 0 0, .slice none 0 0, .bool false] : List Value), u.oneCell' = true := by
  intro u hu
  simp only [List.mem_cons, List.not_mem_nil, or_false] at hu
  rcases hu with rfl | rfl | rfl | rfl | rfl | rfl | rfl | rfl <;> rfl
 have hst := run_storeCells_cells (P := Tryz.prog) g o [.int .i64 0, .int .i64 0, .int .i64 0, .int .i64 0, .slice none 0 0, .slice none 0 0, .slice none 0 0, .bool false] 0 w (fun j hj => by rw [Vx.cell_of_heap hg, Array.getElem?_eq_getElem (by simp at hj; omega)]; rfl) (fun j hj => Vx.frozen_of_heap hg _) h1
 simp only [Nat.add_zero] at hst
 have hz : (Builtin.zeroCells #[.int .i64 0, .int .i64 0, .int .i64 0, .int .i64 0, .slice none 0 0, .slice none 0 0, .slice none 0 0, .bool false] 1).toList = [.int .i64 0, .int .i64 0, .int .i64 0, .int .i64 0, .slice none 0 0, .slice none 0 0, .slice none 0 0, .bool false] := by kernel_rfl
 simp [Builtin.clear_, run_underlying Tryz.underlying57, zeroValue, typeInfo, hi, hz0, Value.cells, hz, hst]
theorem del_row {base g cap m : Nat} {cur : Array Value} {k : Kg} {L : List Kg} {w : World} (hg : w.heap[g]? = some (.cells cur 93 (0, 0))) (hb : base ≤ g) (hm : L.length = m) (hc : m + 1 ≤ cap) (hx : cap ≤ maxLen) (hcs : cur.size = cap * 8) :
    (∃ c1, (w.setCells g 0 (kgcs L)).heap[g]? = some (.cells c1 93 (0, 0)) ∧ c1.size = cap * 8) ∧ ((w.setCells g 0 (kgcs L)).setCells g (m * 8) [.int .i64 0, .int .i64 0, .int .i64 0, .int .i64 0, .slice none 0 0, .slice none 0 0, .slice none 0 0, .bool false]).ownsRow base 93 8 (.slice (some ⟨g, 0, none⟩) m cap) m (kgcs L) := by
 have hl := kgcs_len L
 rw [hm] at hl
 have hmc : (m + 1) * 8 ≤ cap * 8 := Nat.mul_le_mul_right _ hc
 have e1 := Vx.setCells_row hg (show 0 + (kgcs L).length ≤ cur.size by rw [hl, hcs]; omega) (kgcs_one L)
 have g1 := setRow_heap w g cur (cur.toList.take 0 ++ kgcs L ++ cur.toList.drop (0 + (kgcs L).length)).toArray 93 (0, 0) hg
 rw [← e1] at g1
 have s1 : (cur.toList.take 0 ++ kgcs L ++ cur.toList.drop (0 + (kgcs L).length)).toArray.size = cap * 8 := by
  simp [hl, hcs]; omega
 have t1 : (cur.toList.take 0 ++ kgcs L ++ cur.toList.drop (0 + (kgcs L).length)).take (m * 8) = kgcs L := by
  rw [List.take_zero, List.nil_append, ← hl, List.take_left']
  rfl
 refine ⟨⟨_, g1, s1⟩, ?_⟩
 generalize (cur.toList.take 0 ++ kgcs L ++ cur.toList.drop (0 + (kgcs L).length)) = c1 at *
 have h1 : ∀ u ∈ ([.int .i64 0, .int .i64 0, .int .i64 0, .int .i64 0, .slice none 0 0, .slice none 0 0, .slice none 0 0, .bool false] : List Value), u.oneCell' = true := by
  intro u hu
  simp only [List.mem_cons, List.not_mem_nil, or_false] at hu
  rcases hu with rfl | rfl | rfl | rfl | rfl | rfl | rfl | rfl <;> rfl
 have e2 := Vx.setCells_row g1 (show m * 8 + ([.int .i64 0, .int .i64 0, .int .i64 0, .int .i64 0, .slice none 0 0, .slice none 0 0, .slice none 0 0, .bool false] : List Value).length ≤ c1.toArray.size by rw [s1]; simp; omega) h1
 have g2 := setRow_heap _ g c1.toArray (c1.toArray.toList.take (m * 8) ++ ([.int .i64 0, .int .i64 0, .int .i64 0, .int .i64 0, .slice none 0 0, .slice none 0 0, .slice none 0 0, .bool false] : List Value) ++ c1.toArray.toList.drop (m * 8 + ([.int .i64 0, .int .i64 0, .int .i64 0, .int .i64 0, .slice none 0 0, .slice none 0 0, .slice none 0 0, .bool false] : List Value).length)).toArray 93 (0, 0) g1
 rw [← e2] at g2
 have sz : c1.length = cap * 8 := by simpa using s1
 refine ⟨hl, .inr ⟨g, cap, _, rfl, hb, g2, by omega, hx, ?_, ?_⟩⟩
 ·simp [sz]; omega
 ·simp only [List.append_assoc]
  rw [List.take_append_of_le_length (by simp [sz]; omega)]
  simp only [List.take_take]
  simpa using t1
set_option maxHeartbeats 8000000 in
theorem del_any (base g cap m : Nat) (k : Kg) (L : List Kg) (w : World) (h : w.ownsRow base 93 8 (.slice (some ⟨g, 0, none⟩) (m + 1) cap) (m + 1) (kgcs (k :: L))) (hm : L.length = m) (h0 : 0 < m) (hs : m ≤ 32) :
    Calls Tryz.prog 51 #[.slice (some ⟨g, 0, none⟩) (m + 1) cap, .int .i64 0, .int .i64 1] w fun e w' => e = .returned (.slice (some ⟨g, 0, none⟩) m cap) ∧ w'.ownsRow base 93 8 (.slice (some ⟨g, 0, none⟩) m cap) m (kgcs L) ∧ Chg [g] w w' := by
 rcases h.2 with ⟨e, _⟩ | ⟨g', cap', cur, e, hb, hg, hnc, hcm, hcs, htk⟩
 ·cases e
 simp only [Value.slice.injEq, Option.some.injEq, Addr.mk.injEq, and_true, true_and] at e
 obtain ⟨rfl, rfl⟩ := e
 have hl := kgcs_len L
 rw [hm] at hl
 have hmc : (m + 1) * 8 ≤ cap * 8 := Nat.mul_le_mul_right _ hnc
 have hgd : w.drew.heap[g]? = some (.cells cur 93 (0, 0)) := hg
 obtain ⟨⟨c1, hg1, hs1⟩, hR⟩ := del_row (k := k) hgd hb hm hnc hcm hcs
 have HR := hid hR
 have HX := hid (show Chg [g] w ((w.drew.setCells g 0 (kgcs L)).setCells g (m * 8) [.int .i64 0, .int .i64 0, .int .i64 0, .int .i64 0, .slice none 0 0, .slice none 0 0, .slice none 0 0, .bool false]) from ((Chg.refl [g] w).drew.trans (Chg.setK w.drew g _ _ [g] (by simp))).trans (Chg.setK _ g _ _ [g] (by simp)))
 have HCL := hid (fun (ty : TypeId) (c : Nat) => run_clearK (w.drew.setCells g 0 (kgcs L)) ty g (m * 8) c c1 hg1 (by omega))
 obtain ⟨i0, hi, hz0, hz1, hz2⟩ := info_parts infoKn
 have hsrc : Src Tryz.prog i0.size 57 (.slice (some ⟨g, 8, none⟩) m (cap - 1)) m (kgcs L) w.drew := by
  rw [hz1]
  refine Src.ofSlice w.drew Tryz.underlying57 ⟨g, 8, none⟩ m (cap - 1) (kgcs L) hl (fun j u hj => ?_) (kgcs_one L)
  rw [Addr.add_lit]
  show w.cell? ⟨g, 8 + j, none⟩ = some u
  have hjl : j < m * 8 := by rw [← hl]; exact (List.getElem?_eq_some_iff.1 hj).1
  have e2 : (kgcs (k :: L))[8 + j]? = some u := by
   rw [← hj]
   show (kgc k ++ kgcs L)[8 + j]? = _
   rw [List.getElem?_append_right (by show 8 ≤ _; omega)]
   show (kgcs L)[8 + j - 8]? = _
   congr 1; omega
  rw [Vx.cell_of_heap hg, ← Array.getElem?_toList, ← List.getElem?_take_of_lt (show 8 + j < (m + 1) * 8 by omega), htk]
  exact e2
 have HS := hid hsrc
 have HI := hid hi
 have HZ := hid hz1
 have hsp : ∀ j, j < (kgcs L).length → (w.drew.cell? ⟨g, 0 + 0 * i0.size + j, none⟩).isSome = true := fun j hj => by
  show (w.cell? ⟨g, 0 + 0 * i0.size + j, none⟩).isSome = true
  rw [Vx.cell_of_heap hg, Array.getElem?_eq_getElem (by rw [hl] at hj; rw [hcs]; omega)]; rfl
 have hfz : ∀ j, j < (kgcs L).length → w.drew.frozen? ⟨g, 0 + 0 * i0.size + j, none⟩ = false := fun j _ => (show w.frozen? ⟨g, 0 + 0 * i0.size + j, none⟩ = false from Vx.frozen_of_heap hg _)
 have HSF := hid (And.intro hsp hfz)
 have hmm : (m : Int) ≤ 32 := by omega
 have l0 : (1 : Int) ≤ (m : Int) + 1 := by omega
 have hc1 : ¬ (cap = 1) := by omega
 have hca : ¬ (cap = m) := by omega
 have hcmx : cap ≤ 9223372036854775807 := by unfold maxLen at hcm; omega
 clear hsrc hi hz0 hz1 hz2 hsp hfz hR h hg hgd htk hg1 hs1 hl hcs
 go_enter Tryz.func51, Tryz.ntmps51
 go_upto_region 5 with fail
 focus
  refine wp_region_noPanic ?_
  refine wp_region_held_drew (S := fun _ => True) (by kernel_rfl) ?_ (fun hHeld => ?_)
  ·exact trivial
  try simp only [Act.put, puA, puB, puC]
  clear hHeld
  all_goals
   refine atA [false, false, false, false, false, false, false, false] ?_
   refine tkA (i := 0) (oi := oCe715) trivial ?_
   try simp only [Act.put, puA, puB, puC]
   refine tkA (i := 1) (oi := oCe716) trivial ?_
   try simp only [Act.put, puA, puB, puC]
   refine tkA (i := 2) (oi := oCe717) trivial ?_
   try simp only [Act.put, puA, puB, puC]
   refine tkA (i := 3) (oi := oCe718) trivial ?_
   try simp only [Act.put, puA, puB, puC]
   refine tkA (i := 4) (oi := oCe719) trivial ?_
   try simp only [Act.put, puA, puB, puC]
   refine tkA (i := 5) (oi := oCe720) trivial ?_
   try simp only [Act.put, puA, puB, puC]
   refine rdA [6] ?_
   refine AllReadyH.cons (o := oCe721) rfl (fun K hK => ?_) AllReadyH.nil
   refine step_liftC rfl ?_
   refine wpList_append_room_src _ rfl (.tmp 22) (.tmp 25) 57 57 rfl 93 i0 Tryz.underlying57 HI.out g 0 0 cap rfl _ rfl m (kgcs L) HS.out (by omega) HSF.out.1 HSF.out.2 ?_
   refine ⟨rfl, ?_⟩
   refine hK.out _ _ trivial (fun _ => ?_)
   clear hK K
   try simp only [Act.put, puA, puB, puC]
  all_goals
   refine atA [true, true, true, true, true, true, true, false] ?_
   refine rdA [7] ?_
   refine AllReadyH.cons (o := oCe722) rfl (fun K hK => ?_) AllReadyH.nil
   go_simp
   refine hK.out _ _ trivial (fun _ => ?_)
   clear hK K
   try simp only [Act.put, puA, puB, puC]
  all_goals
   refine atA [true, true, true, true, true, true, true, true] ?_
   refine wpAnyH_done (by kernel_rfl) ?_ _
   refine NoPanic.normal ?_
   have hcl := HCL.out
   go_wp2
   exact bodyPost_ret (v := .slice (some ⟨g, 0, none⟩) m cap) (by simp [results, Tryz.results51, go_sem]) rfl ⟨rfl, HR.out, HX.out⟩
end Go.Proofs.YtgeinnaljlajoaaGreat
namespace Go.Proofs.YtgeinnaljlajoaaGreat
open Go.RowKit Go.Lib
set_option linter.unusedVariables false
set_option linter.unusedSimpArgs false
set_option maxRecDepth 20000
attribute [local go_sem] run_bits run_frombits run_store_float eqF
theorem FRow.chg {S : List Nat} {w w' : World} {v : Value} {n : Nat} {x : Nat → Nat} (h : FRow w v n x) (c : Chg S w w') (hf : 0 < n → ∀ g, v.ownBlock = some g → g ∉ S) : FRow w' v n x := by
 obtain ⟨hm, a, cc, rfl, hc⟩ := h
 refine ⟨hm, a, cc, rfl, fun i hi => ?_⟩
 obtain ⟨b, off, rfl, hW, q⟩ := hc i hi
 exact ⟨b, off, rfl, hW, c.cell q (hf (by omega) b rfl)⟩
theorem SRow.chg {S : List Nat} {w w' : World} {v : Value} {n : Nat} {x : Nat → Sp} (h : SRow w v n x) (c : Chg S w w') (hf : 0 < n → ∀ g, v.ownBlock = some g → g ∉ S) : SRow w' v n x := by
 obtain ⟨hm, a, cc, rfl, hc⟩ := h
 refine ⟨hm, a, cc, rfl, fun i hi => ?_⟩
 obtain ⟨b, off, rfl, h1, h2, q0, q1, q2, q3⟩ := hc i hi
 have n := hf (by omega) b rfl
 exact ⟨b, off, rfl, h1, h2, c.cell q0 n, c.cell q1 n, c.cell q2 n, c.cell q3 n⟩
def Sb.Far (s : Sb) (S : List Nat) : Prop := (0 < s.n1 → ∀ g, (Value.slice s.a1 s.n1 s.c1).ownBlock = some g → g ∉ S) ∧ (0 < s.n2 → ∀ g, (Value.slice s.a2 s.n2 s.c2).ownBlock = some g → g ∉ S) ∧ (0 < s.n3 → ∀ g, (Value.slice s.a3 s.n3 s.c3).ownBlock = some g → g ∉ S)
theorem Sb.Ok.chg {S : List Nat} {s : Sb} {w w' : World} (h : s.Ok w) (c : Chg S w w') (f : s.Far S) : s.Ok w' := ⟨h.h1.chg c f.1, h.h2.chg c f.2.1, h.h3.chg c f.2.2, h.b1, h.b2, h.b3⟩
def PAVx (base b : Nat) (most : Int) (tv : Value) (r : Bool × List Vx.It) (w : World) (e : Ending) (w' : World) : Prop := ∃ v', e = .returned (.bool r.1) ∧ Vx.TabAt base w' b most v' r.2 ∧ Chg (Vx.blks b tv) w w' ∧ ∀ g, v'.ownBlock = some g → tv.ownBlock = some g ∨ w.heap.size ≤ g
set_option maxHeartbeats 4000000 in
theorem putAllF (v : Value) (n : Nat) (x : Nat → Nat) (num : Int) (base b : Nat) (most : Int) (tv : Value) (L : List Vx.It) (w : World) (hv : ∀ W, Chg (Vx.blks b tv) w W → FRow W v n x) (h : Vx.TabAt base w b most tv L) (hG : Vx.Good L) (hL : (L.length : Int) ≤ most) (hm : most ≤ 64) :
    Calls Tryz.prog 89 #[v, .int .i64 num, .func (.func 90) #[.pointer (some ⟨b, 0, none⟩)] #[]] w fun e w' => PAVx base b most tv (putV num most (lsG x n) L) w e w' := by
 have HV := hid hv
 have HF := hid ((hv w (Chg.refl _ _)).ws)
 obtain ⟨hmx, a, c, rfl, -⟩ := hv w (Chg.refl _ _)
 have HC := hid (fun (W : World) (u : Chg (Vx.blks b tv) w W) => (HV.out W u).2)
 have HT := hid h
 have HG := hid hG
 have HL := hid hL
 have HM := hid hm
 clear hv h hG hL hm HV
 unfold PAVx
 go_enter Tryz.func89, Tryz.ntmps89
 go_wp2
 go_loopw [11] (fun i wx => ∃ (k : Nat) (tv' : Value) (L' : List Vx.It), k ≤ n ∧ i = .int .i64 (k : Nat) ∧ Hid (Vx.TabAt base wx b most tv' L' ∧ Chg (Vx.blks b tv) w wx ∧ (∀ g, tv'.ownBlock = some g → tv.ownBlock = some g ∨ w.heap.size ≤ g) ∧ Vx.Good L' ∧ (L'.length : Int) ≤ most ∧ putV num most ((lsG x n).drop k) L' = putV num most (lsG x n) L)) (fun i _ => n - (intOf i).toNat)
 case atStart => exact ⟨0, tv, L, Nat.zero_le _, rfl, hid ⟨HT.out, Chg.refl _ _, fun g e => .inl e, HG.out, HL.out, rfl⟩⟩
 case round =>
  obtain ⟨k, tv', L', hk, rfl, HI⟩ := hrel
  by_cases hlt : k < n
  ·obtain ⟨a', c', ev, hc⟩ := HC.out wr HI.out.2.1
   simp only [Value.slice.injEq, true_and] at ev
   obtain ⟨rfl, rfl⟩ := ev
   obtain ⟨b2, off, rfl, hW, x0⟩ := hc k hlt
   have HD := hid (lsG_drop x n k hlt)
   have HP := hid (fun (W : World) (u : Old wr W) => Vx.put_any base b most num tv' L' (x k) (HF.out k hlt) W (HI.out.1.old u) HI.out.2.2.2.1 (by have := HI.out.2.2.2.2.1; have := HM.out; omega))
   have HG2 := hid (Vx.put_good (n := num) (most := most) (HF.out k hlt) HI.out.2.2.2.1)
   have HM2 := hid (Vx.put_most (key := x k) (n := num) (most := most) HI.out.2.2.2.1 HI.out.2.2.2.2.1)
   have HE := hid HI.out.2.2.2.2.2
   rw [HD.out] at HE
   have HU := hid (show putV num most (x k :: (lsG x n).drop (k + 1)) L' = if (Vx.putR (x k) num most L').1 = 0 then putV num most ((lsG x n).drop (k + 1)) (Vx.putR (x k) num most L').2 else (false, (Vx.putR (x k) num most L').2) from rfl)
   have l1 : (0 : Int) ≤ (k : Int) := by omega
   have l2 : (k : Int) < (n : Int) := by omega
   unfold Vx.PutPost at HP
   generalize x k = X at *
   generalize Vx.putR X num most L' = pr at *
   obtain ⟨code, L2⟩ := pr
   dsimp only at HP HG2 HM2 HU
   have HN := hid (fun (W : World) (v2 : Value) (U0 : World) (u : Old wr U0) (c2 : Chg (Vx.blks b tv') U0 W) (hn : ∀ g, v2.ownBlock = some g → tv'.ownBlock = some g ∨ U0.heap.size ≤ g) => (show Chg (Vx.blks b tv) w W ∧ ∀ g, v2.ownBlock = some g → tv.ownBlock = some g ∨ w.heap.size ≤ g from ⟨chg_after (HI.out.2.1.trans (Chg.ofOld u)) c2 (fun i hi => by
    rcases Vx.mem_blks.1 hi with rfl | q
    ·exact .inl (Vx.mem_blks.2 (.inl rfl))
    ·rcases HI.out.2.2.1 i q with z | z
     ·exact .inl (Vx.mem_blks.2 (.inr z))
     ·exact .inr z), fun g e => by
    rcases hn g e with q | q
    ·exact HI.out.2.2.1 g q
    ·exact .inr (Nat.le_trans HI.out.2.1.size (Nat.le_trans u.size q))⟩))
   clear hc HC
   have OK := hid (Old.refl wr)
   by_cases h0 : code = 0
   ·subst h0
    have HU2 := hid (HU.out.trans (if_pos rfl))
    clear HU
    go_wp2_with (go_at_call 90; refine (HP.out _ OK.out).mono ?_; rintro e w5 ⟨v5, rfl, t5, c5, n5⟩; have T5 := hid t5; have C5 := hid (HN.out _ v5 _ OK.out c5 n5); clear t5 c5 n5)
    go_roundw
    case rel => exact ⟨k + 1, v5, L2, hlt, by go_num, hid ⟨T5.out, C5.out.1, C5.out.2, HG2.out, HM2.out, by rw [← HU2.out]; exact HE.out⟩⟩
    case measure => simp [intOf]; omega
   ·have hne : (code != 0) = true := by simp [h0]
    have HU2 := hid (HU.out.trans (if_neg h0))
    clear HU
    go_wp2_with (go_at_call 90; refine (HP.out _ OK.out).mono ?_; rintro e w5 ⟨v5, rfl, t5, c5, n5⟩; have T5 := hid t5; have C5 := hid (HN.out _ v5 _ OK.out c5 n5); clear t5 c5 n5)
    go_ret
    exact ⟨v5, by rw [← HE.out, HU2.out]; rfl, by rw [← HE.out, HU2.out]; exact T5.out, C5.out.1, C5.out.2⟩
  ·obtain rfl : k = n := by omega
   have HE := hid HI.out.2.2.2.2.2
   have HZ := hid (show (lsG x k).drop k = [] from by rw [List.drop_eq_nil_iff, lsG_len]; exact Nat.le_refl _)
   rw [HZ.out] at HE
   clear HC
   go_wp2
   go_ret
   exact ⟨tv', by rw [← HE.out]; rfl, by rw [← HE.out]; exact HI.out.1, HI.out.2.1, HI.out.2.2.1⟩
def PAPy (base b : Nat) (most : Int) (tv : Value) (r : Bool × List Py.It) (w : World) (e : Ending) (w' : World) : Prop := ∃ v', e = .returned (.bool r.1) ∧ Py.TabAt base w' b most v' r.2 ∧ Chg (Py.blks b tv) w w' ∧ ∀ g, v'.ownBlock = some g → tv.ownBlock = some g ∨ w.heap.size ≤ g
set_option maxHeartbeats 4000000 in
theorem putAllS (v : Value) (n : Nat) (x : Nat → Sp) (num : Int) (base b : Nat) (most : Int) (tv : Value) (L : List Py.It) (w : World) (hv : ∀ W, Chg (Py.blks b tv) w W → SRow W v n x) (h : Py.TabAt base w b most tv L) (hG : Py.Good L) (hL : (L.length : Int) ≤ most) (hm : most ≤ 64) :
    Calls Tryz.prog 91 #[v, .int .i64 num, .func (.func 92) #[.pointer (some ⟨b, 0, none⟩)] #[]] w fun e w' => PAPy base b most tv (putP num most (lsG x n) L) w e w' := by
 have HV := hid hv
 have HF := hid ((hv w (Chg.refl _ _)).ws)
 obtain ⟨hmx, a, c, rfl, -⟩ := hv w (Chg.refl _ _)
 have HC := hid (fun (W : World) (u : Chg (Py.blks b tv) w W) => (HV.out W u).2)
 have HT := hid h
 have HG := hid hG
 have HL := hid hL
 have HM := hid hm
 clear hv h hG hL hm HV
 unfold PAPy
 go_enter Tryz.func91, Tryz.ntmps91
 go_wp2
 go_loopw [11] (fun i wx => ∃ (k : Nat) (tv' : Value) (L' : List Py.It), k ≤ n ∧ i = .int .i64 (k : Nat) ∧ Hid (Py.TabAt base wx b most tv' L' ∧ Chg (Py.blks b tv) w wx ∧ (∀ g, tv'.ownBlock = some g → tv.ownBlock = some g ∨ w.heap.size ≤ g) ∧ Py.Good L' ∧ (L'.length : Int) ≤ most ∧ putP num most ((lsG x n).drop k) L' = putP num most (lsG x n) L)) (fun i _ => n - (intOf i).toNat)
 case atStart => exact ⟨0, tv, L, Nat.zero_le _, rfl, hid ⟨HT.out, Chg.refl _ _, fun g e => .inl e, HG.out, HL.out, rfl⟩⟩
 case round =>
  obtain ⟨k, tv', L', hk, rfl, HI⟩ := hrel
  by_cases hlt : k < n
  ·obtain ⟨a', c', ev, hc⟩ := HC.out wr HI.out.2.1
   simp only [Value.slice.injEq, true_and] at ev
   obtain ⟨rfl, rfl⟩ := ev
   obtain ⟨b2, off, rfl, hW1, hW2, x0, x1, x2, x3⟩ := hc k hlt
   have HD := hid (lsG_drop x n k hlt)
   have HP := hid (fun (W : World) (u : Old wr W) => Py.put_any base b most num tv' L' (x k).a (x k).b (x k).p (x k).q (HF.out k hlt).1 (HF.out k hlt).2 W (HI.out.1.old u) HI.out.2.2.2.1 (by have := HI.out.2.2.2.2.1; have := HM.out; omega))
   have HG2 := hid (Py.put_good (p := (x k).p) (q := (x k).q) (n := num) (most := most) (HF.out k hlt).1 (HF.out k hlt).2 HI.out.2.2.2.1)
   have HM2 := hid (Py.put_most (x := (x k).a) (y := (x k).b) (p := (x k).p) (q := (x k).q) (n := num) (most := most) HI.out.2.2.2.1 HI.out.2.2.2.2.1)
   have HE := hid HI.out.2.2.2.2.2
   rw [HD.out] at HE
   have HU := hid (show putP num most (x k :: (lsG x n).drop (k + 1)) L' = if (Py.putR (x k).a (x k).b (x k).p (x k).q num most L').1 = 0 then putP num most ((lsG x n).drop (k + 1)) (Py.putR (x k).a (x k).b (x k).p (x k).q num most L').2 else (false, (Py.putR (x k).a (x k).b (x k).p (x k).q num most L').2) from rfl)
   have l1 : (0 : Int) ≤ (k : Int) := by omega
   have l2 : (k : Int) < (n : Int) := by omega
   unfold Py.PutPost at HP
   generalize x k = X at *
   obtain ⟨xa, xb, xp, xq⟩ := X
   dsimp only at x0 x1 x2 x3 HP HG2 HM2 HU
   generalize Py.putR xa xb xp xq num most L' = pr at *
   obtain ⟨code, L2⟩ := pr
   dsimp only at HP HG2 HM2 HU
   have HN := hid (fun (W : World) (v2 : Value) (U0 : World) (u : Old wr U0) (c2 : Chg (Py.blks b tv') U0 W) (hn : ∀ g, v2.ownBlock = some g → tv'.ownBlock = some g ∨ U0.heap.size ≤ g) => (show Chg (Py.blks b tv) w W ∧ ∀ g, v2.ownBlock = some g → tv.ownBlock = some g ∨ w.heap.size ≤ g from ⟨chg_after (HI.out.2.1.trans (Chg.ofOld u)) c2 (fun i hi => by
    rcases Py.mem_blks.1 hi with rfl | q
    ·exact .inl (Py.mem_blks.2 (.inl rfl))
    ·rcases HI.out.2.2.1 i q with z | z
     ·exact .inl (Py.mem_blks.2 (.inr z))
     ·exact .inr z), fun g e => by
    rcases hn g e with q | q
    ·exact HI.out.2.2.1 g q
    ·exact .inr (Nat.le_trans HI.out.2.1.size (Nat.le_trans u.size q))⟩))
   clear hc HC
   have OK := hid ((Old.refl wr).alloc (.cells #[.float .f64 xa, .float .f64 xb, .bool xp, .bool xq] 74))
   by_cases h0 : code = 0
   ·subst h0
    have HU2 := hid (HU.out.trans (if_pos rfl))
    clear HU
    go_wp2_with (go_at_call 92; refine (HP.out _ OK.out).mono ?_; rintro e w5 ⟨v5, rfl, t5, c5, n5⟩; have T5 := hid t5; have C5 := hid (HN.out _ v5 _ OK.out c5 n5); clear t5 c5 n5)
    go_roundw
    case rel => exact ⟨k + 1, v5, L2, hlt, by go_num, hid ⟨T5.out, C5.out.1, C5.out.2, HG2.out, HM2.out, by rw [← HU2.out]; exact HE.out⟩⟩
    case measure => simp [intOf]; omega
   ·have hne : (code != 0) = true := by simp [h0]
    have HU2 := hid (HU.out.trans (if_neg h0))
    clear HU
    go_wp2_with (go_at_call 92; refine (HP.out _ OK.out).mono ?_; rintro e w5 ⟨v5, rfl, t5, c5, n5⟩; have T5 := hid t5; have C5 := hid (HN.out _ v5 _ OK.out c5 n5); clear t5 c5 n5)
    go_ret
    exact ⟨v5, by rw [← HE.out, HU2.out]; rfl, by rw [← HE.out, HU2.out]; exact T5.out, C5.out.1, C5.out.2⟩
  ·obtain rfl : k = n := by omega
   have HE := hid HI.out.2.2.2.2.2
   have HZ := hid (show (lsG x k).drop k = [] from by rw [List.drop_eq_nil_iff, lsG_len]; exact Nat.le_refl _)
   rw [HZ.out] at HE
   clear HC
   go_wp2
   go_ret
   exact ⟨tv', by rw [← HE.out]; rfl, by rw [← HE.out]; exact HI.out.1, HI.out.2.1, HI.out.2.2.1⟩
def SuPost (base : Nat) (P : Tp) (V : Tv) (most : Int) (r : Bool × Tb) (w : World) (e : Ending) (w' : World) : Prop := ∃ V', e = .returned (.bool r.1) ∧ TabsAt base P V' most r.2 w' ∧ TMov P w V w' V'
theorem sumW_any (v : Value) (n : Nat) (x : Nat → Nat) (k : Kp) (base : Nat) (P : Tp) (V : Tv) (most : Int) (t : Tb) (w : World) (e : lsG x n = k.u.W) (hv : ∀ W, Chg (tbl P V) w W → FRow W v n x) (h : TabsAt base P V most t w) (ok : TbOk most t) (hm : most ≤ 64) :
    Calls Tryz.prog 89 #[v, .int .i64 k.n, .func (.func 90) #[.pointer (some ⟨P.t1, 0, none⟩)] #[]] w fun e w' => SuPost base P V most (sumW most k t) w e w' := by
 refine (putAllF v n x k.n base P.t1 most V.u1 t.lw w (fun W u => hv W (u.mono (fun g q _ => mem_tbl.2 (.inl q)))) h.a1 ok.gw ok.qw hm).mono ?_
 rintro o w' ⟨v', rfl, a, c, hn⟩
 rw [e] at a ⊢
 obtain ⟨q1, q2⟩ := h.put1 a c hn
 exact ⟨_, rfl, q1, q2⟩
theorem sumR_any (v : Value) (n : Nat) (x : Nat → Nat) (k : Kp) (base : Nat) (P : Tp) (V : Tv) (most : Int) (t : Tb) (w : World) (e : lsG x n = k.u.R) (hv : ∀ W, Chg (tbl P V) w W → FRow W v n x) (h : TabsAt base P V most t w) (ok : TbOk most t) (hm : most ≤ 64) :
    Calls Tryz.prog 89 #[v, .int .i64 k.n, .func (.func 90) #[.pointer (some ⟨P.t3, 0, none⟩)] #[]] w fun e w' => SuPost base P V most (sumR most k t) w e w' := by
 refine (putAllF v n x k.n base P.t3 most V.u3 t.lr w (fun W u => hv W (u.mono (fun g q _ => mem_tbl.2 (.inr (.inr (.inl q)))))) h.a3 ok.gr ok.qr hm).mono ?_
 rintro o w' ⟨v', rfl, a, c, hn⟩
 rw [e] at a ⊢
 obtain ⟨q1, q2⟩ := h.put3 a c hn
 exact ⟨_, rfl, q1, q2⟩
theorem sumP_any (v : Value) (n : Nat) (x : Nat → Sp) (k : Kp) (base : Nat) (P : Tp) (V : Tv) (most : Int) (t : Tb) (w : World) (e : lsG x n = k.u.P) (hv : ∀ W, Chg (tbl P V) w W → SRow W v n x) (h : TabsAt base P V most t w) (ok : TbOk most t) (hm : most ≤ 64) :
    Calls Tryz.prog 91 #[v, .int .i64 k.n, .func (.func 92) #[.pointer (some ⟨P.t4, 0, none⟩)] #[]] w fun e w' => SuPost base P V most (sumP most k t) w e w' := by
 refine (putAllS v n x k.n base P.t4 most V.u4 t.ls w (fun W u => hv W (u.mono (fun g q _ => mem_tbl.2 (.inr (.inr (.inr q)))))) h.a4 ok.gs ok.qs hm).mono ?_
 rintro o w' ⟨v', rfl, a, c, hn⟩
 rw [e] at a ⊢
 obtain ⟨q1, q2⟩ := h.put4 a c hn
 exact ⟨_, rfl, q1, q2⟩
theorem sumM_any (v : Value) (n : Nat) (x : Nat → Nat) (k : Kp) (base : Nat) (P : Tp) (V : Tv) (most : Int) (t : Tb) (w : World) (e : lsG x n = k.u.W) (hv : ∀ W, Chg (tbl P V) w W → FRow W v n x) (h : TabsAt base P V most t w) (ok : TbOk most t) (hm : most ≤ 64) :
    Calls Tryz.prog 89 #[v, .int .i64 k.n, .func (.func 90) #[.pointer (some ⟨P.t2, 0, none⟩)] #[]] w fun e w' => SuPost base P V most (sumM most k t) w e w' := by
 refine (putAllF v n x k.n base P.t2 most V.u2 t.lm w (fun W u => hv W (u.mono (fun g q _ => mem_tbl.2 (.inr (.inl q))))) h.a2 ok.gm ok.qm hm).mono ?_
 rintro o w' ⟨v', rfl, a, c, hn⟩
 rw [e] at a ⊢
 obtain ⟨q1, q2⟩ := h.put2 a c hn
 exact ⟨_, rfl, q1, q2⟩
theorem SmK.old2 {m t1 t2 t3 t4 : Nat} {w w' : World} {S : List Nat} (h : w.cell? ⟨m, 0, none⟩ = some (pV t1) ∧ w.cell? ⟨m, 1, none⟩ = some (pV t2) ∧ w.cell? ⟨m, 2, none⟩ = some (pV t3) ∧ w.cell? ⟨m, 3, none⟩ = some (pV t4)) (u : Chg S w w') (n : m ∉ S) : w'.cell? ⟨m, 0, none⟩ = some (pV t1) ∧ w'.cell? ⟨m, 1, none⟩ = some (pV t2) ∧ w'.cell? ⟨m, 2, none⟩ = some (pV t3) ∧ w'.cell? ⟨m, 3, none⟩ = some (pV t4) := ⟨u.cell h.1 n, u.cell h.2.1 n, u.cell h.2.2.1 n, u.cell h.2.2.2 n⟩
set_option maxHeartbeats 16000000 in
theorem sput_any (k : Kg) (base : Nat) (P : Tp) (V : Tv) (most : Int) (t : Tb) (w : World) (hk : ∀ W, Chg (tbl P V) w W → k.sb.Ok W) (h : TabsAt base P V most t w) (ok : TbOk most t) (hm : most ≤ 64) :
    Calls Tryz.prog 52 #[.agg #[pV P.t1, pV P.t2, pV P.t3, pV P.t4], .agg #[.int .i64 k.p.n, .int .i64 k.p.u.s1, .int .i64 k.p.u.s2, .int .i64 k.p.u.s3, k.v1, k.v2, k.v3, .bool k.p.o]] w fun e w' => SuPost base P V most (sumT most k.p t) w e w' := by
 have HF := hid (show k.p.u.F from by rw [← Kg.sb_pl]; exact Sb.plF (hk w (Chg.refl _ _)))
 have HW := hid (fun (W : World) (V' : Tv) (t' : Tb) (m : TMov P w V W V') (a : TabsAt base P V' most t' W) (o : TbOk most t') => sumW_any k.v3 k.p.u.W.length (fun i => k.p.u.W.getD i 0) k.p base P V' most t' W (lsG_getD _ _) (fun W' c => (hk W' (chg_after m.1 c m.2)).h3) a o hm)
 have HR := hid (fun (W : World) (V' : Tv) (t' : Tb) (m : TMov P w V W V') (a : TabsAt base P V' most t' W) (o : TbOk most t') => sumR_any k.v1 k.p.u.R.length (fun i => k.p.u.R.getD i 0) k.p base P V' most t' W (lsG_getD _ _) (fun W' c => (hk W' (chg_after m.1 c m.2)).h1) a o hm)
 have HP := hid (fun (W : World) (V' : Tv) (t' : Tb) (m : TMov P w V W V') (a : TabsAt base P V' most t' W) (o : TbOk most t') => sumP_any k.v2 k.p.u.P.length (fun i => k.p.u.P.getD i ⟨0, 0, false, false⟩) k.p base P V' most t' W (lsG_getD _ _) (fun W' c => (hk W' (chg_after m.1 c m.2)).h2) a o hm)
 have HM := hid (fun (W : World) (V' : Tv) (t' : Tb) (m : TMov P w V W V') (a : TabsAt base P V' most t' W) (o : TbOk most t') => sumM_any k.v3 k.p.u.W.length (fun i => k.p.u.W.getD i 0) k.p base P V' most t' W (lsG_getD _ _) (fun W' c => (hk W' (chg_after m.1 c m.2)).h3) a o hm)
 have HA := hid h
 have HO := hid ok
 have HLt := hid h.lt
 clear hk h ok hm
 unfold Kg.v1 Kg.v2 Kg.v3 at *
 have HT := hid (show sumT most k.p t = andT (andT (andT (sumW most k.p t) (sumR most k.p)) (sumP most k.p)) (fun t => if k.p.o = true then sumM most k.p t else (true, t)) from rfl)
 have HO1 := hid (fun (t' : Tb) (o : TbOk most t') => sumW_ok (k := k.p) o HF.out)
 have HO2 := hid (fun (t' : Tb) (o : TbOk most t') => sumR_ok (k := k.p) o HF.out)
 have HO3 := hid (fun (t' : Tb) (o : TbOk most t') => sumP_ok (k := k.p) o HF.out)
 obtain ⟨fW, hfW⟩ : ∃ f, sumW most k.p = f := ⟨_, rfl⟩
 obtain ⟨fR, hfR⟩ : ∃ f, sumR most k.p = f := ⟨_, rfl⟩
 obtain ⟨fP, hfP⟩ : ∃ f, sumP most k.p = f := ⟨_, rfl⟩
 obtain ⟨fM, hfM⟩ : ∃ f, sumM most k.p = f := ⟨_, rfl⟩
 rw [hfW] at HW HT HO1
 rw [hfR] at HR HT HO2
 rw [hfP] at HP HT HO3
 rw [hfM] at HM HT
 clear hfW hfR hfP hfM HF
 generalize sumT most k.p t = RR at *
 obtain ⟨⟨kn, ⟨k1, k2, k3, kR, kP, kW⟩, ko⟩, ka1, ka2, ka3, kc1, kc2, kc3⟩ := k
 obtain ⟨t1, t2, t3, t4⟩ := P
 dsimp only at HW HR HP HM HT ⊢
 obtain ⟨l1, hl1⟩ : ∃ l1, kR.length = l1 := ⟨_, rfl⟩
 obtain ⟨l2, hl2⟩ : ∃ l2, kP.length = l2 := ⟨_, rfl⟩
 obtain ⟨l3, hl3⟩ : ∃ l3, kW.length = l3 := ⟨_, rfl⟩
 rw [hl3] at HW HM
 rw [hl1] at HR
 rw [hl2] at HP
 rw [hl1, hl2, hl3]
 clear hl1 hl2 hl3
 generalize hPP : (⟨t1, t2, t3, t4⟩ : Tp) = P at *
 have HPt := hid hPP
 clear hPP
 unfold SuPost at *
 go_enter Tryz.func52, Tryz.ntmps52
 go_upto_region 1 with fail
 have U0 := hid (((Old.refl w).alloc (.cells #[pV t1, pV t2, pV t3, pV t4] 55)).alloc (.cells #[.int .i64 kn, .int .i64 k1, .int .i64 k2, .int .i64 k3, .slice ka1 l1 kc1, .slice ka2 l2 kc2, .slice ka3 l3 kc3, .bool ko] 93))
 have N0 := hid (two_newK w (.cells #[pV t1, pV t2, pV t3, pV t4] 55) (.cells #[.int .i64 kn, .int .i64 k1, .int .i64 k2, .int .i64 k3, .slice ka1 l1 kc1, .slice ka2 l2 kc2, .slice ka3 l3 kc3, .bool ko] 93))
 generalize (w.alloc (.cells #[pV t1, pV t2, pV t3, pV t4] 55)).alloc (.cells #[.int .i64 kn, .int .i64 k1, .int .i64 k2, .int .i64 k3, .slice ka1 l1 kc1, .slice ka2 l2 kc2, .slice ka3 l3 kc3, .bool ko] 93) = w0 at *
 obtain ⟨sm, hsm⟩ : ∃ sm, w.heap.size = sm := ⟨_, rfl⟩
 have HSm := hid hsm
 rw [hsm] at N0 ⊢
 obtain ⟨kb, hkb⟩ : ∃ kb, sm + 1 = kb := ⟨_, rfl⟩
 have HNt := hid (show sm ∉ tbl P V ∧ kb ∉ tbl P V from ⟨fun q => by have := (HLt.out _ q).2; omega, fun q => by have := (HLt.out _ q).2; omega⟩)
 rw [hkb] at N0 ⊢
 clear hsm hkb
 have S0 := hid (box4M N0.out.1).1
 have K0 := hid (box8K N0.out.2)
 have M0 := hid (TMov.old (P := P) (V := V) U0.out)
 have A0 := hid (HA.out.old U0.out)
 clear N0
 obtain ⟨e0, e1, e2, e3⟩ := S0.out
 obtain ⟨y0, y1, y2, y3, y4, y5, y6, y7⟩ := K0.out
 have Z0 := hid (TMov.refl P w0 V)
 skip
 have HX1 := hid (HO1.out t HO.out)
 generalize hr1 : fW t = r1 at *
 obtain ⟨b1, T1⟩ := r1
 have HW0 := hid (fun (W : World) (V' : Tv) (m : TMov P w V W V') (a : TabsAt base P V' most t W) => HW.out W V' t m a HO.out)
 rw [hr1] at HW0
 dsimp only at HW0 HX1
 have H1 := hid hr1
 clear hr1 HW
 cases b1
 ·go_upto_region 2 with (go_at_call 89; refine (HW0.out w0 V M0.out A0.out).mono ?_; rintro e w1 ⟨V1, rfl, a1, m1⟩; have A1 := hid a1; have M1 := hid (M0.out.trans m1); have Z1 := hid (Z0.out.trans m1); have S1 := hid (SmK.old2 S0.out Z1.out.1 HNt.out.1); have K1 := hid (KB8.chg K0.out Z1.out.1 HNt.out.2); clear a1 m1 e0 e1 e2 e3 y0 y1 y2 y3 y4 y5 y6 y7; obtain ⟨e0, e1, e2, e3⟩ := S1.out; obtain ⟨y0, y1, y2, y3, y4, y5, y6, y7⟩ := K1.out)
  cases ko
  ·go_wp2
   go_ret
   have HQ : RR = (false, T1) := by rw [HT.out]; simp [andT]
   rw [HQ]
   first | exact ⟨rfl, V1, A1.out, M1.out⟩ | exact ⟨V1, rfl, A1.out, M1.out⟩
  ·go_wp2
   go_ret
   have HQ : RR = (false, T1) := by rw [HT.out]; simp [andT]
   rw [HQ]
   first | exact ⟨rfl, V1, A1.out, M1.out⟩ | exact ⟨V1, rfl, A1.out, M1.out⟩
 ·skip
  have HX2 := hid (HO2.out T1 HX1.out)
  obtain ⟨r2, hr2⟩ : ∃ r, fR T1 = r := ⟨_, rfl⟩
  have HR0 := hid (fun (W : World) (V' : Tv) (m : TMov P w V W V') (a : TabsAt base P V' most T1 W) => HR.out W V' T1 m a HX1.out)
  rw [hr2] at HR0 HX2
  obtain ⟨b2, T2⟩ := r2
  dsimp only at HR0 HX2
  have H2 := hid hr2
  clear hr2
  cases b2
  ·go_upto_region 2 with (first | (go_at_call 89; refine (HR0.out w1 V1 M1.out A1.out).mono ?_; rintro e w2 ⟨V2, rfl, a2, m2⟩; have A2 := hid a2; have M2 := hid (M1.out.trans m2); have Z2 := hid (Z1.out.trans m2); have S2 := hid (SmK.old2 S0.out Z2.out.1 HNt.out.1); have K2 := hid (KB8.chg K0.out Z2.out.1 HNt.out.2); clear a2 m2 e0 e1 e2 e3 y0 y1 y2 y3 y4 y5 y6 y7; obtain ⟨e0, e1, e2, e3⟩ := S2.out; obtain ⟨y0, y1, y2, y3, y4, y5, y6, y7⟩ := K2.out) | (go_at_call 89; refine (HW0.out w0 V M0.out A0.out).mono ?_; rintro e w1 ⟨V1, rfl, a1, m1⟩; have A1 := hid a1; have M1 := hid (M0.out.trans m1); have Z1 := hid (Z0.out.trans m1); have S1 := hid (SmK.old2 S0.out Z1.out.1 HNt.out.1); have K1 := hid (KB8.chg K0.out Z1.out.1 HNt.out.2); clear a1 m1 e0 e1 e2 e3 y0 y1 y2 y3 y4 y5 y6 y7; obtain ⟨e0, e1, e2, e3⟩ := S1.out; obtain ⟨y0, y1, y2, y3, y4, y5, y6, y7⟩ := K1.out))
   cases ko
   ·go_wp2
    go_ret
    have HQ : RR = (false, T2) := by rw [HT.out]; simp [andT, H2.out]
    rw [HQ]
    first | exact ⟨rfl, V2, A2.out, M2.out⟩ | exact ⟨V2, rfl, A2.out, M2.out⟩
   ·go_wp2
    go_ret
    have HQ : RR = (false, T2) := by rw [HT.out]; simp [andT, H2.out]
    rw [HQ]
    first | exact ⟨rfl, V2, A2.out, M2.out⟩ | exact ⟨V2, rfl, A2.out, M2.out⟩
  ·skip
   have HX3 := hid (HO3.out T2 HX2.out)
   obtain ⟨r3, hr3⟩ : ∃ r, fP T2 = r := ⟨_, rfl⟩
   have HP0 := hid (fun (W : World) (V' : Tv) (m : TMov P w V W V') (a : TabsAt base P V' most T2 W) => HP.out W V' T2 m a HX2.out)
   rw [hr3] at HP0 HX3
   obtain ⟨b3, T3⟩ := r3
   dsimp only at HP0 HX3
   have H3 := hid hr3
   clear hr3
   cases b3
   ·go_upto_region 2 with (first | (go_at_call 91; refine (HP0.out w2 V2 M2.out A2.out).mono ?_; rintro e w3 ⟨V3, rfl, a3, m3⟩; have A3 := hid a3; have M3 := hid (M2.out.trans m3); have Z3 := hid (Z2.out.trans m3); have S3 := hid (SmK.old2 S0.out Z3.out.1 HNt.out.1); have K3 := hid (KB8.chg K0.out Z3.out.1 HNt.out.2); clear a3 m3 e0 e1 e2 e3 y0 y1 y2 y3 y4 y5 y6 y7; obtain ⟨e0, e1, e2, e3⟩ := S3.out; obtain ⟨y0, y1, y2, y3, y4, y5, y6, y7⟩ := K3.out) | (go_at_call 89; refine (HR0.out w1 V1 M1.out A1.out).mono ?_; rintro e w2 ⟨V2, rfl, a2, m2⟩; have A2 := hid a2; have M2 := hid (M1.out.trans m2); have Z2 := hid (Z1.out.trans m2); have S2 := hid (SmK.old2 S0.out Z2.out.1 HNt.out.1); have K2 := hid (KB8.chg K0.out Z2.out.1 HNt.out.2); clear a2 m2 e0 e1 e2 e3 y0 y1 y2 y3 y4 y5 y6 y7; obtain ⟨e0, e1, e2, e3⟩ := S2.out; obtain ⟨y0, y1, y2, y3, y4, y5, y6, y7⟩ := K2.out) | (go_at_call 89; refine (HW0.out w0 V M0.out A0.out).mono ?_; rintro e w1 ⟨V1, rfl, a1, m1⟩; have A1 := hid a1; have M1 := hid (M0.out.trans m1); have Z1 := hid (Z0.out.trans m1); have S1 := hid (SmK.old2 S0.out Z1.out.1 HNt.out.1); have K1 := hid (KB8.chg K0.out Z1.out.1 HNt.out.2); clear a1 m1 e0 e1 e2 e3 y0 y1 y2 y3 y4 y5 y6 y7; obtain ⟨e0, e1, e2, e3⟩ := S1.out; obtain ⟨y0, y1, y2, y3, y4, y5, y6, y7⟩ := K1.out))
    cases ko
    ·go_wp2
     go_ret
     have HQ : RR = (false, T3) := by rw [HT.out]; simp [andT, H2.out, H3.out]
     rw [HQ]
     first | exact ⟨rfl, V3, A3.out, M3.out⟩ | exact ⟨V3, rfl, A3.out, M3.out⟩
    ·go_wp2
     go_ret
     have HQ : RR = (false, T3) := by rw [HT.out]; simp [andT, H2.out, H3.out]
     rw [HQ]
     first | exact ⟨rfl, V3, A3.out, M3.out⟩ | exact ⟨V3, rfl, A3.out, M3.out⟩
   ·go_upto_region 2 with (first | (go_at_call 91; refine (HP0.out w2 V2 M2.out A2.out).mono ?_; rintro e w3 ⟨V3, rfl, a3, m3⟩; have A3 := hid a3; have M3 := hid (M2.out.trans m3); have Z3 := hid (Z2.out.trans m3); have S3 := hid (SmK.old2 S0.out Z3.out.1 HNt.out.1); have K3 := hid (KB8.chg K0.out Z3.out.1 HNt.out.2); clear a3 m3 e0 e1 e2 e3 y0 y1 y2 y3 y4 y5 y6 y7; obtain ⟨e0, e1, e2, e3⟩ := S3.out; obtain ⟨y0, y1, y2, y3, y4, y5, y6, y7⟩ := K3.out) | (go_at_call 89; refine (HR0.out w1 V1 M1.out A1.out).mono ?_; rintro e w2 ⟨V2, rfl, a2, m2⟩; have A2 := hid a2; have M2 := hid (M1.out.trans m2); have Z2 := hid (Z1.out.trans m2); have S2 := hid (SmK.old2 S0.out Z2.out.1 HNt.out.1); have K2 := hid (KB8.chg K0.out Z2.out.1 HNt.out.2); clear a2 m2 e0 e1 e2 e3 y0 y1 y2 y3 y4 y5 y6 y7; obtain ⟨e0, e1, e2, e3⟩ := S2.out; obtain ⟨y0, y1, y2, y3, y4, y5, y6, y7⟩ := K2.out) | (go_at_call 89; refine (HW0.out w0 V M0.out A0.out).mono ?_; rintro e w1 ⟨V1, rfl, a1, m1⟩; have A1 := hid a1; have M1 := hid (M0.out.trans m1); have Z1 := hid (Z0.out.trans m1); have S1 := hid (SmK.old2 S0.out Z1.out.1 HNt.out.1); have K1 := hid (KB8.chg K0.out Z1.out.1 HNt.out.2); clear a1 m1 e0 e1 e2 e3 y0 y1 y2 y3 y4 y5 y6 y7; obtain ⟨e0, e1, e2, e3⟩ := S1.out; obtain ⟨y0, y1, y2, y3, y4, y5, y6, y7⟩ := K1.out))
    cases ko
    ·go_wp2
     go_ret
     have HQ : RR = (true, T3) := by rw [HT.out]; simp [andT, H2.out, H3.out]
     rw [HQ]
     first | exact ⟨rfl, V3, A3.out, M3.out⟩ | exact ⟨V3, rfl, A3.out, M3.out⟩
    ·skip
     obtain ⟨r4, hr4⟩ : ∃ r, fM T3 = r := ⟨_, rfl⟩
     have HM0 := hid (fun (W : World) (V' : Tv) (m : TMov P w V W V') (a : TabsAt base P V' most T3 W) => HM.out W V' T3 m a HX3.out)
     rw [hr4] at HM0
     obtain ⟨b4, T4⟩ := r4
     dsimp only at HM0
     have H4 := hid hr4
     clear hr4
     go_wp2_with (go_at_call 89; refine (HM0.out w3 V3 M3.out A3.out).mono ?_; rintro e w4 ⟨V4, rfl, a4, m4⟩; have A4 := hid a4; have M4 := hid (M3.out.trans m4); have Z4 := hid (Z3.out.trans m4); have S4 := hid (SmK.old2 S0.out Z4.out.1 HNt.out.1); have K4 := hid (KB8.chg K0.out Z4.out.1 HNt.out.2); clear a4 m4 e0 e1 e2 e3 y0 y1 y2 y3 y4 y5 y6 y7; obtain ⟨e0, e1, e2, e3⟩ := S4.out; obtain ⟨y0, y1, y2, y3, y4, y5, y6, y7⟩ := K4.out)
     go_ret
     have HQ : RR = (b4, T4) := by rw [HT.out]; simp [andT, H2.out, H3.out, H4.out]
     rw [HQ]
     first | exact ⟨rfl, V4, A4.out, M4.out⟩ | exact ⟨V4, rfl, A4.out, M4.out⟩
def clrT (t : Tb) : Nat → Tb
 | 0 => t
 | 1 => ⟨[], t.lm, t.lr, t.ls⟩
 | 2 => ⟨[], [], t.lr, t.ls⟩
 | 3 => ⟨[], [], [], t.ls⟩
 | _ => ⟨[], [], [], []⟩
theorem meth_v (w : World) (t : Nat) : (method 330 52 (pV t) "Clear").run Tryz.prog w = .ok (205, pV t) w := by kernel_rfl
theorem meth_p (w : World) (t : Nat) : (method 330 53 (pV t) "Clear").run Tryz.prog w = .ok (206, pV t) w := by kernel_rfl
abbrev IF4 (g t1 t2 t3 t4 : Nat) (w : World) : Prop := w.cell? ⟨g, 0, none⟩ = some (.iface 52 (pV t1)) ∧ w.cell? ⟨g, 1, none⟩ = some (.iface 52 (pV t2)) ∧ w.cell? ⟨g, 2, none⟩ = some (.iface 52 (pV t3)) ∧ w.cell? ⟨g, 3, none⟩ = some (.iface 53 (pV t4))
theorem IF4.chg {g t1 t2 t3 t4 : Nat} {w w' : World} {S : List Nat} (h : IF4 g t1 t2 t3 t4 w) (u : Chg S w w') (n : g ∉ S) : IF4 g t1 t2 t3 t4 w' := ⟨u.cell h.1 n, u.cell h.2.1 n, u.cell h.2.2.1 n, u.cell h.2.2.2 n⟩
def EmPost (base : Nat) (P : Tp) (V : Tv) (most : Int) (w : World) (e : Ending) (w' : World) : Prop := ∃ V', e = .returned (.tuple #[]) ∧ TabsAt base P V' most ⟨[], [], [], []⟩ w' ∧ TMov P w V w' V'
set_option maxHeartbeats 8000000 in
theorem sempty_any (base : Nat) (P : Tp) (V : Tv) (most : Int) (t : Tb) (w : World) (h : TabsAt base P V most t w) :
    Calls Tryz.prog 53 #[.agg #[pV P.t1, pV P.t2, pV P.t3, pV P.t4]] w fun e w' => EmPost base P V most w e w' := by
 have HA := hid h
 have HLt := hid h.lt
 clear h
 obtain ⟨t1, t2, t3, t4⟩ := P
 dsimp only
 generalize hPP : (⟨t1, t2, t3, t4⟩ : Tp) = P at *
 have HPt := hid hPP
 clear hPP
 go_enter Tryz.func53, Tryz.ntmps53
 go_upto_region 1 with fail
 have U0 := hid ((Old.refl w).alloc (.cells #[pV t1, pV t2, pV t3, pV t4] 55))
 have S0 := (box4M (alloc_at w (.cells #[pV t1, pV t2, pV t3, pV t4] 55))).1
 generalize w.alloc (.cells #[pV t1, pV t2, pV t3, pV t4] 55) = w0 at *
 have HG := hid U0.out.size
 generalize w.heap.size = sm at *
 obtain ⟨e0, e1, e2, e3⟩ := S0
 go_upto_region 2 with fail
 have U1 := hid (U0.out.trans ((Old.refl w0).alloc (.cells #[.iface 52 (pV t1), .iface 52 (pV t2), .iface 52 (pV t3), .iface 53 (pV t4)] 138)))
 have S1 := hid (show IF4 w0.heap.size t1 t2 t3 t4 _ from (box4M (alloc_at w0 (.cells #[.iface 52 (pV t1), .iface 52 (pV t2), .iface 52 (pV t3), .iface 53 (pV t4)] 138))).1)
 generalize w0.alloc (.cells #[.iface 52 (pV t1), .iface 52 (pV t2), .iface 52 (pV t3), .iface 53 (pV t4)] 138) = w1 at *
 generalize w0.heap.size = g at *
 clear e0 e1 e2 e3
 have A1 := hid (HA.out.old U1.out)
 have M1 := hid (TMov.old (P := P) (V := V) U1.out)
 have HNg := hid (show g ∉ tbl P V from fun q => by have := (HLt.out g q).2; have := HG.out; omega)
 go_wp2
 go_loopw [18] (fun i wx => ∃ (j : Nat) (V' : Tv), j ≤ 4 ∧ i = .int .i64 (j : Nat) ∧ Hid (TabsAt base P V' most (clrT t j) wx ∧ TMov P w V wx V' ∧ TMov P w1 V wx V' ∧ IF4 g t1 t2 t3 t4 wx)) (fun i _ => 4 - (intOf i).toNat)
 case atStart => exact ⟨0, V, by omega, rfl, hid ⟨A1.out, M1.out, TMov.refl _ _ _, S1.out⟩⟩
 case round =>
  obtain ⟨j, V', hj, rfl, HI⟩ := hrel
  have hm1 := fun w => meth_v w t1
  have hm2 := fun w => meth_v w t2
  have hm3 := fun w => meth_v w t3
  have hm4 := fun w => meth_p w t4
  obtain ⟨e0, e1, e2, e3⟩ := HI.out.2.2.2
  have HN0 : ∀ g, (Value.slice none 0 0).ownBlock = some g → False := fun g e => by cases e
  match j, hj, HI with
  | 0, _, HI =>
   have HC := hid (fun (W : World) (u : Old wr W) => Vx.clear_any base t1 most V'.u1 (clrT t 0).lw W (by have := (HI.out.1.old u).a1; rw [← HPt.out] at this; exact this))
   go_wp2_with (go_at_call 205; refine (HC.out _ (Old.refl wr)).mono ?_; rintro e w5 ⟨rfl, a5, c5⟩; have AC := hid (HI.out.1.put1 (by rw [← HPt.out]; exact a5) (by rw [← HPt.out]; exact c5) (fun g e => (HN0 g e).elim)); clear a5 c5)
   go_roundw
   case rel => exact ⟨1, _, by omega, by go_num, hid ⟨AC.out.1, HI.out.2.1.trans AC.out.2, HI.out.2.2.1.trans AC.out.2, S1.out.chg (HI.out.2.2.1.trans AC.out.2).1 HNg.out⟩⟩
   case measure => simp [intOf]
  | 1, _, HI =>
   have HC := hid (fun (W : World) (u : Old wr W) => Vx.clear_any base t2 most V'.u2 (clrT t 1).lm W (by have := (HI.out.1.old u).a2; rw [← HPt.out] at this; exact this))
   go_wp2_with (go_at_call 205; refine (HC.out _ (Old.refl wr)).mono ?_; rintro e w5 ⟨rfl, a5, c5⟩; have AC := hid (HI.out.1.put2 (by rw [← HPt.out]; exact a5) (by rw [← HPt.out]; exact c5) (fun g e => (HN0 g e).elim)); clear a5 c5)
   go_roundw
   case rel => exact ⟨2, _, by omega, by go_num, hid ⟨AC.out.1, HI.out.2.1.trans AC.out.2, HI.out.2.2.1.trans AC.out.2, S1.out.chg (HI.out.2.2.1.trans AC.out.2).1 HNg.out⟩⟩
   case measure => simp [intOf]
  | 2, _, HI =>
   have HC := hid (fun (W : World) (u : Old wr W) => Vx.clear_any base t3 most V'.u3 (clrT t 2).lr W (by have := (HI.out.1.old u).a3; rw [← HPt.out] at this; exact this))
   go_wp2_with (go_at_call 205; refine (HC.out _ (Old.refl wr)).mono ?_; rintro e w5 ⟨rfl, a5, c5⟩; have AC := hid (HI.out.1.put3 (by rw [← HPt.out]; exact a5) (by rw [← HPt.out]; exact c5) (fun g e => (HN0 g e).elim)); clear a5 c5)
   go_roundw
   case rel => exact ⟨3, _, by omega, by go_num, hid ⟨AC.out.1, HI.out.2.1.trans AC.out.2, HI.out.2.2.1.trans AC.out.2, S1.out.chg (HI.out.2.2.1.trans AC.out.2).1 HNg.out⟩⟩
   case measure => simp [intOf]
  | 3, _, HI =>
   have HC := hid (fun (W : World) (u : Old wr W) => Py.clear_any base t4 most V'.u4 (clrT t 3).ls W (by have := (HI.out.1.old u).a4; rw [← HPt.out] at this; exact this))
   go_wp2_with (go_at_call 206; refine (HC.out _ (Old.refl wr)).mono ?_; rintro e w5 ⟨rfl, a5, c5⟩; have AC := hid (HI.out.1.put4 (by rw [← HPt.out]; exact a5) (by rw [← HPt.out]; exact c5) (fun g e => (HN0 g e).elim)); clear a5 c5)
   go_roundw
   case rel => exact ⟨4, _, by omega, by go_num, hid ⟨AC.out.1, HI.out.2.1.trans AC.out.2, HI.out.2.2.1.trans AC.out.2, S1.out.chg (HI.out.2.2.1.trans AC.out.2).1 HNg.out⟩⟩
   case measure => simp [intOf]
  | 4, _, HI =>
   go_wp2
   exact bodyPost_end (v := .tuple #[]) (by simp [results, Tryz.results53, go_sem]) rfl ⟨V', rfl, HI.out.1, HI.out.2.1⟩
end Go.Proofs.YtgeinnaljlajoaaGreat
