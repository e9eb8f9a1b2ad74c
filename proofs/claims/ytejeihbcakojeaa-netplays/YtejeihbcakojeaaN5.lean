/- slices.Delete of one letter, a net's Drop; conditions: they lie in memory. -/
import Derived.Test.YtejeihbcakojeaaN4
namespace Go.Proofs.Ytejeihbcakojeaa
open Go.RowKit Go.Lib
set_option linter.unusedVariables false
set_option linter.unusedSimpArgs false
set_option maxRecDepth 20000
theorem step_app_run {ops : Array Oper} {o : Oper} {a : Act} {w : World} {K : Act → World → Prop} {Q : Exit → Act → World → Prop} {E : Prop}
    (hg : o.guard = none) (d x : Operand) (dT sT : TypeId) (hop : o.op = Op.call { callee := Callee.builtin Builtin.append, args := #[d, x], argTypes := #[dT, sT] })
    (v u : Value) (hd : a.eval d = v) (hx : a.eval x = u) {v' : Value} {w' : World} (hr : (Builtin.append_ #[dT, sT] o.type #[v, u]).run Try.prog w = .ok v' w') (hK : K (a.put o.dst v') w') :
    if Region.wanted o (yielded ops a.tmps) = true then Oper.wp Try.prog o a w K Q else E := by
  have hw : Region.wanted o (yielded ops a.tmps) = true := by simp [Region.wanted, hg]
  rw [if_pos hw]
  unfold Oper.wp
  simp [execOp, hop, resolve, invoke, builtin, hd, hx, hr, Result.andThen]
  exact hK
def zLt : Lt := ⟨0, 0, none, 0, []⟩
theorem zLt_cells : (Builtin.zeroCells (Value.agg #[.int .i64 0, .int .i64 0, .slice none 0 0]).cells 1).toList = ltcs [zLt] := by kernel_rfl
theorem run_clear1 (w : World) (ty : TypeId) (g o c : Nat) (cur : Array Value) (hg : w.heap[g]? = some (.cells cur 30 (0, 0))) (hf : o + 3 ≤ cur.size) :
    (Builtin.clear_ #[38] ty #[.slice (some ⟨g, o, none⟩) 1 c]).run Try.prog w = .ok (.tuple #[]) (w.setRow g (cur.toList.take o ++ ltcs [zLt] ++ cur.toList.drop (o + 3)).toArray) := by
  have hst := run_storeCells_at (P := Try.prog) g o 30 (ltcs [zLt]) 0 cur w hg (by simp [ltcs_len]; omega) (ltcs_one _)
  obtain ⟨i0, hi, hz0, hz1, hz2⟩ := info_parts infoLt
  have e : (Builtin.zeroCells (Value.agg #[.int .i64 0, .int .i64 0, .slice none 0 0]).cells 1) = (ltcs [zLt]).toArray := by apply Array.ext'; rw [zLt_cells]
  simp only [Nat.add_zero] at hst
  simp [Builtin.clear_, run_underlying Try.underlying38, zeroValue, typeInfo, hi, hz0]
  rw [e]
  simp [hst, Result.andThen, ltcs_len]
def cur1 (cur : Array Value) (X : List Lt) (i : Nat) : Array Value := (cur.toList.take (i * 3) ++ ltcs (X.drop (i + 1)) ++ cur.toList.drop (i * 3 + (ltcs (X.drop (i + 1))).length)).toArray
def cur2 (cur : Array Value) (m : Nat) : Array Value := (cur.toList.take (m * 3) ++ ltcs [zLt] ++ cur.toList.drop (m * 3 + 3)).toArray
theorem del_run (ty : TypeId) (g c : Nat) (cur : Array Value) (X : List Lt) (i m o5 c5 : Nat) (w : World) (hg : w.heap[g]? = some (.cells cur 30 (0, 0))) (h1 : X.length ≤ c) (h3 : cur.size = c * 3) (h4 : cur.toList.take (X.length * 3) = ltcs X) (hi : i < X.length) (hm : m + 1 = X.length) (ho : o5 = (i + 1) * 3 ∨ X.length = i + 1) :
    (Builtin.append_ #[38, 38] ty #[.slice (some ⟨g, 0, none⟩) i c, .slice (some ⟨g, o5, none⟩) (X.length - (i + 1)) c5]).run Try.prog w = .ok (.slice (some ⟨g, 0, none⟩) m c) (w.setRow g (cur1 cur X i)) := by
  obtain ⟨i0, hi0, hz0, hz1, hz2⟩ := info_parts infoLt
  have q := run_append_room (P := Try.prog) w 38 ty 30 i0 Try.underlying38 hi0 g i c cur hg ⟨g, o5, none⟩ (X.length - (i + 1)) c5 (ltcs (X.drop (i + 1))) (by rw [ltcs_len, List.length_drop, hz1]) (fun j u hj => by
    have hl : j < (X.length - (i + 1)) * 3 := by have := (List.getElem?_eq_some_iff.1 hj).1; rw [ltcs_len, List.length_drop] at this; exact this
    rcases ho with rfl | e
    · rw [Go.WideShapes.add_plain, Go.Joins.cell_of_block hg, ← hj, ← ltcs_drop, List.getElem?_drop, ← h4, List.getElem?_take, if_pos (by omega), Array.getElem?_toList]
    · omega) (ltcs_one _) (by omega) (by rw [ltcs_len, List.length_drop, hz1]; omega)
  rw [hz1, show i + (X.length - (i + 1)) = m from by omega] at q
  exact q
theorem cur1_size (cur : Array Value) (X : List Lt) (i c : Nat) (h1 : X.length ≤ c) (h3 : cur.size = c * 3) (hi : i < X.length) : (cur1 cur X i).size = c * 3 := by
  unfold cur1
  simp [ltcs_len]
  omega
theorem del_own (g c : Nat) (cur : Array Value) (X : List Lt) (i m : Nat) (w w' : World) (hg : w'.heap[g]? = some (.cells (cur2 (cur1 cur X i) m) 30 (0, 0))) (h1 : X.length ≤ c) (h2 : c ≤ maxLen) (h3 : cur.size = c * 3) (h4 : cur.toList.take (X.length * 3) = ltcs X) (hi : i < X.length) (hm : m + 1 = X.length) : OwnT 0 w' (.slice (some ⟨g, 0, none⟩) m c) (X.eraseIdx i) := by
  have hl : (X.eraseIdx i).length = m := by rw [List.length_eraseIdx_of_lt hi]; omega
  have e1 : cur.toList.take (i * 3) = ltcs (X.take i) := by rw [← ltcs_take, ← h4, List.take_take, Nat.min_eq_left (by omega)]
  have e2 : (cur1 cur X i).toList.take (m * 3) = ltcs (X.eraseIdx i) := by
    have el : (ltcs (X.take i) ++ ltcs (X.drop (i + 1))).length = m * 3 := by rw [List.length_append, ltcs_len, ltcs_len, List.length_take, List.length_drop]; omega
    unfold cur1
    rw [List.toList_toArray, e1, List.take_append_of_le_length (by omega), List.take_of_length_le (by omega), ltcs_app, List.eraseIdx_eq_take_drop_succ]
  have hs := cur1_size cur X i c h1 h3 hi
  have q := ownT_of (base := 0) (X := X.eraseIdx i) (Nat.zero_le g) hg (by omega) h2 (by unfold cur2; simp [ltcs_len, hs]; omega) (by
    rw [hl]
    unfold cur2
    rw [List.toList_toArray, List.append_assoc, List.take_append_of_le_length (by rw [List.length_take, Array.length_toList, hs]; omega), List.take_take, Nat.min_self, e2])
  rw [hl] at q
  exact q
set_option maxHeartbeats 1000000 in
set_option maxRecDepth 20000 in
theorem delete_any (g c : Nat) (cur : Array Value) (X : List Lt) (i m : Nat) (w : World) (hg : w.heap[g]? = some (.cells cur 30 (0, 0))) (h1 : X.length ≤ c) (h2 : c ≤ maxLen) (h3 : cur.size = c * 3) (h4 : cur.toList.take (X.length * 3) = ltcs X) (hi : i < X.length) (hm : m + 1 = X.length) :
    Calls Try.prog 23 #[.slice (some ⟨g, 0, none⟩) X.length c, .int .i64 (i : Nat), .int .i64 ((i : Int) + 1)] w fun e w' => e = .returned (.slice (some ⟨g, 0, none⟩) m c) ∧ OwnT 0 w' (.slice (some ⟨g, 0, none⟩) m c) (X.eraseIdx i) ∧ Chg [g] w w' := by
  have HR := hid (show ∀ (ty : TypeId) (ln o5 c5 : Nat) (hln : X.length - (i + 1) = ln) (ho : o5 = (i + 1) * 3 ∨ X.length = i + 1) (W : World) (hW : W.heap[g]? = some (.cells cur 30 (0, 0))), (Builtin.append_ #[38, 38] ty #[.slice (some ⟨g, 0, none⟩) i c, .slice (some ⟨g, o5, none⟩) ln c5]).run Try.prog W = .ok (.slice (some ⟨g, 0, none⟩) m c) (W.setRow g (cur1 cur X i)) from fun ty ln o5 c5 hln ho W hW => by subst hln; exact del_run ty g c cur X i m o5 c5 W hW h1 h3 h4 hi hm ho)
  have HO := hid (fun (W : World) (hW : W.heap[g]? = some (.cells (cur2 (cur1 cur X i) m) 30 (0, 0))) => del_own g c cur X i m w W hW h1 h2 h3 h4 hi hm)
  have HS := hid (cur1_size cur X i c h1 h3 hi)
  have hmx : c ≤ 9223372036854775807 := by unfold maxLen at h2; omega
  have HG := hid hg
  clear hg h2 h4 h3
  obtain ⟨n, hn⟩ : ∃ n, X.length = n := ⟨_, rfl⟩
  rw [hn] at h1 hi hm HR ⊢
  have HM := hid hm
  have HN := hid hn
  have q1 : (0 : Int) ≤ (i : Int) := by omega
  have q2 : (i : Int) ≤ (i : Int) + 1 := by omega
  have q3 : (i : Int) + 1 ≤ (n : Int) := by omega
  have q4 : (n : Int) ≤ (c : Int) := by omega
  have q5 : ((i : Int) == (i : Int) + 1) = false := by rw [beq_eq_false_iff_ne]; omega
  have q6 : (0 : Int) ≤ (i : Int) + 1 := by omega
  have q7 : (i : Int) + 1 ≤ (c : Int) := by omega
  have q8 : (i : Int) ≤ (c : Int) := by omega
  have r1 : (m : Int) ≤ (n : Int) := by omega
  have r2 : (0 : Int) ≤ (m : Int) := by omega
  have r3 : ¬ (c - m = 0) := by omega
  have r4 : n - m = 1 := by omega
  clear hm hn
  have hcl := fun (w1 : World) (hw1 : w1.heap[g]? = some (.cells (cur1 cur X i) 30 (0, 0))) => run_clear1 w1 0 g (m * 3) (c - m) (cur1 cur X i) hw1 (by rw [HS.out]; have := HM.out; omega)
  have HCl := hid hcl
  clear hcl
  go_enter Try.func23, Try.ntmps23
  go_upto_region 5 with (fail)
  by_cases hc : c = i + 1
  · have q9 : c - (i + 1) = 0 := by omega
    have HE := hid (show n = i + 1 from by omega)
    subst hc
    refine wp_region_noPanic ?_
    refine wp_region_held_drew (S := fun _ => True) (by kernel_rfl) ?_ (fun hHeld => ?_)
    · exact trivial
    (try simp only [Act.put]); (try simp only [List.setIfInBounds_toArray]); (try simp only [List.set_cons_succ]); (try simp only [List.set_cons_zero])
    clear hHeld
    refine wpAnyH_take (i := 0) (oi := { dst := some 20, op := Op.move (Operand.tmp 0), type := 38, pos := "slices.go:232", after := #[], guard := none }) (v := ?vk1) rfl (by kernel_rfl) (by kernel_rfl) (by kernel_rfl) (fun _ _ _ h => h) (Or.inl ⟨by rfl, ?hk1⟩) trivial ?rk1
    case hk1 => (intro wz hSw; (try dsimp only at hSw); go_simp; try with_reducible rfl)
    (try simp only [Act.put]); (try simp only [List.setIfInBounds_toArray]); (try simp only [List.set_cons_succ]); (try simp only [List.set_cons_zero])
    refine wpAnyH_take (i := 1) (oi := { dst := some 21, op := Op.move (Operand.tmp 1), type := 3, pos := "slices.go:232", after := #[], guard := none }) (v := ?vk2) rfl (by kernel_rfl) (by kernel_rfl) (by kernel_rfl) (fun _ _ _ h => h) (Or.inl ⟨by rfl, ?hk2⟩) trivial ?rk2
    case hk2 => (intro wz hSw; (try dsimp only at hSw); go_simp; try with_reducible rfl)
    (try simp only [Act.put]); (try simp only [List.setIfInBounds_toArray]); (try simp only [List.set_cons_succ]); (try simp only [List.set_cons_zero])
    refine wpAnyH_take (i := 2) (oi := { dst := some 22, op := Op.slice 38 (Operand.tmp 20) none (some (Operand.tmp 21)) none, type := 38, pos := "slices.go:232", after := #[{ on := 0, ground := Ground.data }, { on := 1, ground := Ground.data }], guard := none }) (v := ?vk3) rfl (by kernel_rfl) (by kernel_rfl) (by kernel_rfl) (fun _ _ _ h => h) (Or.inl ⟨by rfl, ?hk3⟩) trivial ?rk3
    case hk3 => (intro wz hSw; (try dsimp only at hSw); go_simp; try with_reducible rfl)
    (try simp only [Act.put]); (try simp only [List.setIfInBounds_toArray]); (try simp only [List.set_cons_succ]); (try simp only [List.set_cons_zero])
    refine wpAnyH_take (i := 3) (oi := { dst := some 23, op := Op.move (Operand.tmp 0), type := 38, pos := "slices.go:232", after := #[], guard := none }) (v := ?vk4) rfl (by kernel_rfl) (by kernel_rfl) (by kernel_rfl) (fun _ _ _ h => h) (Or.inl ⟨by rfl, ?hk4⟩) trivial ?rk4
    case hk4 => (intro wz hSw; (try dsimp only at hSw); go_simp; try with_reducible rfl)
    (try simp only [Act.put]); (try simp only [List.setIfInBounds_toArray]); (try simp only [List.set_cons_succ]); (try simp only [List.set_cons_zero])
    refine wpAnyH_take (i := 4) (oi := { dst := some 24, op := Op.move (Operand.tmp 2), type := 3, pos := "slices.go:232", after := #[], guard := none }) (v := ?vk5) rfl (by kernel_rfl) (by kernel_rfl) (by kernel_rfl) (fun _ _ _ h => h) (Or.inl ⟨by rfl, ?hk5⟩) trivial ?rk5
    case hk5 => (intro wz hSw; (try dsimp only at hSw); go_simp; try with_reducible rfl)
    (try simp only [Act.put]); (try simp only [List.setIfInBounds_toArray]); (try simp only [List.set_cons_succ]); (try simp only [List.set_cons_zero])
    refine wpAnyH_take (i := 5) (oi := { dst := some 25, op := Op.slice 38 (Operand.tmp 23) (some (Operand.tmp 24)) none none, type := 38, pos := "slices.go:232", after := #[{ on := 3, ground := Ground.data }, { on := 4, ground := Ground.data }], guard := none }) (v := ?vk6) rfl (by kernel_rfl) (by kernel_rfl) (by kernel_rfl) (fun _ _ _ h => h) (Or.inl ⟨by rfl, ?hk6⟩) trivial ?rk6
    case hk6 => (intro wz hSw; (try dsimp only at hSw); go_simp; try with_reducible rfl)
    (try simp only [Act.put]); (try simp only [List.setIfInBounds_toArray]); (try simp only [List.set_cons_succ]); (try simp only [List.set_cons_zero])
    refine wpAnyH_ready (rs := [6]) (by kernel_rfl) (by simp) ?_
    refine AllReadyH.cons (o := { dst := some 26, op := Op.call { callee := Callee.builtin Builtin.append, args := #[Operand.tmp 22, Operand.tmp 25], argTypes := #[38, 38] }, type := 38, pos := "slices.go:232", after := #[{ on := 2, ground := Ground.data }, { on := 5, ground := Ground.data }], guard := none }) rfl (fun K hK => ?_) AllReadyH.nil
    · skip
      refine step_app_run ?_ (.tmp 22) (.tmp 25) 38 38 ?_ (.slice (some ⟨g, 0, none⟩) i (i + 1)) (.slice (some ⟨g, 0, none⟩) 0 0) ?_ ?_ (HR.out _ 0 0 0 (by have := HE.out; omega) (.inr HE.out) _ (((Old.refl w).drew).block HG.out)) ?_
      · rfl
      · rfl
      · rfl
      · rfl
      refine hK.out _ _ trivial (fun _ => ?_)
      clear hK K
      (try simp only [Act.put]); (try simp only [List.setIfInBounds_toArray]); (try simp only [List.set_cons_succ]); (try simp only [List.set_cons_zero])
      refine wpAnyH_ready (rs := [7]) (by kernel_rfl) (by simp) ?_
      refine AllReadyH.cons (o := { dst := some 0, op := Op.assign (Operand.tmp 26), type := 38, pos := "slices.go:232", after := #[{ on := 6, ground := Ground.data }, { on := 6, ground := Ground.chain }, { on := 0, ground := Ground.phase }, { on := 1, ground := Ground.phase }, { on := 2, ground := Ground.phase }, { on := 3, ground := Ground.phase }, { on := 4, ground := Ground.phase }, { on := 5, ground := Ground.phase }, { on := 6, ground := Ground.phase }], guard := none }) rfl (fun K hK => ?_) AllReadyH.nil
      · skip
        go_simp
        refine hK.out _ _ trivial (fun _ => ?_)
        clear hK K
        (try simp only [Act.put]); (try simp only [List.setIfInBounds_toArray]); (try simp only [List.set_cons_succ]); (try simp only [List.set_cons_zero])
        refine wpAnyH_done (by kernel_rfl) ?_ _
        refine NoPanic.normal ?_
        have G1 : (w.drew.setRow g (cur1 cur X i)).heap[g]? = some (.cells (cur1 cur X i) 30 (0, 0)) := setRow_heap w.drew g _ _ _ _ (((Old.refl w).drew).block HG.out)
        have C1 := hid (show Chg [g] w (w.drew.setRow g (cur1 cur X i)) from (Chg.ofOld ((Old.refl w).drew)).trans (Chg.setRow w.drew g _ _ (by simp)))
        generalize w.drew.setRow g (cur1 cur X i) = w1 at *
        have hcl := HCl.out w1 G1
        have HO2 := hid (HO.out (w1.setRow g (cur2 (cur1 cur X i) m)) (setRow_heap w1 g _ _ _ _ G1))
        have C2 := hid (show Chg [g] w (w1.setRow g (cur2 (cur1 cur X i) m)) from C1.out.trans (Chg.setRow w1 g _ _ (by simp)))
        change _ = Result.ok (Value.tuple #[]) (w1.setRow g (cur2 (cur1 cur X i) m)) at hcl
        clear HCl HR HG HO HS G1 C1
        go_wp2
        go_ret
        exact ⟨rfl, HO2.out, C2.out⟩
  · have q9 : ¬ (c - (i + 1) = 0) := by omega
    refine wp_region_noPanic ?_
    refine wp_region_held_drew (S := fun _ => True) (by kernel_rfl) ?_ (fun hHeld => ?_)
    · exact trivial
    (try simp only [Act.put]); (try simp only [List.setIfInBounds_toArray]); (try simp only [List.set_cons_succ]); (try simp only [List.set_cons_zero])
    clear hHeld
    refine wpAnyH_take (i := 0) (oi := { dst := some 20, op := Op.move (Operand.tmp 0), type := 38, pos := "slices.go:232", after := #[], guard := none }) (v := ?vk7) rfl (by kernel_rfl) (by kernel_rfl) (by kernel_rfl) (fun _ _ _ h => h) (Or.inl ⟨by rfl, ?hk7⟩) trivial ?rk7
    case hk7 => (intro wz hSw; (try dsimp only at hSw); go_simp; try with_reducible rfl)
    (try simp only [Act.put]); (try simp only [List.setIfInBounds_toArray]); (try simp only [List.set_cons_succ]); (try simp only [List.set_cons_zero])
    refine wpAnyH_take (i := 1) (oi := { dst := some 21, op := Op.move (Operand.tmp 1), type := 3, pos := "slices.go:232", after := #[], guard := none }) (v := ?vk8) rfl (by kernel_rfl) (by kernel_rfl) (by kernel_rfl) (fun _ _ _ h => h) (Or.inl ⟨by rfl, ?hk8⟩) trivial ?rk8
    case hk8 => (intro wz hSw; (try dsimp only at hSw); go_simp; try with_reducible rfl)
    (try simp only [Act.put]); (try simp only [List.setIfInBounds_toArray]); (try simp only [List.set_cons_succ]); (try simp only [List.set_cons_zero])
    refine wpAnyH_take (i := 2) (oi := { dst := some 22, op := Op.slice 38 (Operand.tmp 20) none (some (Operand.tmp 21)) none, type := 38, pos := "slices.go:232", after := #[{ on := 0, ground := Ground.data }, { on := 1, ground := Ground.data }], guard := none }) (v := ?vk9) rfl (by kernel_rfl) (by kernel_rfl) (by kernel_rfl) (fun _ _ _ h => h) (Or.inl ⟨by rfl, ?hk9⟩) trivial ?rk9
    case hk9 => (intro wz hSw; (try dsimp only at hSw); go_simp; try with_reducible rfl)
    (try simp only [Act.put]); (try simp only [List.setIfInBounds_toArray]); (try simp only [List.set_cons_succ]); (try simp only [List.set_cons_zero])
    refine wpAnyH_take (i := 3) (oi := { dst := some 23, op := Op.move (Operand.tmp 0), type := 38, pos := "slices.go:232", after := #[], guard := none }) (v := ?vk10) rfl (by kernel_rfl) (by kernel_rfl) (by kernel_rfl) (fun _ _ _ h => h) (Or.inl ⟨by rfl, ?hk10⟩) trivial ?rk10
    case hk10 => (intro wz hSw; (try dsimp only at hSw); go_simp; try with_reducible rfl)
    (try simp only [Act.put]); (try simp only [List.setIfInBounds_toArray]); (try simp only [List.set_cons_succ]); (try simp only [List.set_cons_zero])
    refine wpAnyH_take (i := 4) (oi := { dst := some 24, op := Op.move (Operand.tmp 2), type := 3, pos := "slices.go:232", after := #[], guard := none }) (v := ?vk11) rfl (by kernel_rfl) (by kernel_rfl) (by kernel_rfl) (fun _ _ _ h => h) (Or.inl ⟨by rfl, ?hk11⟩) trivial ?rk11
    case hk11 => (intro wz hSw; (try dsimp only at hSw); go_simp; try with_reducible rfl)
    (try simp only [Act.put]); (try simp only [List.setIfInBounds_toArray]); (try simp only [List.set_cons_succ]); (try simp only [List.set_cons_zero])
    refine wpAnyH_take (i := 5) (oi := { dst := some 25, op := Op.slice 38 (Operand.tmp 23) (some (Operand.tmp 24)) none none, type := 38, pos := "slices.go:232", after := #[{ on := 3, ground := Ground.data }, { on := 4, ground := Ground.data }], guard := none }) (v := ?vk12) rfl (by kernel_rfl) (by kernel_rfl) (by kernel_rfl) (fun _ _ _ h => h) (Or.inl ⟨by rfl, ?hk12⟩) trivial ?rk12
    case hk12 => (intro wz hSw; (try dsimp only at hSw); go_simp; try with_reducible rfl)
    (try simp only [Act.put]); (try simp only [List.setIfInBounds_toArray]); (try simp only [List.set_cons_succ]); (try simp only [List.set_cons_zero])
    refine wpAnyH_ready (rs := [6]) (by kernel_rfl) (by simp) ?_
    refine AllReadyH.cons (o := { dst := some 26, op := Op.call { callee := Callee.builtin Builtin.append, args := #[Operand.tmp 22, Operand.tmp 25], argTypes := #[38, 38] }, type := 38, pos := "slices.go:232", after := #[{ on := 2, ground := Ground.data }, { on := 5, ground := Ground.data }], guard := none }) rfl (fun K hK => ?_) AllReadyH.nil
    · skip
      refine step_app_run ?_ (.tmp 22) (.tmp 25) 38 38 ?_ (.slice (some ⟨g, 0, none⟩) i c) (.slice (some ⟨g, ((i + 1) * 3), none⟩) (n - (i + 1)) (c - (i + 1))) ?_ ?_ (HR.out _ (n - (i + 1)) ((i + 1) * 3) (c - (i + 1)) rfl (.inl rfl) _ (((Old.refl w).drew).block HG.out)) ?_
      · rfl
      · rfl
      · rfl
      · rfl
      refine hK.out _ _ trivial (fun _ => ?_)
      clear hK K
      (try simp only [Act.put]); (try simp only [List.setIfInBounds_toArray]); (try simp only [List.set_cons_succ]); (try simp only [List.set_cons_zero])
      refine wpAnyH_ready (rs := [7]) (by kernel_rfl) (by simp) ?_
      refine AllReadyH.cons (o := { dst := some 0, op := Op.assign (Operand.tmp 26), type := 38, pos := "slices.go:232", after := #[{ on := 6, ground := Ground.data }, { on := 6, ground := Ground.chain }, { on := 0, ground := Ground.phase }, { on := 1, ground := Ground.phase }, { on := 2, ground := Ground.phase }, { on := 3, ground := Ground.phase }, { on := 4, ground := Ground.phase }, { on := 5, ground := Ground.phase }, { on := 6, ground := Ground.phase }], guard := none }) rfl (fun K hK => ?_) AllReadyH.nil
      · skip
        go_simp
        refine hK.out _ _ trivial (fun _ => ?_)
        clear hK K
        (try simp only [Act.put]); (try simp only [List.setIfInBounds_toArray]); (try simp only [List.set_cons_succ]); (try simp only [List.set_cons_zero])
        refine wpAnyH_done (by kernel_rfl) ?_ _
        refine NoPanic.normal ?_
        have G1 : (w.drew.setRow g (cur1 cur X i)).heap[g]? = some (.cells (cur1 cur X i) 30 (0, 0)) := setRow_heap w.drew g _ _ _ _ (((Old.refl w).drew).block HG.out)
        have C1 := hid (show Chg [g] w (w.drew.setRow g (cur1 cur X i)) from (Chg.ofOld ((Old.refl w).drew)).trans (Chg.setRow w.drew g _ _ (by simp)))
        generalize w.drew.setRow g (cur1 cur X i) = w1 at *
        have hcl := HCl.out w1 G1
        have HO2 := hid (HO.out (w1.setRow g (cur2 (cur1 cur X i) m)) (setRow_heap w1 g _ _ _ _ G1))
        have C2 := hid (show Chg [g] w (w1.setRow g (cur2 (cur1 cur X i) m)) from C1.out.trans (Chg.setRow w1 g _ _ (by simp)))
        change _ = Result.ok (Value.tuple #[]) (w1.setRow g (cur2 (cur1 cur X i) m)) at hcl
        clear HCl HR HG HO HS G1 C1
        go_wp2
        go_ret
        exact ⟨rfl, HO2.out, C2.out⟩
end Go.Proofs.Ytejeihbcakojeaa
