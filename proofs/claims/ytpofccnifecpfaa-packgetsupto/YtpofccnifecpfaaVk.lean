/- Rows of values appended; conditions: the lengths fit. -/
import Derived.Test.YtpofccnifecpfaaVo
namespace Go.Proofs.Ytpofccnifecpfaa
open Go.RowKit
set_option linter.unusedVariables false
/-- The five cells of a value. -/
def pvc (p : PV) : Nat → Value | 0 => .int .i64 p.k | 1 => .int .i64 p.n | 2 => .float .f64 p.x | 3 => p.b | _ => .bool p.on
def vl (n : Nat) (f : Nat → PV) : List Value := (List.range (n * 5)).map fun j => pvc (f (j / 5)) (j % 5)
def catP (n : Nat) (f g : Nat → PV) : Nat → PV := fun i => if i < n then f i else g (i - n)
theorem vl_len (n : Nat) (f : Nat → PV) : (vl n f).length = n * 5 := by simp [vl]
theorem vl_get (n : Nat) (f : Nat → PV) (j : Nat) (h : j < n * 5) : (vl n f)[j]? = some (pvc (f (j / 5)) (j % 5)) := by simp [vl, h]
theorem vl_get_ge (n : Nat) (f : Nat → PV) (j : Nat) (h : n * 5 ≤ j) : (vl n f)[j]? = none := List.getElem?_eq_none (by rw [vl_len]; exact h)
theorem vl_cat (n m : Nat) (f g : Nat → PV) : vl n f ++ vl m g = vl (n + m) (catP n f g) := by
  apply List.ext_getElem?
  intro j
  by_cases h : j < n * 5
  · rw [List.getElem?_append_left (by rw [vl_len]; exact h), vl_get _ _ _ h, vl_get _ _ _ (by omega)]
    simp [catP, show j / 5 < n by omega]
  · rw [List.getElem?_append_right (by rw [vl_len]; omega), vl_len]
    by_cases k : j < (n + m) * 5
    · rw [vl_get _ _ _ (by omega), vl_get _ _ _ k]
      have e1 : (j - n * 5) / 5 = j / 5 - n := by omega
      have e2 : (j - n * 5) % 5 = j % 5 := by omega
      simp [catP, show ¬ j / 5 < n by omega, e1, e2]
    · rw [vl_get_ge _ _ _ (by omega), vl_get_ge _ _ _ (by omega)]
theorem pvc_one {w : World} {p : PV} (h : PV.In w p) (j : Nat) : (pvc p j).oneCell' = true := by
  obtain ⟨a, c, hb⟩ := PV.slice h
  unfold pvc
  split <;> simp [Value.oneCell', hb]
theorem vl_one (w : World) (n : Nat) (f : Nat → PV) (h : ∀ i, i < n → PV.In w (f i)) : ∀ u ∈ vl n f, u.oneCell' = true := by
  intro u hu
  simp only [vl, List.mem_map, List.mem_range] at hu
  obtain ⟨j, hj, rfl⟩ := hu
  exact pvc_one (h (j / 5) (by omega)) _
/-- The slice value v owns n values among the call's own blocks. -/
def OwnV (base : Nat) (w : World) (v : Value) (n : Nat) (f : Nat → PV) : Prop := w.ownsRow base 35 5 v n (vl n f)
theorem OwnV.empty {base g : Nat} {w : World} {f : Nat → PV} (hb : base ≤ w.heap.size) (hg : w.heap.size = g) : OwnV base (w.alloc (.cells #[] 35)) (.slice (some ⟨g, 0, none⟩) 0 0) 0 f := by
  subst hg
  exact World.ownsRow_made w #[] 0 hb (by unfold maxLen; omega) rfl
theorem OwnV.shape {base : Nat} {w : World} {v : Value} {n : Nat} {f : Nat → PV} (h : OwnV base w v n f) : ∃ a c, v = .slice a n c ∧ ∀ i, i < n → ∃ b off, a = some ⟨b, off, none⟩ ∧ PV.At w b (off + i * 5) (f i) := by
  have h2 := h
  rcases h2.2 with ⟨hv, hn⟩ | ⟨g, cap, cur, hv, hb, hg, hnc, hcm, hcs, htk⟩
  · subst hn; exact ⟨none, 0, hv, fun i hi => by omega⟩
  · refine ⟨_, _, hv, fun i hi => ⟨g, 0, rfl, ?_⟩⟩
    subst hv
    have at_ : ∀ j, j < 5 → w.cell? ⟨g, 0 + i * 5 + j, none⟩ = some (pvc (f i) j) := by
      intro j hj
      rw [Nat.zero_add, World.ownsRow.cellAt h (i * 5 + j) (by omega), vl_get _ _ _ (by omega)]
      rw [show (i * 5 + j) / 5 = i by omega, show (i * 5 + j) % 5 = j by omega]
    exact ⟨at_ 0 (by omega), at_ 1 (by omega), at_ 2 (by omega), at_ 3 (by omega), at_ 4 (by omega)⟩
/-- 'append(s, x...)' of values, s the call's own, x any row of values. -/
theorem wp_appV {ops : Array Oper} {rest : List Oper} {o : Oper} {a : Act} {Q : Exit → Act → World → Prop} {w : World} (hgd : o.guard = none) (s x : Operand)
    (ho : o.op = .call { callee := .builtin .append, args := #[s, x], argTypes := #[25, 25] }) (base : Nat) (v u : Value) (n m : Nat) (f g : Nat → PV)
    (hs : a.eval s = v) (hx : a.eval x = u) (hown : OwnV base w v n f) (hrow : VRow w u m g) (hb : n + m ≤ 4194304) (hbase : base ≤ w.heap.size)
    (h : ∀ v' w', OwnV base w' v' (n + m) (catP n f g) → Below base w w' → wpList Try.prog ops Q rest (a.put o.dst v') w') : wpList Try.prog ops Q (o :: rest) a w := by
  obtain ⟨i0, hi, hz0, hz1, hz2⟩ := info_parts infoVal
  have bel : ∀ w', w.grownBy w' v.ownBlock → Below base w w' := fun w' hg => Below.grown (Below.refl _ _) hg hbase (fun k hk => (World.ownsRow.lt hown k hk).1)
  have one : ∀ (ad : Addr) (c : Nat), u = .slice (some ad) m c → (∀ i, i < m → PV.In w (g i)) → (∀ j, j < m * 5 → w.cell? (ad.add j) = some (pvc (g (j / 5)) (j % 5))) → wpList Try.prog ops Q (o :: rest) a w := by
    intro ad c hu hin hc
    have news : ∀ j t, (vl m g)[j]? = some t → w.cell? (ad.add j) = some t := by
      intro j t hj
      by_cases hjm : j < m * 5
      · rw [vl_get _ _ _ hjm] at hj; cases hj; exact hc j hjm
      · rw [vl_get_ge _ _ _ (by omega)] at hj; cases hj
    refine wpList_append_own w hgd s x 25 ho base 35 i0 _ 5 56 Try.underlying25 hi hz0 hz1 hz2 rfl (by decide) v n (vl n f) hs hown ad m c (vl m g) (hx.trans hu) (vl_len _ _) news (vl_one w m g hin) (by unfold maxLen; omega) (by omega) hbase ?_
    intro v' w' h1 h2 h3
    rw [vl_cat] at h1
    exact h v' w' h1 (bel w' h2)
  rcases hrow with ⟨rfl, ad, c, rfl, hz⟩ | ⟨hm, b, off, cap, rfl, hc, _⟩
  · cases ad with
    | none =>
      obtain rfl := hz rfl
      refine wpList_append_own_none hgd s x 25 ho base 35 i0 5 Try.underlying25 hi v n (vl n f) hs hown hx ?_
      refine h v w ?_ (Below.refl _ _)
      unfold OwnV
      rw [← vl_cat]
      simpa [OwnV, vl] using hown
    | some ad => exact one ad c rfl (fun i hi => by omega) (fun j hj => by omega)
  · refine one ⟨b, off, none⟩ cap rfl (fun i hi => (hc i hi).2) (fun j hj => ?_)
    rw [Go.WideShapes.add_plain]
    obtain ⟨h0, h1, h2, h3, h4⟩ := (hc (j / 5) (by omega)).1
    have hj5 : j % 5 < 5 := Nat.mod_lt _ (by omega)
    have e : off + j = off + j / 5 * 5 + j % 5 := by omega
    rw [e]
    generalize j % 5 = r at *
    match r, hj5 with
    | 0, _ => exact h0
    | 1, _ => exact h1
    | 2, _ => exact h2
    | 3, _ => exact h3
    | 4, _ => exact h4
/-- wp_app where the operation has a guard that is met. -/
theorem wp_app_g {ops : Array Oper} {rest : List Oper} {o : Oper} {a : Act} {Q : Exit → Act → World → Prop} {w : World} (hw : Region.wanted o (yielded ops a.tmps) = true) (s x : Operand)
    (ho : o.op = .call { callee := .builtin .append, args := #[s, x], argTypes := #[22, 22] }) (base : Nat) (v u : Value) (n m : Nat) (X Y : Nat → Nat)
    (hs : a.eval s = v) (hx : a.eval x = u) (hown : OwnB base w v n X) (hrow : ByRow w u m Y) (hb : n + m ≤ 140737488355328) (hbase : base ≤ w.heap.size)
    (h : ∀ v' w', OwnB base w' v' (n + m) (cat n X Y) → Grew w v w' v' → Below base w w' → wpList Try.prog ops Q rest (a.put o.dst v') w') : wpList Try.prog ops Q (o :: rest) a w := by
  unfold wpList
  rw [if_pos hw]
  left
  have h2 := step_app (o := { o with guard := none }) (ops := ops) (a := a) (w := w) (K := wpList Try.prog ops Q rest) (Q := Q) (E := True) rfl s x ho base v u n m X Y hs hx hown hrow hb hbase h
  rw [if_pos (by simp [Region.wanted])] at h2
  exact h2
/-- What Put makes of rows joined. -/
theorem firstE_cat (f g : Nat → PV) (n : Nat) : ∀ k, k ≤ n → firstE (catP n f g) k = firstE f k := by
  intro k hk
  induction k with
  | zero => rfl
  | succ k ih => simp [firstE, ih (by omega), catP, show k < n by omega]
theorem firstE_cat2 (f g : Nat → PV) (n : Nat) : ∀ m, firstE (catP n f g) (n + m) = if firstE f n = 0 then firstE g m else firstE f n := by
  intro m
  induction m with
  | zero => rw [Nat.add_zero, firstE_cat f g n n (Nat.le_refl _)]; by_cases h : firstE f n = 0 <;> simp [h, firstE]
  | succ m ih =>
    rw [← Nat.add_assoc]
    by_cases h : firstE f n = 0
    · simp [firstE, ih, h, catP, show ¬ n + m < n by omega]
    · simp [firstE, ih, h]
theorem putL_cat (enc : PV → List Nat) (f g : Nat → PV) (n : Nat) : ∀ k, k ≤ n → putL enc (catP n f g) k = putL enc f k := by
  intro k hk
  induction k with
  | zero => rfl
  | succ k ih => simp [putL, ih (by omega), catP, show k < n by omega]
theorem putL_cat2 (enc : PV → List Nat) (f g : Nat → PV) (n : Nat) : ∀ m, putL enc (catP n f g) (n + m) = putL enc f n ++ putL enc g m := by
  intro m
  induction m with
  | zero => rw [Nat.add_zero, putL_cat enc f g n n (Nat.le_refl _)]; simp [putL]
  | succ m ih =>
    rw [← Nat.add_assoc]
    simp [putL, ih, catP, show ¬ n + m < n by omega]
end Go.Proofs.Ytpofccnifecpfaa
