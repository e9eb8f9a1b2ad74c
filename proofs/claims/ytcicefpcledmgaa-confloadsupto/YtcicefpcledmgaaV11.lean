/- What Bytes makes, Load takes; conditions: the configuration is right. -/
import Derived.Test.YtcicefpcledmgaaV10
namespace Go.Proofs.Ytcicefpcledmgaa
open Go.RowKit Go.Lib
set_option linter.unusedVariables false
set_option linter.unusedSimpArgs false
set_option maxRecDepth 20000
theorem tkN_at (z : Int) (h : -9223372036854775808 ≤ z ∧ z ≤ 9223372036854775807) (B : List Nat) : tkN (Pk.numL z ++ B) = some (z, B) := by
  obtain ⟨e1, e2⟩ := Pk.num_at_head z h.1 h.2 (Pk.gd (Pk.numL z ++ B)) (Pk.numL z ++ B).length (by simp) (fun i hi => Pk.gd_left _ _ _ hi)
  have hp := (Pk.num_len z h.1 h.2).1
  unfold tkN
  rw [e1, e2, if_neg (by omega), List.drop_left]
theorem tkC_at (n : Nat) (hn : n ≤ 7) (B : List Nat) : tkC 7 (Pk.numL (n : Int) ++ B) = some (n, B) := by
  unfold tkC
  rw [tkN_at _ (by omega)]
  simp only []
  rw [if_pos (by omega)]
  simp
theorem encV_pN (z : Int) : Pk.encV (pN z) = Pk.numL z := by simp [Pk.encV, pN]
theorem tkCs_at (B : List Nat) : ∀ L : List Int, (∀ x ∈ L, 0 ≤ x ∧ x ≤ 7) → tkCs L.length ((L.map pN).flatMap Pk.encV ++ B) = some (L, B)
  | [], _ => rfl
  | x :: L, h => by
    have hx := h x (List.mem_cons_self ..)
    obtain ⟨k, rfl⟩ := Int.eq_ofNat_of_zero_le hx.1
    show tkCs (L.length + 1) _ = _
    rw [tkCs_succ, List.map_cons, List.flatMap_cons, encV_pN, List.append_assoc, tkC_at k (by omega)]
    simp only []
    rw [tkCs_at B L (fun y hy => h y (List.mem_cons_of_mem _ hy))]
theorem tkM_at (L : List Int) (hl : L.length ≤ 7) (h : ∀ x ∈ L, 0 ≤ x ∧ x ≤ 7) (B : List Nat) : tkM ((mkP L).flatMap Pk.encV ++ B) = some (L, B) := by
  unfold tkM mkP
  rw [List.flatMap_cons, encV_pN, List.append_assoc, tkC_at _ hl]
  exact tkCs_at B L h
theorem riK_in (f : Nat → Int) (n : Nat) (h : riK f n = true) : ∀ x ∈ lsI f n, 1 ≤ x ∧ x ≤ 7 := by
  have q := riK_spec f n h
  intro x hx
  obtain ⟨i, hi, e⟩ := List.mem_iff_getElem.1 hx
  rw [lsI_len] at hi
  have := lsI_get f n i hi
  rw [List.getD_eq_getElem?_getD, List.getElem?_eq_getElem (by rw [lsI_len]; exact hi)] at this
  rw [← e]
  have q1 := q.1 i hi
  rw [← this] at q1
  exact q1
theorem anyK_congr {p q : Nat → Bool} : ∀ n, (∀ i, i < n → p i = q i) → anyK p n = anyK q n
  | 0, _ => rfl
  | n + 1, h => by unfold anyK; rw [anyK_congr n (fun i hi => h i (by omega)), h n (by omega)]
theorem riK_congr {f g : Nat → Int} : ∀ n, (∀ i, i < n → f i = g i) → riK f n = riK g n
  | 0, _ => rfl
  | n + 1, h => by
    unfold riK
    have e : lastK f n = lastK g n := by
      cases n with
      | zero => rfl
      | succ k => exact h k (by omega)
    rw [riK_congr n (fun i hi => h i (by omega)), h n (by omega), e]
theorem rightB_congr {n m : Nat} {f g f' g' : Nat → Int} (h1 : ∀ i, i < n → f i = f' i) (h2 : ∀ i, i < m → g i = g' i) : rightB n f m g = rightB n f' m g' := by
  unfold rightB
  rw [riK_congr n h1, riK_congr m h2, anyK_congr n (fun i hi => ?_)]
  show anyK _ m = anyK _ m
  rw [h1 i hi]
  exact anyK_congr m (fun j hj => by rw [h2 j hj])
theorem rightL_ls {n m : Nat} {f g : Nat → Int} : rightL (lsI f n) (lsI g m) = rightB n f m g := by
  unfold rightL
  rw [lsI_len, lsI_len]
  exact rightB_congr (fun i hi => lsI_get f n i hi) (fun i hi => lsI_get g m i hi)
theorem ld_bytes {n m : Nat} {f g : Nat → Int} (hr : rightB n f m g = true) : ldConf (bytesC (lsI f n) (lsI g m)) = some (lsI f n, lsI g m) := by
  obtain ⟨_, a, b, _⟩ := rightB_parts hr
  have e : tkConf (bytesC (lsI f n) (lsI g m)) = some (lsI f n, lsI g m, []) := by
    unfold tkConf bytesC encC
    rw [List.flatMap_append, tkM_at _ (by rw [lsI_len]; exact riK_few f n a) (fun x hx => by have := riK_in f n a x hx; omega)]
    simp only []
    have e2 := tkM_at (lsI g m) (by rw [lsI_len]; exact riK_few g m b) (fun x hx => by have := riK_in g m b x hx; omega) []
    rw [List.append_nil] at e2
    rw [e2]
    simp only []
    rw [if_pos (by rw [rightL_ls]; exact hr)]
  unfold ldConf
  rw [e]
end Go.Proofs.Ytcicefpcledmgaa
