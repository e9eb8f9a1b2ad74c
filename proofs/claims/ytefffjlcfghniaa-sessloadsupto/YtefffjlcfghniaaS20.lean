/- Bytes that sess.Load takes are a table's bytes; plain. -/
import Derived.Test.YtefffjlcfghniaaS19
import Derived.Test.YtefffjlcfghniaaPkH
namespace Go.Proofs.Ytefffjlcfghniaa
open Go.RowKit Go.Lib
set_option linter.unusedVariables false
set_option linter.unusedSimpArgs false
set_option maxRecDepth 20000
/-- All are bytes. -/
def Byt (L : List Nat) : Prop := ∀ x ∈ L, x < 256
theorem byL_gd (L : List Nat) (k : Nat) (hk : k ≤ L.length) : Pk.byL k (Pk.gd L) = L.take k := by
  apply List.ext_getElem?
  intro i
  unfold Pk.byL Pk.gd
  by_cases h : i < k
  · rw [List.getElem?_take, if_pos h]
    simp [h, List.getElem?_eq_getElem (show i < L.length by omega)]
  · rw [List.getElem?_take, if_neg h]
    simp [h]
theorem tkN_form {L B : List Nat} {z : Int} (hL : Byt L) (h : tkN L = some (z, B)) : L = Pk.numL z ++ B ∧ N64 z ∧ Byt B := by
  unfold tkN at h
  split at h
  · cases h
  · rename_i q
    cases h
    have hx : ∀ i, i < L.length → Pk.gd L i < 256 := fun i hi => by
      unfold Pk.gd
      rw [List.getD_eq_getElem?_getD, List.getElem?_eq_getElem hi]
      exact hL _ (List.getElem_mem hi)
    have h1 := Pk.num_back (Pk.gd L) L.length hx q
    have h2 : Pk.lnK (Pk.gd L) L.length ≤ L.length := Pk.ln_le (Pk.gd L) L.length 11 0
    have h3 := Pk.lnV_in (Pk.gd L) L.length hx
    rw [h1, byL_gd L _ h2]
    exact ⟨(List.take_append_drop _ _).symm, h3, fun x hx => hL x (List.mem_of_mem_drop hx)⟩
theorem tkW_form {L B : List Nat} {l m z : Int} (hL : Byt L) (h : tkW l m L = some (z, B)) : L = Pk.numL z ++ B ∧ (l ≤ z ∧ z ≤ m) ∧ Byt B := by
  obtain ⟨h1, _⟩ := tkW_at h
  obtain ⟨e, _, b⟩ := tkN_form hL h1
  exact ⟨e, tkW_rng h, b⟩
theorem tkC_form {L B : List Nat} {most n : Nat} (hL : Byt L) (h : tkC most L = some (n, B)) : L = Pk.numL ((n : Nat) : Int) ++ B ∧ n ≤ most ∧ Byt B := by
  unfold tkC at h
  split at h
  · cases h
  · rename_i z B' e
    split at h
    · rename_i q
      cases h
      obtain ⟨e1, _, b⟩ := tkN_form hL e
      rw [show ((z.toNat : Nat) : Int) = z by omega]
      exact ⟨e1, by omega, b⟩
    · cases h
theorem tkV_form {L B : List Nat} {c m : Int} (hL : Byt L) (h : tkV L = some ((c, m), B)) : L = Pk.numL c ++ (Pk.numL m ++ B) ∧ ((0 ≤ c ∧ c ≤ 999) ∧ 0 ≤ m ∧ m ≤ 1099511627776) ∧ Byt B := by
  unfold tkV at h
  split at h
  · cases h
  · rename_i c' A e
    split at h
    · cases h
    · rename_i m' B' e2
      cases h
      obtain ⟨h1, r1, b1⟩ := tkW_form hL e
      obtain ⟨h2, r2, b2⟩ := tkW_form b1 e2
      exact ⟨by rw [h1, h2], ⟨r1, r2⟩, b2⟩
/-- Items that were taken off: rising behind the last one, up to the highest; the last of them. -/
theorem tkIs_form : ∀ (k : Nat) {la hi e : Int} {L B : List Nat} {xs : List It}, Byt L → tkIs k la hi L = some (xs, e, B) → L = numB (itN xs) ++ B ∧ xs.length = k ∧ Rise xs ∧ (∀ x ∈ xs, (la < x.n ∧ x.n ≤ hi) ∧ (0 ≤ x.c ∧ x.c ≤ 999) ∧ 0 ≤ x.m ∧ x.m ≤ 1099511627776) ∧ (if xs = [] then e = la else hiL xs = e) ∧ Byt B
  | 0, la, hi, e, L, B, xs, hL, h => by
    cases h
    exact ⟨by simp [itN, numB], rfl, List.Pairwise.nil, fun x hx => by (cases hx), by simp, hL⟩
  | k + 1, la, hi, e, L, B, xs, hL, h => by
    rw [tkIs_succ] at h
    split at h
    · cases h
    · rename_i z A e1
      split at h
      · cases h
      · rename_i c m C e2
        split at h
        · cases h
        · rename_i ys e' D e3
          cases h
          obtain ⟨h1, r1, b1⟩ := tkW_form hL e1
          obtain ⟨h2, r2, b2⟩ := tkV_form b1 e2
          obtain ⟨h3, l3, s3, m3, t3, b3⟩ := tkIs_form k b2 e3
          refine ⟨?_, by simp [l3], List.pairwise_cons.2 ⟨fun y hy => (m3 y hy).1.1, s3⟩, fun x hx => ?_, ?_, b3⟩
          · rw [h1, h2, h3]
            simp [itN, numB, List.append_assoc]
          · rcases List.mem_cons.1 hx with rfl | hx
            · exact ⟨⟨by show la < z; omega, r1.2⟩, r2⟩
            · have := m3 x hx
              exact ⟨⟨by omega, this.1.2⟩, this.2⟩
          · rw [if_neg (by simp)]
            cases ys with
            | nil => rw [if_pos rfl] at t3; rw [t3]; simp [hiL, atI]
            | cons y ys =>
              rw [if_neg (by simp)] at t3
              rw [← t3]
              unfold hiL
              rw [if_neg (by simp), if_neg (by simp)]
              simp [atI]
theorem tkK_form {L B : List Nat} {hi : Int} {xs : List It} (hL : Byt L) (h : tkK L = some (hi, xs, B)) : L = Pk.numL (hiL xs) ++ (Pk.numL ((xs.length : Nat) : Int) ++ (numB (itN xs) ++ B)) ∧ Kp xs ∧ Byt B := by
  unfold tkK at h
  split at h
  · cases h
  · rename_i hi' A e1
    split at h
    · cases h
    · rename_i n C e2
      split at h
      · cases h
      · rename_i ys e' D e3
        split at h
        · rename_i q
          cases h
          subst q
          obtain ⟨h1, r1, b1⟩ := tkW_form hL e1
          obtain ⟨h2, r2, b2⟩ := tkC_form b1 e2
          obtain ⟨h3, l3, s3, m3, t3, b3⟩ := tkIs_form n b2 e3
          have hne : xs ≠ [] := fun q => by rw [if_pos q] at t3; omega
          rw [if_neg hne] at t3
          refine ⟨by rw [h1, h2, h3, t3, l3], ⟨hne, s3, fun x hx => ?_, fun x hx => ?_, by omega, fun x hx => (m3 x hx).2⟩, b3⟩
          · have := (m3 x hx).1; omega
          · have := (m3 x hx).1; rw [t3]; omega
        · cases h
/-- What is told of one session. -/
def secP (p : Int × List It) : List Int := [p.1, hiL p.2, ((p.2.length : Nat) : Int)] ++ itN p.2
theorem tkSs_form : ∀ (k : Nat) {la : Int} {L B : List Nat} {ss : List (Int × List It)}, Byt L → tkSs k la L = some (ss, B) → L = numB (ss.flatMap secP) ++ B ∧ ss.length = k ∧ ss.Pairwise (fun p q => p.1 < q.1) ∧ (∀ p ∈ ss, la < p.1 ∧ p.1 ≤ 1099511627776 ∧ Kp p.2) ∧ Byt B
  | 0, la, L, B, ss, hL, h => by
    cases h
    exact ⟨by simp [numB], rfl, List.Pairwise.nil, fun x hx => by (cases hx), hL⟩
  | k + 1, la, L, B, ss, hL, h => by
    rw [tkSs_succ] at h
    split at h
    · cases h
    · rename_i id A e1
      split at h
      · cases h
      · rename_i hi xs C e2
        split at h
        · cases h
        · rename_i ys D e3
          cases h
          obtain ⟨h1, r1, b1⟩ := tkW_form hL e1
          obtain ⟨h2, r2, b2⟩ := tkK_form b1 e2
          obtain ⟨h3, l3, s3, m3, b3⟩ := tkSs_form k b2 e3
          refine ⟨?_, by simp [l3], List.pairwise_cons.2 ⟨fun y hy => (m3 y hy).1, s3⟩, fun x hx => ?_, b3⟩
          · rw [h1, h2, h3, List.flatMap_cons, numB_app]
            simp [secP, numB, List.append_assoc]
          · rcases List.mem_cons.1 hx with rfl | hx
            · exact ⟨by show la < id; omega, r1.2, r2⟩
            · have := m3 x hx
              exact ⟨by omega, this.2⟩
theorem fold_get : ∀ (ss : List (Int × List It)) (L0 : Int → List It), (∀ k, k ∉ ss.map (·.1) → ss.foldl (fun L p => putL L p.1 p.2) L0 k = L0 k) ∧ (ss.Pairwise (fun p q => p.1 < q.1) → ∀ p ∈ ss, ss.foldl (fun L p => putL L p.1 p.2) L0 p.1 = p.2)
  | [], L0 => ⟨fun k _ => rfl, fun _ p hp => by cases hp⟩
  | q :: ss, L0 => by
    obtain ⟨h1, h2⟩ := fold_get ss (putL L0 q.1 q.2)
    refine ⟨fun k hk => ?_, fun hp p hm => ?_⟩
    · rw [List.map_cons, List.mem_cons, not_or] at hk
      rw [List.foldl_cons, h1 k hk.2]
      unfold putL
      rw [if_neg hk.1]
    · have hp' := List.pairwise_cons.1 hp
      rw [List.foldl_cons]
      rcases List.mem_cons.1 hm with rfl | hm
      · rw [h1 p.1 (fun z => by
          obtain ⟨r, hr, e⟩ := List.mem_map.1 z
          have := hp'.1 r hr
          omega)]
        unfold putL
        rw [if_pos rfl]
      · exact h2 hp'.2 p hm
theorem flat_congr {f g : Int × List It → List Int} : ∀ (ss : List (Int × List It)), (∀ p ∈ ss, f p = g p) → ss.flatMap f = ss.flatMap g
  | [], _ => rfl
  | q :: ss, h => by rw [List.flatMap_cons, List.flatMap_cons, h q (by simp), flat_congr ss (fun p hp => h p (List.mem_cons_of_mem _ hp))]
/-- Bytes that Load takes are the bytes of the table that it makes of them. -/
theorem ldT_form {L : List Nat} {ss : List (Int × List It)} (hL : Byt L) (h : ldT L = some ss) : L = numB (tabN (tbl ss) (ss.map (·.1)) (ss.map (·.1)).length) ∧ (ss.map (·.1)).length ≤ 16 ∧ (ss.map (·.1)).Pairwise (· < ·) ∧ (∀ z ∈ ss.map (·.1), 1 ≤ z ∧ z ≤ 1099511627776) ∧ (∀ z ∈ ss.map (·.1), Kp (tbl ss z)) ∧ ∀ z, z ∉ ss.map (·.1) → tbl ss z = [] := by
  unfold ldT at h
  split at h
  · rename_i ss' e
    cases h
    unfold tkT at e
    split at e
    · cases e
    · rename_i n A e1
      obtain ⟨h1, r1, b1⟩ := tkC_form hL e1
      obtain ⟨h3, l3, s3, m3, b3⟩ := tkSs_form n b1 e
      have hg := (fold_get ss (fun _ => [])).2 s3
      refine ⟨?_, by simp [l3]; omega, List.pairwise_map.2 s3, fun z hz => ?_, fun z hz => ?_, fun z hz => (fold_get ss (fun _ => [])).1 z hz⟩
      · unfold tabN
        rw [List.take_length, numB_cons, List.length_map, l3, h1, h3, List.append_nil, List.flatMap_map]
        congr 2
        refine flat_congr _ fun p hp => ?_
        unfold secP secN
        rw [show tbl ss p.1 = p.2 from hg p hp]
      · obtain ⟨p, hp, rfl⟩ := List.mem_map.1 hz
        have := m3 p hp
        exact ⟨by omega, this.2.1⟩
      · obtain ⟨p, hp, rfl⟩ := List.mem_map.1 hz
        rw [show tbl ss p.1 = p.2 from hg p hp]
        exact (m3 p hp).2.2
  · cases h
end Go.Proofs.Ytefffjlcfghniaa
