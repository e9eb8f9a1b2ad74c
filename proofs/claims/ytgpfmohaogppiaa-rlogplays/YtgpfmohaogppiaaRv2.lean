/- What bytes say, plainly: of what they are a configuration's; no condition. -/
import Derived.Test.YtgpfmohaogppiaaRv1
namespace Go.Proofs.Ytgpfmohaogppiaa
open Go.RowKit Go.Lib
set_option linter.unusedVariables false
set_option linter.unusedSimpArgs false
set_option maxRecDepth 20000
/-- The numbers that are read off bytes one by one, and what is left behind them. -/
def Reads : List Int → List Nat → List Nat → Prop
  | [], b, r => b = r
  | z :: zs, b, r => ∃ n B, tkC 7 b = some (n, B) ∧ z = (n : Int) ∧ Reads zs B r
theorem Reads.app : ∀ {xs ys : List Int} {b r s : List Nat}, Reads xs b r → Reads ys r s → Reads (xs ++ ys) b s
  | [], _, _, _, _, h, k => by cases h; exact k
  | _ :: _, _, _, _, _, ⟨n, B, e, z, h⟩, k => ⟨n, B, e, z, h.app k⟩
theorem Reads.snoc {xs : List Int} {b r B : List Nat} {n : Nat} (h : Reads xs b r) (e : tkC 7 r = some (n, B)) : Reads (xs ++ [(n : Int)]) b B := h.app ⟨n, B, e, rfl, rfl⟩
theorem Reads.split : ∀ {xs ys : List Int} {b s : List Nat}, Reads (xs ++ ys) b s → ∃ r, Reads xs b r ∧ Reads ys r s
  | [], _, b, _, h => ⟨b, rfl, h⟩
  | _ :: _, _, _, _, ⟨n, B, e, z, h⟩ => by
    obtain ⟨r, h1, h2⟩ := h.split
    exact ⟨r, ⟨n, B, e, z, h1⟩, h2⟩
theorem tkC_nil : tkC 7 [] = none := by
  have : tkN [] = none := by
    unfold tkN
    rw [if_pos]
    have h := Pk.ln_stop (Pk.gd []) 0 11 0 (by omega)
    unfold Pk.lnK
    rw [List.length_nil, h]
  unfold tkC
  rw [this]
theorem Reads.det : ∀ {xs ys : List Int} {b r s : List Nat}, Reads xs b r → Reads ys b s → tkC 7 s = none → ∃ t, ys = xs ++ t ∧ Reads t r s
  | [], ys, _, _, _, h, k, _ => by cases h; exact ⟨ys, rfl, k⟩
  | x :: xs, [], b, _, s, ⟨n, B, e, z, h⟩, k, q => by
    have k' : b = s := k
    subst k'
    rw [q] at e
    cases e
  | x :: xs, y :: ys, _, _, _, ⟨n, B, e, z, h⟩, ⟨n', B', e', z', h'⟩, q => by
    rw [e] at e'
    cases e'
    obtain ⟨t, rfl, ht⟩ := h.det h' q
    exact ⟨t, by rw [z, z']; rfl, ht⟩
theorem Reads.stuck {t : List Int} {r : List Nat} (h : Reads t [] r) : t = [] ∧ r = [] := by
  cases t with
  | nil => exact ⟨rfl, h.symm⟩
  | cons z zs =>
    obtain ⟨n, B, e, _⟩ := h
    rw [tkC_nil] at e
    cases e
theorem Reads.small : ∀ {xs : List Int} {b r : List Nat}, Reads xs b r → ∀ z ∈ xs, ∃ n : Nat, n ≤ 7 ∧ z = (n : Int)
  | [], _, _, _ => fun z hz => by cases hz
  | x :: xs, _, _, ⟨n, B, e, q, h⟩ => fun z hz => by
    rcases List.mem_cons.1 hz with rfl | hz
    · exact ⟨n, tkC_le e, q⟩
    · exact h.small z hz
theorem tkCs_reads : ∀ (k : Nat) (b r : List Nat) (zs : List Int), tkCs k b = some (zs, r) ↔ zs.length = k ∧ Reads zs b r
  | 0, b, r, zs => by
    show some ([], b) = some (zs, r) ↔ _
    constructor
    · intro h; cases h; exact ⟨rfl, rfl⟩
    · rintro ⟨h1, h2⟩
      obtain rfl : zs = [] := List.length_eq_zero_iff.1 h1
      have h3 : b = r := h2
      rw [h3]
  | k + 1, b, r, zs => by
    rw [tkCs_succ]
    constructor
    · intro h
      split at h
      · cases h
      · rename_i n B e
        split at h
        · cases h
        · rename_i ns C e2
          cases h
          obtain ⟨h1, h2⟩ := (tkCs_reads k B r ns).1 e2
          exact ⟨by rw [List.length_cons, h1], n, B, e, rfl, h2⟩
    · rintro ⟨h1, h2⟩
      cases zs with
      | nil => simp at h1
      | cons z zs =>
        obtain ⟨n, B, e, rfl, h3⟩ := h2
        rw [e]
        simp only
        rw [(tkCs_reads k B r zs).2 ⟨by simpa using h1, h3⟩]
theorem tkM_reads (b r : List Nat) (a : List Int) : tkM b = some (a, r) ↔ Reads ((a.length : Int) :: a) b r := by
  unfold tkM
  constructor
  · intro h
    split at h
    · cases h
    · rename_i n B e
      obtain ⟨h1, h2⟩ := (tkCs_reads n B r a).1 h
      exact ⟨n, B, e, by rw [h1], h2⟩
  · rintro ⟨n, B, e, h1, h2⟩
    rw [e]
    exact (tkCs_reads n B r a).2 ⟨by omega, h2⟩
theorem ld_reads (b : List Nat) (a c : List Int) : ldConf b = some (a, c) ↔ Reads (((a.length : Int) :: a) ++ ((c.length : Int) :: c)) b [] ∧ rightL a c = true := by
  unfold ldConf tkConf
  constructor
  · intro h
    split at h
    · rename_i a' c' e
      cases h
      split at e
      · cases e
      · rename_i a2 B e1
        split at e
        · cases e
        · rename_i c2 C e2
          split at e
          · rename_i hr
            cases e
            exact ⟨((tkM_reads _ _ _).1 e1).app ((tkM_reads _ _ _).1 e2), hr⟩
          · cases e
    · cases h
  · rintro ⟨h1, h2⟩
    obtain ⟨r, k1, k2⟩ := h1.split
    rw [(tkM_reads b r a).2 k1]
    simp only
    rw [(tkM_reads r [] c).2 k2]
    simp only
    rw [if_pos h2]
theorem ld_stuck {b r : List Nat} {ns : List Int} (h : Reads ns b r) (hs : tkC 7 r = none) (hr : r ≠ []) : ldConf b = none := by
  cases e : ldConf b with
  | none => rfl
  | some p =>
    obtain ⟨a, c⟩ := p
    obtain ⟨h1, _⟩ := (ld_reads b a c).1 e
    obtain ⟨t, _, ht⟩ := h1.det h hs
    exact absurd ht.stuck.2 hr
theorem ld_end {b : List Nat} {ns : List Int} (h : Reads ns b []) (a c : List Int) : ldConf b = some (a, c) ↔ ns = ((a.length : Int) :: a) ++ ((c.length : Int) :: c) ∧ rightL a c = true := by
  rw [ld_reads]
  constructor
  · rintro ⟨h1, h2⟩
    obtain ⟨t, e, ht⟩ := h1.det h tkC_nil
    rw [ht.stuck.1, List.append_nil] at e
    exact ⟨e, h2⟩
  · rintro ⟨rfl, h2⟩
    exact ⟨h, h2⟩
theorem shape_of {ns a c : List Int} (h : ns = ((a.length : Int) :: a) ++ ((c.length : Int) :: c)) : gI ns 0 = a.length ∧ gI ns (a.length + 1) = c.length ∧ ns.length = a.length + 2 + c.length := by
  subst h
  refine ⟨rfl, ?_, by simp; omega⟩
  unfold gI
  rw [List.getD_eq_getElem?_getD, List.getElem?_append_right (by simp)]
  simp
theorem of_shape {ns : List Int} {n0 n1 : Nat} (h0 : gI ns 0 = n0) (h1 : gI ns (n0 + 1) = n1) (hl : ns.length = n0 + 2 + n1) : ∃ a c : List Int, a.length = n0 ∧ c.length = n1 ∧ ns = ((a.length : Int) :: a) ++ ((c.length : Int) :: c) ∧ (∀ i, i < n0 → gI a i = gI ns (i + 1)) ∧ (∀ i, i < n1 → gI c i = gI ns (i + (n0 + 2))) := by
  cases ns with
  | nil => simp at hl; omega
  | cons z t =>
    have hz : z = (n0 : Int) := h0
    have ht : t.length = n0 + 1 + n1 := by simp at hl; omega
    have hd : t.drop n0 = t[n0]'(by omega) :: t.drop (n0 + 1) := List.drop_eq_getElem_cons (by omega)
    have hg : t[n0]'(by omega) = (n1 : Int) := by
      have : gI (z :: t) (n0 + 1) = t[n0]'(by omega) := by
        unfold gI
        rw [List.getD_eq_getElem?_getD, List.getElem?_cons_succ, List.getElem?_eq_getElem (by omega)]
        rfl
      rw [← this]
      exact h1
    have la : (t.take n0).length = n0 := by rw [List.length_take]; omega
    have lc : (t.drop (n0 + 1)).length = n1 := by rw [List.length_drop]; omega
    refine ⟨t.take n0, t.drop (n0 + 1), la, lc, ?_, fun i hi => ?_, fun i hi => ?_⟩
    · rw [la, lc, hz, List.cons_append]
      congr 1
      rw [← hg, ← hd, List.take_append_drop]
    · unfold gI
      rw [List.getD_eq_getElem?_getD, List.getD_eq_getElem?_getD, List.getElem?_cons_succ, List.getElem?_take, if_pos hi]
    · unfold gI
      rw [List.getD_eq_getElem?_getD, List.getD_eq_getElem?_getD, show i + (n0 + 2) = (i + (n0 + 1)) + 1 by omega, List.getElem?_cons_succ, List.getElem?_drop]
      congr 2
      omega
end Go.Proofs.Ytgpfmohaogppiaa
