/- What the tables say of the transactions that are in them, and what they keep; no condition. -/
import Derived.Test.YtgeinnaljlajoaaGreatCeg
namespace Go.Proofs.YtgeinnaljlajoaaGreat
open Go.RowKit Go.Lib
set_option linter.unusedVariables false
set_option linter.unusedSimpArgs false
set_option maxRecDepth 20000
def rdK (u : Su) (k : Nat) : Bool := u.R.any (fun x => keyEq x k)
theorem keyEq_iff (x k : Nat) : keyEq x k = true ↔ Fl.nan x = false ∧ Fl.nan k = false ∧ Fl.code k = Fl.code x := by
 unfold keyEq
 cases Fl.nan x <;> cases Fl.nan k <;> simp
theorem readU_iff (u : Su) (k : Nat) : readU u k = true ↔ rdK u k = true ∨ ∃ p ∈ u.P, Fl.hasS p k = true := by
 unfold readU rdK
 rw [Bool.or_eq_true]
 exact or_congr Iff.rfl List.any_eq_true
theorem nan_of {x k : Nat} (hx : Fl.W x) (n : Fl.nan x = false) (h : Fl.code x = Fl.code k) : Fl.nan k = false := by
 cases e : Fl.nan k with
 | false => rfl
 | true =>
  have := Fl.code_pos x hx n
  rw [h, Fl.code_nan k e] at this
  omega
theorem hasS_code {s : Sp} {x k : Nat} (h : Fl.code x = Fl.code k) : Fl.hasS s x = Fl.hasS s k := by
 unfold Fl.hasS Fl.hasF
 rw [h]
theorem hasB_code {a b : Nat} {p q : Bool} {x k : Nat} (h : Fl.code x = Fl.code k) : Py.hasB a b p q x = Py.hasB a b p q k := by
 unfold Py.hasB Fl.hasF
 rw [h]
theorem form_cs {a b : Nat} (h : Fl.IsForm a b false) : Fl.csE a b false false = false ∧ Fl.csU a b false false = a ∧ Fl.csV a b false false = b := by
 obtain ⟨wa, wb, -, h4⟩ := h
 obtain ⟨ca, cb, na, nb, le⟩ := h4 rfl
 have e : Fl.csE a b false false = false := by
  unfold Fl.csE Fl.loB Fl.hiB
  simp [na, nb, ca, cb]
  exact le
 refine ⟨e, ?_, ?_⟩
 ·unfold Fl.csU Fl.loB; rw [e]; simp [ca]
 ·unfold Fl.csV Fl.hiB; rw [e]; simp [cb]
theorem hasB_form (a b : Nat) (p q : Bool) (ha : Fl.W a) (hb : Fl.W b) (he : Fl.csE a b p q = false) (k : Nat) : Py.hasB (Fl.csU a b p q) (Fl.csV a b p q) false false k = Fl.hasS ⟨a, b, p, q⟩ k := by
 have f := Fl.cs_isForm a b p q ha hb
 rw [he] at f
 obtain ⟨e1, e2, e3⟩ := form_cs f
 unfold Py.hasB Fl.hasS
 rw [e1, e2, e3]
 dsimp only
 rw [he]
theorem vput_keep (x : Vx.It) : ∀ {L : List Vx.It} {y : Vx.It}, y ∈ L → ∃ z ∈ Vx.putL x L, z.k = y.k ∧ y.n ≤ z.n
 | [], y, h => by cases h
 | w :: t, y, h => by
  unfold Vx.putL
  split
  ·rcases List.mem_cons.1 h with rfl | q
   ·exact ⟨y, by simp, rfl, Int.le_refl _⟩
   ·obtain ⟨z, hz, e⟩ := vput_keep x q
    exact ⟨z, by simp [hz], e⟩
  ·split
   ·rcases List.mem_cons.1 h with rfl | q
    ·exact ⟨Vx.withN y (max y.n x.n), by simp, rfl, by rw [Vx.n_with]; omega⟩
    ·exact ⟨y, by simp [q], rfl, Int.le_refl _⟩
   ·exact ⟨y, by simp only [List.mem_cons] at h ⊢; exact .inr h, rfl, Int.le_refl _⟩
theorem vput_new (x : Vx.It) : ∀ (L : List Vx.It), ∃ z ∈ Vx.putL x L, Vx.kc z = Vx.kc x ∧ x.n ≤ z.n
 | [] => ⟨x, by simp [Vx.putL], rfl, Int.le_refl _⟩
 | w :: t => by
  unfold Vx.putL
  split
  ·obtain ⟨z, hz, e⟩ := vput_new x t
   exact ⟨z, by simp [hz], e⟩
  ·split
   ·rename_i h
    exact ⟨Vx.withN w (max w.n x.n), by simp, by rw [Vx.kc_with]; exact h, by rw [Vx.n_with]; omega⟩
   ·exact ⟨x, by simp, rfl, Int.le_refl _⟩
theorem pput_keep (x : Py.It) : ∀ {L : List Py.It} {y : Py.It}, y ∈ L → ∃ z ∈ Py.putL x L, (z.a = y.a ∧ z.b = y.b ∧ z.p = y.p ∧ z.q = y.q) ∧ y.n ≤ z.n
 | [], y, h => by cases h
 | w :: t, y, h => by
  unfold Py.putL
  split
  ·rcases List.mem_cons.1 h with rfl | q
   ·exact ⟨y, by simp, ⟨rfl, rfl, rfl, rfl⟩, Int.le_refl _⟩
   ·obtain ⟨z, hz, e⟩ := pput_keep x q
    exact ⟨z, by simp [hz], e⟩
  ·split
   ·rcases List.mem_cons.1 h with rfl | q
    ·exact ⟨Py.withN y (max y.n x.n), by simp, ⟨rfl, rfl, rfl, rfl⟩, by rw [Py.n_with]; omega⟩
    ·exact ⟨y, by simp [q], ⟨rfl, rfl, rfl, rfl⟩, Int.le_refl _⟩
   ·exact ⟨y, by simp only [List.mem_cons] at h ⊢; exact .inr h, ⟨rfl, rfl, rfl, rfl⟩, Int.le_refl _⟩
theorem pput_new (x : Py.It) : ∀ (L : List Py.It), ∃ z ∈ Py.putL x L, Py.kc z = Py.kc x ∧ x.n ≤ z.n
 | [] => ⟨x, by simp [Py.putL], rfl, Int.le_refl _⟩
 | w :: t => by
  unfold Py.putL
  split
  ·obtain ⟨z, hz, e⟩ := pput_new x t
   exact ⟨z, by simp [hz], e⟩
  ·split
   ·rename_i h
    exact ⟨Py.withN w (max w.n x.n), by simp, by rw [Py.kc_with]; exact h, by rw [Py.n_with]; omega⟩
   ·exact ⟨x, by simp, rfl, Int.le_refl _⟩
theorem kc_same {x y : Py.It} (hx : Py.Okp x) (hy : Py.Okp y) (h : Py.kc x = Py.kc y) (k : Nat) : Py.hasB x.a x.b x.p x.q k = Py.hasB y.a y.b y.p y.q k := by
 obtain ⟨fx, px, qx, -⟩ := hx
 obtain ⟨fy, py, qy, -⟩ := hy
 have b1 := Fl.code_le x.b fx.2.1
 have b2 := Fl.code_le y.b fy.2.1
 have a1 := Fl.code_le x.a fx.1
 have a2 := Fl.code_le y.a fy.1
 obtain ⟨e1, e2, e3⟩ := form_cs fx
 obtain ⟨d1, d2, d3⟩ := form_cs fy
 have z : Fl.code x.a = Fl.code y.a ∧ Fl.code x.b = Fl.code y.b := by unfold Py.kc at h; omega
 unfold Py.hasB Fl.hasF
 rw [px, qx, py, qy, e1, e2, e3, d1, d2, d3, z.1, z.2]
end Go.Proofs.YtgeinnaljlajoaaGreat
