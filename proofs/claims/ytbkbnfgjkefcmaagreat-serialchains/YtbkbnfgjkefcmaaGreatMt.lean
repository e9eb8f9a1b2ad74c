/- The meeting, the joining and the order of two spans' forms, as plain facts; no condition but that the forms are forms. -/
import Derived.Test.YtbkbnfgjkefcmaaGreatRe
import Derived.Test.YtbkbnfgjkefcmaaGreatSd
namespace Go.Proofs.YtbkbnfgjkefcmaaGreat
namespace Fl
def mx (a b : Nat) : Nat := if code a < code b then b else a
def mn (a b : Nat) : Nat := if code b < code a then b else a
/-- The codes of a form: from which one, to which one. -/
def rl (u : Nat) (e : Bool) : Nat := if e = true then 1 else code u
def rh (v : Nat) (e : Bool) : Nat := if e = true then 0 else code v
def mE (u1 v1 : Nat) (e1 : Bool) (u2 v2 : Nat) (e2 : Bool) : Bool := e1 || e2 || decide (code (mn v1 v2) < code (mx u1 u2))
def mU (u1 v1 : Nat) (e1 : Bool) (u2 v2 : Nat) (e2 : Bool) : Nat := if mE u1 v1 e1 u2 v2 e2 = true then 0 else mx u1 u2
def mV (u1 v1 : Nat) (e1 : Bool) (u2 v2 : Nat) (e2 : Bool) : Nat := if mE u1 v1 e1 u2 v2 e2 = true then 0 else mn v1 v2
/-- The joining: is it none? has it a form? -/
def gp (v1 u2 : Nat) : Bool := decide (code (nextB v1) < code u2)
def jK (u1 v1 : Nat) (e1 : Bool) (u2 v2 : Nat) (e2 : Bool) : Bool := e1 || e2 || !(gp v1 u2 || gp v2 u1)
def jE (u1 v1 : Nat) (e1 : Bool) (u2 v2 : Nat) (e2 : Bool) : Bool := if e1 = true then e2 else if e2 = true then e1 else !(jK u1 v1 e1 u2 v2 e2)
def jU (u1 v1 : Nat) (e1 : Bool) (u2 v2 : Nat) (e2 : Bool) : Nat := if e1 = true then u2 else if e2 = true then u1 else if jK u1 v1 e1 u2 v2 e2 = true then mn u1 u2 else 0
def jV (u1 v1 : Nat) (e1 : Bool) (u2 v2 : Nat) (e2 : Bool) : Nat := if e1 = true then v2 else if e2 = true then v1 else if jK u1 v1 e1 u2 v2 e2 = true then mx v1 v2 else 0
/-- Two forms are the same. -/
def fq (u1 v1 : Nat) (e1 : Bool) (u2 v2 : Nat) (e2 : Bool) : Bool := decide (rl u1 e1 = rl u2 e2 ∧ rh v1 e1 = rh v2 e2)
/-- The order of two forms. -/
def fc (u1 v1 : Nat) (e1 : Bool) (u2 v2 : Nat) (e2 : Bool) : Int :=
  if e1 = true then (if e2 = true then 0 else -1) else if e2 = true then 1 else if code u1 < code u2 then -1 else if code u2 < code u1 then 1 else if code v1 < code v2 then -1 else if code v2 < code v1 then 1 else 0
theorem mx_cases (a b : Nat) : (mx a b = b ∧ code a < code b) ∨ (mx a b = a ∧ code b ≤ code a) := by unfold mx; split; exact .inl ⟨rfl, ‹_›⟩; exact .inr ⟨rfl, by omega⟩
theorem mn_cases (a b : Nat) : (mn a b = b ∧ code b < code a) ∨ (mn a b = a ∧ code a ≤ code b) := by unfold mn; split; exact .inl ⟨rfl, ‹_›⟩; exact .inr ⟨rfl, by omega⟩
theorem code_mx (a b : Nat) : code (mx a b) = max (code a) (code b) := by rcases mx_cases a b with ⟨e, h⟩ | ⟨e, h⟩ <;> rw [e] <;> omega
theorem code_mn (a b : Nat) : code (mn a b) = min (code a) (code b) := by rcases mn_cases a b with ⟨e, h⟩ | ⟨e, h⟩ <;> rw [e] <;> omega
theorem mx_W {a b : Nat} (ha : W a) (hb : W b) : W (mx a b) := by rcases mx_cases a b with ⟨e, h⟩ | ⟨e, h⟩ <;> rw [e] <;> assumption
theorem mn_W {a b : Nat} (ha : W a) (hb : W b) : W (mn a b) := by rcases mn_cases a b with ⟨e, h⟩ | ⟨e, h⟩ <;> rw [e] <;> assumption
theorem mx_canon {a b : Nat} (ha : canon a = a) (hb : canon b = b) : canon (mx a b) = mx a b := by rcases mx_cases a b with ⟨e, h⟩ | ⟨e, h⟩ <;> rw [e] <;> assumption
theorem mn_canon {a b : Nat} (ha : canon a = a) (hb : canon b = b) : canon (mn a b) = mn a b := by rcases mn_cases a b with ⟨e, h⟩ | ⟨e, h⟩ <;> rw [e] <;> assumption
theorem nan0 : nan 0 = false := by decide +kernel
theorem W0 : W 0 := by unfold W; decide
/-- What a form is, in codes. -/
theorem form_rng {u v : Nat} {e : Bool} (h : IsForm u v e) : (e = true ∧ u = 0 ∧ v = 0 ∧ rl u e = 1 ∧ rh v e = 0) ∨ (e = false ∧ rl u e = code u ∧ rh v e = code v ∧ 0 < code u ∧ code u ≤ code v ∧ code v ≤ 18442240474082181120) := by
  obtain ⟨w1, w2, h1, h2⟩ := h
  cases e
  · obtain ⟨_, _, n1, n2, hl⟩ := h2 rfl
    have := code_pos u w1 n1
    have := code_range v w2
    exact .inr ⟨rfl, rfl, rfl, by omega, hl, by omega⟩
  · obtain ⟨rfl, rfl⟩ := h1 rfl
    exact .inl ⟨rfl, rfl, rfl, rfl, rfl⟩
theorem form_nan {u v : Nat} {e : Bool} (h : IsForm u v e) : nan u = false ∧ nan v = false ∧ canon u = u ∧ canon v = v := by
  obtain ⟨w1, w2, h1, h2⟩ := h
  cases e
  · obtain ⟨c1, c2, n1, n2, hl⟩ := h2 rfl
    exact ⟨n1, n2, c1, c2⟩
  · obtain ⟨rfl, rfl⟩ := h1 rfl
    exact ⟨nan0, nan0, canon0, canon0⟩
theorem form_inj {u v u' v' : Nat} {e e' : Bool} (h : IsForm u v e) (h' : IsForm u' v' e') (a : rl u e = rl u' e') (b : rh v e = rh v' e') : u = u' ∧ v = v' ∧ e = e' := by
  have n := form_nan h
  have n' := form_nan h'
  rcases form_rng h with ⟨rfl, rfl, rfl, r1, r2⟩ | ⟨rfl, r1, r2, r3, r4, r5⟩ <;> rcases form_rng h' with ⟨rfl, rfl, rfl, s1, s2⟩ | ⟨rfl, s1, s2, s3, s4, s5⟩
  · exact ⟨rfl, rfl, rfl⟩
  · omega
  · omega
  · exact ⟨code_canon_inj _ _ h.1 h'.1 n.2.2.1 n'.2.2.1 (by omega), code_canon_inj _ _ h.2.1 h'.2.1 n.2.2.2 n'.2.2.2 (by omega), rfl⟩
theorem meet_form {u1 v1 u2 v2 : Nat} {e1 e2 : Bool} (h1 : IsForm u1 v1 e1) (h2 : IsForm u2 v2 e2) : IsForm (mU u1 v1 e1 u2 v2 e2) (mV u1 v1 e1 u2 v2 e2) (mE u1 v1 e1 u2 v2 e2) := by
  have n1 := form_nan h1
  have n2 := form_nan h2
  unfold mU mV
  cases h : mE u1 v1 e1 u2 v2 e2
  · have hh := h
    unfold mE at hh
    simp only [Bool.or_eq_false_iff, decide_eq_false_iff_not] at hh
    refine ⟨mx_W h1.1 h2.1, mn_W h1.2.1 h2.2.1, fun e => (by cases e), fun _ => ⟨mx_canon n1.2.2.1 n2.2.2.1, mn_canon n1.2.2.2 n2.2.2.2, ?_, ?_, ?_⟩⟩
    · simp only [Bool.false_eq_true, if_false]; rcases mx_cases u1 u2 with ⟨e, _⟩ | ⟨e, _⟩ <;> rw [e]; exact n2.1; exact n1.1
    · simp only [Bool.false_eq_true, if_false]; rcases mn_cases v1 v2 with ⟨e, _⟩ | ⟨e, _⟩ <;> rw [e]; exact n2.2.1; exact n1.2.1
    · simp only [Bool.false_eq_true, if_false]; omega
  · exact ⟨W0, W0, fun _ => ⟨rfl, rfl⟩, fun e => (by cases e)⟩
/-- The document's meeting. -/
def rmL (L1 H1 L2 H2 : Nat) : Nat := if min H1 H2 < max L1 L2 then 1 else max L1 L2
def rmH (L1 H1 L2 H2 : Nat) : Nat := if min H1 H2 < max L1 L2 then 0 else min H1 H2
theorem meet_rl {u1 v1 u2 v2 : Nat} {e1 e2 : Bool} (h1 : IsForm u1 v1 e1) (h2 : IsForm u2 v2 e2) : rmL (rl u1 e1) (rh v1 e1) (rl u2 e2) (rh v2 e2) = rl (mU u1 v1 e1 u2 v2 e2) (mE u1 v1 e1 u2 v2 e2) ∧ rmH (rl u1 e1) (rh v1 e1) (rl u2 e2) (rh v2 e2) = rh (mV u1 v1 e1 u2 v2 e2) (mE u1 v1 e1 u2 v2 e2) := by
  have c1 := code_mx u1 u2
  have c2 := code_mn v1 v2
  rcases form_rng h1 with ⟨rfl, rfl, rfl, r1, r2⟩ | ⟨rfl, r1, r2, r3, r4, r5⟩ <;> rcases form_rng h2 with ⟨rfl, rfl, rfl, s1, s2⟩ | ⟨rfl, s1, s2, s3, s4, s5⟩
  · rw [r1, r2]; exact ⟨rfl, rfl⟩
  · rw [r1, r2, s1, s2]; unfold rmL rmH mU mV rl rh mE; simp; try omega
  · rw [r1, r2, s1, s2]; unfold rmL rmH mU mV rl rh mE; simp; try omega
  · rw [r1, r2, s1, s2]; unfold rmL rmH mU mV rl rh mE; simp only [Bool.false_or, c1, c2]
    by_cases h : min (code v1) (code v2) < max (code u1) (code u2)
    · simp [h]
    · simp [h, c1, c2]
theorem fq_self {u v : Nat} {e : Bool} : fq u v e u v e = true := by unfold fq; simp
theorem fq_iff {u1 v1 u2 v2 : Nat} {e1 e2 : Bool} (h1 : IsForm u1 v1 e1) (h2 : IsForm u2 v2 e2) : fq u1 v1 e1 u2 v2 e2 = true ↔ (u1 = u2 ∧ v1 = v2 ∧ e1 = e2) := by
  unfold fq; rw [decide_eq_true_eq]
  exact ⟨fun h => form_inj h1 h2 h.1 h.2, fun ⟨a, b, c⟩ => by subst a b c; exact ⟨rfl, rfl⟩⟩
/-- How the program holds two forms against each other. -/
theorem fq_floats {u1 v1 u2 v2 : Nat} {e1 e2 : Bool} (h1 : IsForm u1 v1 e1) (h2 : IsForm u2 v2 e2) :
    ((Go.FloatKind.f64.format.order u1 u2 == some .eq) && (Go.FloatKind.f64.format.order v1 v2 == some .eq) && (e1 == e2) && (e1 == e2)) = fq u1 v1 e1 u2 v2 e2 := by
  have n1 := form_nan h1
  have n2 := form_nan h2
  rw [ord_code u1 u2 h1.1 h2.1 n1.1 n2.1, ord_code v1 v2 h1.2.1 h2.2.1 n1.2.1 n2.2.1]
  rw [Bool.eq_iff_iff, fq_iff h1 h2]
  simp only [Bool.and_eq_true, decide_eq_true_eq, beq_iff_eq]
  constructor
  · rintro ⟨⟨⟨a, b⟩, c⟩, _⟩
    exact ⟨code_canon_inj _ _ h1.1 h2.1 n1.2.2.1 n2.2.2.1 a, code_canon_inj _ _ h1.2.1 h2.2.1 n1.2.2.2 n2.2.2.2 b, c⟩
  · rintro ⟨rfl, rfl, rfl⟩; exact ⟨⟨⟨rfl, rfl⟩, rfl⟩, rfl⟩
end Fl
end Go.Proofs.YtbkbnfgjkefcmaaGreat
