/- Meetings and joinings of forms in any order, as plain facts; no condition but that the forms are forms. -/
import Derived.Test.YtnggkncmcbcceaaJo
set_option linter.unusedVariables false
namespace Go.Proofs.Ytnggkncmcbcceaa

namespace Fl
theorem rng_ok {u v : Nat} {e : Bool} (h : IsForm u v e) : (rl u e = 1 ∧ rh v e = 0) ∨ (1 ≤ rl u e ∧ rl u e ≤ rh v e) := by
  rcases form_rng h with ⟨_, _, _, r1, r2⟩ | ⟨_, r1, r2, r3, r4, _⟩
  · exact .inl ⟨r1, r2⟩
  · exact .inr ⟨by omega, by omega⟩
theorem rm_comm (L1 H1 L2 H2 : Nat) : rmL L1 H1 L2 H2 = rmL L2 H2 L1 H1 ∧ rmH L1 H1 L2 H2 = rmH L2 H2 L1 H1 := by
  unfold rmL rmH; rw [Nat.min_comm H1 H2, Nat.max_comm L1 L2]; exact ⟨rfl, rfl⟩
theorem rm_assoc {L1 H1 L2 H2 L3 H3 : Nat} (a : (L1 = 1 ∧ H1 = 0) ∨ (1 ≤ L1 ∧ L1 ≤ H1)) (b : (L2 = 1 ∧ H2 = 0) ∨ (1 ≤ L2 ∧ L2 ≤ H2)) (c : (L3 = 1 ∧ H3 = 0) ∨ (1 ≤ L3 ∧ L3 ≤ H3)) :
    rmL (rmL L1 H1 L2 H2) (rmH L1 H1 L2 H2) L3 H3 = rmL L1 H1 (rmL L2 H2 L3 H3) (rmH L2 H2 L3 H3) ∧ rmH (rmL L1 H1 L2 H2) (rmH L1 H1 L2 H2) L3 H3 = rmH L1 H1 (rmL L2 H2 L3 H3) (rmH L2 H2 L3 H3) := by
  unfold rmL rmH
  by_cases h1 : min H1 H2 < max L1 L2 <;> by_cases h2 : min H2 H3 < max L2 L3 <;> simp only [h1, h2, if_true, if_false] <;> constructor <;> (repeat' split) <;> omega
theorem rm_idem {L1 H1 : Nat} (a : (L1 = 1 ∧ H1 = 0) ∨ (1 ≤ L1 ∧ L1 ≤ H1)) : rmL L1 H1 L1 H1 = L1 ∧ rmH L1 H1 L1 H1 = H1 := by
  unfold rmL rmH; constructor <;> split <;> omega
theorem rm_in {L1 H1 L2 H2 : Nat} (a : (L1 = 1 ∧ H1 = 0) ∨ (1 ≤ L1 ∧ L1 ≤ H1)) (b : (L2 = 1 ∧ H2 = 0) ∨ (1 ≤ L2 ∧ L2 ≤ H2)) :
    rmL (rmL L1 H1 L2 H2) (rmH L1 H1 L2 H2) L1 H1 = rmL L1 H1 L2 H2 ∧ rmH (rmL L1 H1 L2 H2) (rmH L1 H1 L2 H2) L1 H1 = rmH L1 H1 L2 H2 := by
  unfold rmL rmH
  by_cases h1 : min H1 H2 < max L1 L2 <;> simp only [h1, if_true, if_false] <;> constructor <;> (repeat' split) <;> omega
theorem meet_comm {u1 v1 u2 v2 : Nat} {e1 e2 : Bool} (h1 : IsForm u1 v1 e1) (h2 : IsForm u2 v2 e2) : mU u2 v2 e2 u1 v1 e1 = mU u1 v1 e1 u2 v2 e2 ∧ mV u2 v2 e2 u1 v1 e1 = mV u1 v1 e1 u2 v2 e2 ∧ mE u2 v2 e2 u1 v1 e1 = mE u1 v1 e1 u2 v2 e2 := by
  refine form_inj (meet_form h2 h1) (meet_form h1 h2) ?_ ?_
  · rw [← (meet_rl h2 h1).1, ← (meet_rl h1 h2).1]; exact (rm_comm _ _ _ _).1
  · rw [← (meet_rl h2 h1).2, ← (meet_rl h1 h2).2]; exact (rm_comm _ _ _ _).2
theorem meet_assoc {u1 v1 u2 v2 u3 v3 : Nat} {e1 e2 e3 : Bool} (h1 : IsForm u1 v1 e1) (h2 : IsForm u2 v2 e2) (h3 : IsForm u3 v3 e3) :
    mU u1 v1 e1 (mU u2 v2 e2 u3 v3 e3) (mV u2 v2 e2 u3 v3 e3) (mE u2 v2 e2 u3 v3 e3) = mU (mU u1 v1 e1 u2 v2 e2) (mV u1 v1 e1 u2 v2 e2) (mE u1 v1 e1 u2 v2 e2) u3 v3 e3 ∧ mV u1 v1 e1 (mU u2 v2 e2 u3 v3 e3) (mV u2 v2 e2 u3 v3 e3) (mE u2 v2 e2 u3 v3 e3) = mV (mU u1 v1 e1 u2 v2 e2) (mV u1 v1 e1 u2 v2 e2) (mE u1 v1 e1 u2 v2 e2) u3 v3 e3 ∧ mE u1 v1 e1 (mU u2 v2 e2 u3 v3 e3) (mV u2 v2 e2 u3 v3 e3) (mE u2 v2 e2 u3 v3 e3) = mE (mU u1 v1 e1 u2 v2 e2) (mV u1 v1 e1 u2 v2 e2) (mE u1 v1 e1 u2 v2 e2) u3 v3 e3 := by
  have f12 := meet_form h1 h2
  have f23 := meet_form h2 h3
  have A := rm_assoc (rng_ok h1) (rng_ok h2) (rng_ok h3)
  rw [(meet_rl h1 h2).1, (meet_rl h1 h2).2, (meet_rl h2 h3).1, (meet_rl h2 h3).2] at A
  refine form_inj (meet_form h1 f23) (meet_form f12 h3) ?_ ?_
  · rw [← (meet_rl h1 f23).1, ← (meet_rl f12 h3).1]; exact A.1.symm
  · rw [← (meet_rl h1 f23).2, ← (meet_rl f12 h3).2]; exact A.2.symm
theorem in_self {u1 v1 : Nat} {e1 : Bool} (h1 : IsForm u1 v1 e1) : fq (mU u1 v1 e1 u1 v1 e1) (mV u1 v1 e1 u1 v1 e1) (mE u1 v1 e1 u1 v1 e1) u1 v1 e1 = true := by
  unfold fq; rw [← (meet_rl h1 h1).1, ← (meet_rl h1 h1).2]; exact decide_eq_true (rm_idem (rng_ok h1))
theorem in_first {u1 v1 u2 v2 : Nat} {e1 e2 : Bool} (h1 : IsForm u1 v1 e1) (h2 : IsForm u2 v2 e2) : fq (mU (mU u1 v1 e1 u2 v2 e2) (mV u1 v1 e1 u2 v2 e2) (mE u1 v1 e1 u2 v2 e2) u1 v1 e1) (mV (mU u1 v1 e1 u2 v2 e2) (mV u1 v1 e1 u2 v2 e2) (mE u1 v1 e1 u2 v2 e2) u1 v1 e1) (mE (mU u1 v1 e1 u2 v2 e2) (mV u1 v1 e1 u2 v2 e2) (mE u1 v1 e1 u2 v2 e2) u1 v1 e1) (mU u1 v1 e1 u2 v2 e2) (mV u1 v1 e1 u2 v2 e2) (mE u1 v1 e1 u2 v2 e2) = true := by
  have f12 := meet_form h1 h2
  have A := rm_in (rng_ok h1) (rng_ok h2)
  rw [(meet_rl h1 h2).1, (meet_rl h1 h2).2] at A
  unfold fq; rw [← (meet_rl f12 h1).1, ← (meet_rl f12 h1).2]; exact decide_eq_true A
theorem in_second {u1 v1 u2 v2 : Nat} {e1 e2 : Bool} (h1 : IsForm u1 v1 e1) (h2 : IsForm u2 v2 e2) : fq (mU (mU u1 v1 e1 u2 v2 e2) (mV u1 v1 e1 u2 v2 e2) (mE u1 v1 e1 u2 v2 e2) u2 v2 e2) (mV (mU u1 v1 e1 u2 v2 e2) (mV u1 v1 e1 u2 v2 e2) (mE u1 v1 e1 u2 v2 e2) u2 v2 e2) (mE (mU u1 v1 e1 u2 v2 e2) (mV u1 v1 e1 u2 v2 e2) (mE u1 v1 e1 u2 v2 e2) u2 v2 e2) (mU u1 v1 e1 u2 v2 e2) (mV u1 v1 e1 u2 v2 e2) (mE u1 v1 e1 u2 v2 e2) = true := by
  have A := in_first h2 h1
  have k := meet_comm h1 h2
  rw [k.1, k.2.1, k.2.2] at A
  exact A
theorem join_comm {u1 v1 u2 v2 : Nat} {e1 e2 : Bool} (h1 : IsForm u1 v1 e1) (h2 : IsForm u2 v2 e2) : jU u2 v2 e2 u1 v1 e1 = jU u1 v1 e1 u2 v2 e2 ∧ jV u2 v2 e2 u1 v1 e1 = jV u1 v1 e1 u2 v2 e2 ∧ jE u2 v2 e2 u1 v1 e1 = jE u1 v1 e1 u2 v2 e2 ∧ jK u2 v2 e2 u1 v1 e1 = jK u1 v1 e1 u2 v2 e2 := by
  have n1 := form_nan h1
  have n2 := form_nan h2
  cases e1
  · cases e2
    · have k : jK u2 v2 false u1 v1 false = jK u1 v1 false u2 v2 false := by unfold jK; rw [Bool.or_comm (gp v2 u1)]
      unfold jU jV jE; rw [k]
      have a1 : mn u2 u1 = mn u1 u2 := code_canon_inj _ _ (mn_W h2.1 h1.1) (mn_W h1.1 h2.1) (mn_canon n2.2.2.1 n1.2.2.1) (mn_canon n1.2.2.1 n2.2.2.1) (by rw [code_mn, code_mn, Nat.min_comm])
      have a2 : mx v2 v1 = mx v1 v2 := code_canon_inj _ _ (mx_W h2.2.1 h1.2.1) (mx_W h1.2.1 h2.2.1) (mx_canon n2.2.2.2 n1.2.2.2) (mx_canon n1.2.2.2 n2.2.2.2) (by rw [code_mx, code_mx, Nat.max_comm])
      rw [a1, a2]; exact ⟨rfl, rfl, rfl, rfl⟩
    · exact ⟨rfl, rfl, rfl, rfl⟩
  · cases e2
    · exact ⟨rfl, rfl, rfl, rfl⟩
    · obtain ⟨rfl, rfl⟩ := h1.2.2.1 rfl
      obtain ⟨rfl, rfl⟩ := h2.2.2.1 rfl
      exact ⟨rfl, rfl, rfl, rfl⟩
theorem in_join {u1 v1 u2 v2 : Nat} {e1 e2 : Bool} (h1 : IsForm u1 v1 e1) (h2 : IsForm u2 v2 e2) (hK : jK u1 v1 e1 u2 v2 e2 = true) :
    fq (mU u1 v1 e1 (jU u1 v1 e1 u2 v2 e2) (jV u1 v1 e1 u2 v2 e2) (jE u1 v1 e1 u2 v2 e2)) (mV u1 v1 e1 (jU u1 v1 e1 u2 v2 e2) (jV u1 v1 e1 u2 v2 e2) (jE u1 v1 e1 u2 v2 e2)) (mE u1 v1 e1 (jU u1 v1 e1 u2 v2 e2) (jV u1 v1 e1 u2 v2 e2) (jE u1 v1 e1 u2 v2 e2)) u1 v1 e1 = true := by
  have f4 := join_form h1 h2
  have c1 := code_mn u1 u2
  have c2 := code_mx v1 v2
  unfold fq; rw [← (meet_rl h1 f4).1, ← (meet_rl h1 f4).2]
  refine decide_eq_true ?_
  cases e1
  · cases e2
    · have r1 := rng_ok h1
      have l1 := (h1.2.2.2 rfl).2.2.2.2
      have e : rl (jU u1 v1 false u2 v2 false) (jE u1 v1 false u2 v2 false) = min (code u1) (code u2) ∧ rh (jV u1 v1 false u2 v2 false) (jE u1 v1 false u2 v2 false) = max (code v1) (code v2) := by
        unfold jU jV jE; rw [hK]; unfold rl rh; simp [c1, c2]
      rw [e.1, e.2]
      show rmL (code u1) (code v1) _ _ = code u1 ∧ rmH (code u1) (code v1) _ _ = code v1
      unfold rmL rmH; constructor <;> split <;> omega
    · exact rm_idem (rng_ok h1)
  · obtain ⟨rfl, rfl⟩ := h1.2.2.1 rfl
    have r2 := rng_ok f4
    show rmL 1 0 _ _ = 1 ∧ rmH 1 0 _ _ = 0
    unfold rmL rmH; constructor <;> split <;> omega
end Fl
end Go.Proofs.Ytnggkncmcbcceaa
