/- Spans and the ranges of codes that they are; no condition. -/
import Derived.Test.YtbkbnfgjkefcmaaGreatNs
namespace Go.Proofs.YtbkbnfgjkefcmaaGreat
open Go.RowKit
set_option linter.unusedVariables false
namespace Fl
/-- The form of a range. -/
def spo (r : Nat × Nat) : Sp := ⟨of r.1, of r.2, false, false⟩
theorem V_isCode {c : Nat} (h : V c) : isCode c = true ∧ c ≠ 0 ∧ W c := by
  refine ⟨(isCode_iff c).2 ?_, ?_, ?_⟩ <;> unfold V at h <;> (try unfold W) <;> omega
theorem of_V {c : Nat} (h : V c) : W (of c) ∧ code (of c) = c ∧ canon (of c) = of c ∧ nan (of c) = false := by
  obtain ⟨h1, h2, h3⟩ := V_isCode h
  have hw : W (of c) := of_lt c h3
  have hc := code_of c h3 h1
  refine ⟨hw, hc, ?_, ?_⟩
  · rw [← of_code (of c) hw, hc]
  · cases hn : nan (of c)
    · rfl
    · rw [code_nan _ hn] at hc; exact absurd hc.symm h2
theorem V_code {a : Nat} (h : W a) (hn : nan a = false) : V (code a) := by
  have := code_pos a h hn
  have := code_range a h
  unfold V; omega
theorem spo_form {r : Nat × Nat} (h : RV r) : IsForm (of r.1) (of r.2) false := by
  have a := of_V h.1
  have b := of_V h.2.1
  exact ⟨a.1, b.1, fun e => (nomatch e), fun _ => ⟨a.2.2.1, b.2.2.1, a.2.2.2, b.2.2.2, by rw [a.2.1, b.2.1]; exact h.2.2⟩⟩
/-- A span's range, if it has one. -/
def cd (s : Sp) : List (Nat × Nat) := if csE s.a s.b s.p s.q = true then [] else [(code (csU s.a s.b s.p s.q), code (csV s.a s.b s.p s.q))]
def cdl (f : Nat → Sp) : Nat → List (Nat × Nat) | 0 => [] | k + 1 => cdl f k ++ cd (f k)
theorem cd_RV (s : Sp) (ha : W s.a) (hb : W s.b) : ∀ r ∈ cd s, RV r := by
  intro r hr
  unfold cd at hr
  split at hr
  · cases hr
  · rw [List.mem_singleton.1 hr]
    rename_i h
    have h' : csE s.a s.b s.p s.q = false := by simpa using h
    obtain ⟨w1, w2, _, k⟩ := cs_isForm s.a s.b s.p s.q ha hb
    obtain ⟨_, _, n1, n2, l⟩ := k h'
    exact ⟨V_code w1 n1, V_code w2 n2, l⟩
theorem cd_len (s : Sp) : (cd s).length ≤ 1 := by unfold cd; split <;> simp
theorem cdl_len (f : Nat → Sp) : ∀ k, (cdl f k).length ≤ k
  | 0 => Nat.le_refl _
  | k + 1 => by rw [cdl, List.length_append]; have := cdl_len f k; have := cd_len (f k); omega
theorem cdl_RV (f : Nat → Sp) : ∀ k, (∀ i, i < k → W (f i).a ∧ W (f i).b) → ∀ r ∈ cdl f k, RV r
  | 0, _ => fun r hr => by cases hr
  | k + 1, h => fun r hr => by
    rcases List.mem_append.1 hr with q | q
    · exact cdl_RV f k (fun i hi => h i (by omega)) r q
    · exact cd_RV (f k) (h k (by omega)).1 (h k (by omega)).2 r q
theorem cdl_mem (f : Nat → Sp) : ∀ k r, r ∈ cdl f k ↔ ∃ i, i < k ∧ r ∈ cd (f i)
  | 0, r => ⟨fun h => (nomatch h), fun ⟨i, hi, _⟩ => absurd hi (by omega)⟩
  | k + 1, r => by
    rw [cdl, List.mem_append, cdl_mem f k r]
    constructor
    · rintro (⟨i, hi, h⟩ | h)
      · exact ⟨i, by omega, h⟩
      · exact ⟨k, by omega, h⟩
    · rintro ⟨i, hi, h⟩
      by_cases e : i = k
      · subst e; exact .inr h
      · exact .inl ⟨i, by omega, h⟩
/-- A form's range is what it is made of. -/
theorem cd_spo {r : Nat × Nat} (h : RV r) : cd (spo r) = [r] := by
  have a := of_V h.1
  have b := of_V h.2.1
  obtain ⟨e1, e2, e3⟩ := cs_of_form _ _ _ (spo_form h)
  unfold cd spo
  dsimp only
  rw [e1, e2, e3]
  simp [a.2.1, b.2.1]
theorem cdl_spo (L : List (Nat × Nat)) (h : ∀ r ∈ L, RV r) : cdl (atS (L.map spo)) L.length = L := by
  have : ∀ k, k ≤ L.length → cdl (atS (L.map spo)) k = L.take k := by
    intro k
    induction k with
    | zero => intro _; simp [cdl]
    | succ k ih =>
      intro hk
      have hk' : k < L.length := by omega
      rw [cdl, ih (by omega), atS_get _ _ (by simpa using hk'), List.getElem_map, cd_spo (h _ (List.getElem_mem _)), List.take_succ_eq_append_getElem hk']
  rw [this _ (Nat.le_refl _), List.take_length]
/-- What Canon makes of a span with keys is its range's form. -/
theorem spo_cs (s : Sp) (ha : W s.a) (hb : W s.b) : spo (code (csU s.a s.b s.p s.q), code (csV s.a s.b s.p s.q)) = ⟨csU s.a s.b s.p s.q, csV s.a s.b s.p s.q, false, false⟩ := by
  unfold spo
  dsimp only
  rw [of_code _ (csU_W _ _ _ _ ha), of_code _ (csV_W _ _ _ _ hb), csU_canon _ _ _ _ ha, csV_canon _ _ _ _ hb]
/-- A gap between forms, by codes. -/
theorem gap_nx {l f : Nat × Nat} (hl : RV l) (hf : RV f) : decide (code (nextB (of l.2)) < code (of f.1)) = decide (nx l.2 < f.1) := by
  have a := of_V hl.2.1
  have b := of_V hf.1
  rw [decide_eq_decide, b.2.1]
  have v1 := hl.2.1
  have v2 := hf.1
  by_cases hi : of l.2 = INF
  · have c := (code_inf_iff _ a.1).2 hi
    have e : code (nextB (of l.2)) = code (of l.2) := by rw [hi]; decide +kernel
    rw [e, a.2.1]; rw [a.2.1] at c
    have := nx_cases l.2
    unfold V at *; omega
  · have c : l.2 ≠ 18442240474082181120 := fun h => hi ((code_inf_iff _ a.1).1 (a.2.1.trans h))
    rw [code_next _ a.1 hi, a.2.1]
    have := nx_cases l.2
    unfold nc
    unfold V at *
    (repeat' split) <;> omega
theorem spo_W {r : Nat × Nat} (h : RV r) : W (spo r).a ∧ W (spo r).b := ⟨(of_V h.1).1, (of_V h.2.1).1⟩
theorem mx_of {a b : Nat} (ha : V a) (hb : V b) : mx (of a) (of b) = of (max a b) := by
  have x := of_V ha
  have y := of_V hb
  unfold mx
  rw [x.2.1, y.2.1]
  split
  · rw [Nat.max_eq_right (by omega)]
  · rw [Nat.max_eq_left (by omega)]
end Fl
end Go.Proofs.YtbkbnfgjkefcmaaGreat
