/- What the document's Put of layer 13 makes of its items; plain. -/
import Derived.Test.YtefffjlcfghniaaS9
namespace Go.Proofs.Ytefffjlcfghniaa
open Go.RowKit Go.Lib
set_option linter.unusedVariables false
set_option linter.unusedSimpArgs false
set_option maxRecDepth 20000
/-- Those that stay behind a Put. -/
def stays (s H : Int) (o : Opv) : Bool := (o.s != s) || decide (H - 8 < o.x.n)
def fltT (s H : Int) (T : List Opv) : List Opv := T.filter (stays s H)
theorem fltT_step (s H : Int) (T : List Opv) (k : Nat) (h : k < T.length) : fltT s H (T.take (k + 1)) = fltT s H (T.take k) ++ (if stays s H (opA T k) = true then [opA T k] else []) := by
  unfold fltT
  have e : opA T k = T[k] := by unfold opA; rw [List.getD_eq_getElem?_getD, List.getElem?_eq_getElem h]; rfl
  rw [List.take_succ_eq_append_getElem h, List.filter_append, e]
  cases q : stays s H T[k] <;> simp [q]
/-- The highest number behind a Put. -/
theorem Rel.hiPut {T : List Opv} {ks : List Int} {L : Int → List It} {s : Int} {x : It} (h : Rel T ks L) (hk : TOk ks L) (hc : putC ks L s x = 0) : hR s (T ++ [⟨s, x⟩]) (T ++ [(⟨s, x⟩ : Opv)]).length = hiL (insS x (L s)) := by
  obtain ⟨h0, _⟩ := putC_zero hc
  obtain ⟨hf, _, hq, _⟩ := lookC_zero h0
  have hno := found_no (hk.rise s) hf
  have hr := ins_rise (hk.rise s) hno
  obtain ⟨h1, h2, h3⟩ := hR_spec s (T ++ [(⟨s, x⟩ : Opv)]) (T ++ [(⟨s, x⟩ : Opv)]).length
  have hmem : ∀ y, y ∈ insS x (L s) → y.n ≤ hR s (T ++ [⟨s, x⟩]) (T ++ [(⟨s, x⟩ : Opv)]).length := fun y hy => by
    have hz : (⟨s, y⟩ : Opv) ∈ T ++ [(⟨s, x⟩ : Opv)] := by
      rcases ins_mem.1 hy with rfl | hy
      · simp
      · exact List.mem_append_left _ (h.all s y hy)
    obtain ⟨i, hi, e⟩ := mem_opA hz
    have := h1 i hi (by rw [e])
    rw [e] at this
    exact this
  obtain ⟨y, hy, ey⟩ := hiL_mem (ins_ne x (L s))
  have a1 := hmem y hy
  have a2 := hmem x (ins_mem.2 (.inl rfl))
  rcases h3 with h3 | ⟨i, hi, hs, he⟩
  · omega
  · have hm := opA_mem (T ++ [(⟨s, x⟩ : Opv)]) i hi
    have hin : (opA (T ++ [(⟨s, x⟩ : Opv)]) i).x ∈ insS x (L s) := by
      rcases List.mem_append.1 hm with q | q
      · have := (h.of _ q).1
        rw [hs] at this
        exact ins_mem.2 (.inr this)
      · have e : opA (T ++ [(⟨s, x⟩ : Opv)]) i = ⟨s, x⟩ := by simpa using q
        rw [e]
        exact ins_mem.2 (.inl rfl)
    have := rise_last hr hin
    omega
theorem Rel.put {T : List Opv} {ks : List Int} {L : Int → List It} {s : Int} {x : It} (h : Rel T ks L) (hk : TOk ks L) (hc : putC ks L s x = 0) : Rel (fltT s (hiL (insS x (L s))) (T ++ [⟨s, x⟩])) (putK ks s) (putL L s (nextS x (L s))) := by
  obtain ⟨h0, _⟩ := putC_zero hc
  obtain ⟨hf, _, hq, _⟩ := lookC_zero h0
  have hno := found_no (hk.rise s) hf
  have hsk : s ∈ putK ks s := by unfold putK; split; assumption; simp
  have hkk : ∀ k, k ∈ ks → k ∈ putK ks s := fun k hk => by unfold putK; split; exact hk; exact List.mem_append_left _ hk
  refine ⟨?_, fun o ho => ?_, fun k y hy => ?_⟩
  · refine List.Pairwise.filter _ (List.pairwise_append.2 ⟨h.once, by simp, fun a ha b hb e => ?_⟩)
    obtain rfl : b = ⟨s, x⟩ := by simpa using hb
    subst e
    exact hno x (h.of _ ha).1 rfl
  · unfold fltT at ho
    rw [List.mem_filter] at ho
    obtain ⟨hm, hst⟩ := ho
    unfold putL
    by_cases e : o.s = s
    · rw [if_pos e]
      refine ⟨?_, by rw [e]; exact hsk⟩
      unfold stays at hst
      rw [e] at hst
      simp at hst
      unfold nextS
      refine keep_mem.2 ⟨ins_mem.2 ?_, hst⟩
      rcases List.mem_append.1 hm with q | q
      · have := (h.of _ q).1
        rw [e] at this
        exact .inr this
      · have e2 : o = ⟨s, x⟩ := by simpa using q
        exact .inl (by rw [e2])
    · rw [if_neg e]
      rcases List.mem_append.1 hm with q | q
      · exact ⟨(h.of _ q).1, hkk _ (h.of _ q).2⟩
      · have e2 : o = ⟨s, x⟩ := by simpa using q
        exact absurd (by rw [e2]) e
  · unfold putL at hy
    unfold fltT
    rw [List.mem_filter]
    by_cases e : k = s
    · rw [if_pos e] at hy
      unfold nextS at hy
      obtain ⟨h1, h2⟩ := keep_mem.1 hy
      subst e
      refine ⟨?_, by unfold stays; simp [h2]⟩
      rcases ins_mem.1 h1 with rfl | q
      · simp
      · exact List.mem_append_left _ (h.all _ _ q)
    · rw [if_neg e] at hy
      exact ⟨List.mem_append_left _ (h.all k y hy), by unfold stays; simp [e]⟩
end Go.Proofs.Ytefffjlcfghniaa
