/- The document's Next, of layer 15; conditions: the rows lie in memory. -/
import Derived.Test.YtcicefpcledmgaaV26
import Derived.Test.YtcicefpcledmgaaV21
namespace Go.Proofs.Ytcicefpcledmgaa
open Go.RowKit Go.Lib
set_option linter.unusedVariables false
set_option linter.unusedSimpArgs false
set_option maxRecDepth 20000
theorem mem_opt (c : Bool) (y z : Int) : y ∈ (if c = true then [z] else []) ↔ c = true ∧ y = z := by cases c <;> simp
theorem wtL_mem (b : Bool) (x : Int) (f : Nat → Int) (n : Nat) (y : Int) : ∀ k, y ∈ wtL b x f n k ↔ (1 ≤ y ∧ y ≤ (k : Nat)) ∧ (if y = x then b else hasK f y n) = true
  | 0 => by simp [wtL]; omega
  | k + 1 => by
    unfold wtL
    rw [List.mem_append, wtL_mem b x f n y k, mem_opt]
    by_cases e : y = ((k + 1 : Nat) : Int)
    · subst e
      constructor
      · rintro (h | h)
        · exact absurd h.1.2 (by omega)
        · exact ⟨by omega, h.1⟩
      · rintro ⟨_, h⟩
        exact .inr ⟨h, rfl⟩
    · constructor
      · rintro (h | h)
        · exact ⟨by omega, h.2⟩
        · exact absurd h.2 e
      · rintro ⟨h1, h2⟩
        exact .inl ⟨by omega, h2⟩
theorem wtL_pw (b : Bool) (x : Int) (f : Nat → Int) (n : Nat) : ∀ k, (wtL b x f n k).Pairwise (· < ·)
  | 0 => List.Pairwise.nil
  | k + 1 => by
    unfold wtL
    rw [List.pairwise_append]
    refine ⟨wtL_pw b x f n k, ?_, ?_⟩
    · generalize (if ((k + 1 : Nat) : Int) = x then b else hasK f ((k + 1 : Nat) : Int) n) = c
      cases c <;> simp
    · intro y hy z hz
      have h1 := ((wtL_mem b x f n y k).1 hy).1
      have h2 := ((mem_opt _ _ _).1 hz).2
      omega
theorem rise_eq : ∀ {A B : List Int}, A.Pairwise (· < ·) → B.Pairwise (· < ·) → (∀ y, y ∈ A ↔ y ∈ B) → A = B
  | [], [], _, _, _ => rfl
  | [], b :: B, _, _, h => by have := (h b).2 (by simp); simp at this
  | a :: A, [], _, _, h => by have := (h a).1 (by simp); simp at this
  | a :: A, b :: B, ha, hb, h => by
    have ha' := List.pairwise_cons.1 ha
    have hb' := List.pairwise_cons.1 hb
    have e : a = b := by
      rcases List.mem_cons.1 ((h a).1 (by simp)) with q | q
      · exact q
      · rcases List.mem_cons.1 ((h b).2 (by simp)) with r | r
        · exact r.symm
        · have := hb'.1 a q
          have := ha'.1 b r
          omega
    subst e
    have hh : ∀ y, y ∈ A ↔ y ∈ B := fun y => by
      constructor
      · intro hy
        rcases List.mem_cons.1 ((h y).1 (List.mem_cons_of_mem _ hy)) with q | q
        · have := ha'.1 y hy; omega
        · exact q
      · intro hy
        rcases List.mem_cons.1 ((h y).2 (List.mem_cons_of_mem _ hy)) with q | q
        · have := hb'.1 y hy; omega
        · exact q
    rw [rise_eq ha'.2 hb'.2 hh]
theorem nx_wt {n : Nat} {f : Nat → Int} {x : Int} {b : Bool} {V : List Int} (hr : Rise (lsI f n)) (hx : 1 ≤ x ∧ x ≤ 7) (hV : Rise V) (hm : ∀ y, y ∈ V ↔ (y = x ∧ b = true) ∨ (y ≠ x ∧ y ∈ lsI f n)) : V = wtL b x f n 7 := by
  refine rise_eq hV.1 (wtL_pw _ _ _ _ _) fun y => ?_
  rw [hm, wtL_mem]
  by_cases e : y = x
  · subst e
    simp
    intro _
    omega
  · simp only [e, false_and, false_or, if_false, ne_eq, not_false_iff, true_and]
    rw [hasK_iff]
    exact ⟨fun h => ⟨by have := hr.2 y h; omega, h⟩, fun h => h.2⟩
theorem nxV_wt {n m : Nat} {f g : Nat → Int} {k x : Int} (h : fltC n f m g k x = 0) {b : Bool} (hb : (k == 2) = b) : nxV k x (lsI f n) = wtL b x f n 7 := by
  obtain ⟨hr, _, hx, _⟩ := flt_parts h
  obtain ⟨_, r1, r2, _⟩ := rightB_iff.1 hr
  refine nx_wt r1 hx (nxV_rise r1 hx.1 hx.2) fun y => ?_
  rw [nxV_mem, ← hb, beq_iff_eq]
theorem nxL_wt {n m : Nat} {f g : Nat → Int} {k x : Int} (h : fltC n f m g k x = 0) {b : Bool} (hb : (k == 1) = b) : nxL k x (lsI g m) = wtL b x g m 7 := by
  obtain ⟨hr, _, hx, _⟩ := flt_parts h
  obtain ⟨_, r1, r2, _⟩ := rightB_iff.1 hr
  refine nx_wt r2 hx (nxL_rise r2 hx.1 hx.2) fun y => ?_
  rw [nxL_mem, ← hb, beq_iff_eq]
theorem own_set {W : World} {base rb : Nat} {v : Value} {L : List Int} (o : OwnI base W v L) (hr : rb < base) (a b : Value) : OwnI base ((W.setCell ⟨rb, 0, none⟩ a).setCell ⟨rb, 1, none⟩ b) v L :=
  o.chg (S := [rb]) ((Chg.set W ⟨rb, 0, none⟩ a (by simp)).trans (Chg.set _ ⟨rb, 1, none⟩ b (by simp))) (fun g e => by have := (World.ownsRow.lt o g e).1; simp; omega)
set_option maxHeartbeats 8000000 in
set_option maxRecDepth 20000 in
theorem rNext_any (v1 v2 : Value) (n m : Nat) (f g : Nat → Int) (k x : Int) (w : World) (h1 : NRowL w v1 n f) (h2 : NRowL w v2 m g) :
    Calls Try.prog 15 #[.agg #[v1, v2], .int .i64 k, .int .i64 x] w fun e w' => NxPost w (fltC n f m g k x) (nxV k x (lsI f n)) (nxL k x (lsI g m)) e w' := by
  have R1 := hid h1
  have R2 := hid h2
  have hn := h1.1
  obtain ⟨_, p1, c1, rfl, _⟩ := h1
  obtain ⟨_, p2, c2, rfl, _⟩ := h2
  have hmm : (n : Int) ≤ 17592186044000 := by omega
  go_enter Try.func15, Try.ntmps15
  go_upto_region 1 with (fail)
  generalize hw1 : ((w.alloc (.cells #[.slice p1 n c1, .slice p2 m c2] 24)).alloc (.cells #[.slice none 0 0, .slice none 0 0] 24)) = w1
  have O1 := hid (show Old w w1 from by rw [← hw1]; exact ((Old.refl _).alloc _).alloc _)
  have hb1 : BxS w.heap.size (.slice p1 n c1) (.slice p2 m c2) w1 := by rw [← hw1]; exact ⟨((Old.refl _).alloc _).keep (by simp), ((Old.refl _).alloc _).keep (by simp)⟩
  have ht1 : T2 (w.heap.size + 1) w1 := by
    rw [← hw1]
    have q := T2.new (w.alloc (.cells #[.slice p1 n c1, .slice p2 m c2] 24))
    simpa using q
  have HZ := hid (show w.heap.size ≤ w.heap.size + 1 from by omega)
  have HZ3 := hid (show w.heap.size + 1 < w1.heap.size from by rw [← hw1]; simp)
  clear hw1
  obtain ⟨rb, hrb⟩ : ∃ rb, w.heap.size + 1 = rb := ⟨_, rfl⟩
  obtain ⟨cb, hcb⟩ : ∃ cb, w.heap.size = cb := ⟨_, rfl⟩
  rw [hrb] at ht1 HZ HZ3 ⊢
  rw [hcb] at hb1 ⊢
  obtain ⟨x0, x1⟩ := hb1
  obtain ⟨t0, t1, tf0, tf1⟩ := ht1
  clear hrb hcb
  have UU := hid (Old.refl w1)
  have HR := hid (fun (W : World) (u : Old w1 W) => rRight_any (.slice p1 n c1) (.slice p2 m c2) n m f g W (R1.out.old (O1.out.trans u)) (R2.out.old (O1.out.trans u)))
  have HM := hid (fun (W : World) (u : Old w1 W) => rMember_any (.slice p1 n c1) (.slice p2 m c2) n m f g x W (R1.out.old (O1.out.trans u)) (R2.out.old (O1.out.trans u)))
  have HV := hid (fun (W : World) (u : Old w1 W) => rVoter_any (.slice p1 n c1) (.slice p2 m c2) n m f g x W (R1.out.old (O1.out.trans u)) (R2.out.old (O1.out.trans u)))
  have HC := hid (fun (W : World) (u : Old w1 W) => rHas_any (.slice p2 m c2) m g x W (R2.out.old (O1.out.trans u)))
  cases hR : rightB n f m g with
  | false =>
    rw [hR] at HR
    have E : Hid (fltC n f m g k x = 1) := hid (by unfold fltC; rw [if_pos (.inl hR)])
    go_wp2_with (first | (go_at_call 18; refine (HR.out _ UU.out).mono ?_; rintro e w8 ⟨rfl, u8⟩; have UV := hid (UU.out.trans u8); have e0 := u8.keep x0; have e1 := u8.keep x1; have s0 := u8.keep t0; have s1 := u8.keep t1; have s2 := u8.keepF t0 tf0; have s3 := u8.keepF t1 tf1; clear UU x0 x1 tf0 tf1 t0 t1 u8; have UU := UV; have x0 := e0; have x1 := e1; have t0 := s0; have t1 := s1; have tf0 := s2; have tf1 := s3; clear UV e0 e1 s0 s1 s2 s3))
    obtain ⟨z0, z1⟩ := two_set t0 t1 (.slice none 0 0) (.slice none 0 0)
    refine bodyPost_ret (v := .tuple #[.agg #[.slice none 0 0, .slice none 0 0], .int .i64 1]) (by simp [results, Try.results15, go_sem, z0, z1]) rfl ⟨((O1.out.trans UU.out).setCell HZ.out _).setCell HZ.out _, .inl ⟨by rw [E.out]; decide, by rw [E.out]⟩⟩
  | true =>
    rw [hR] at HR
    by_cases q0 : k < 1
    · skip
      have E : Hid (fltC n f m g k x = 1) := hid (by unfold fltC; rw [if_pos (.inr (.inl q0))])
      go_wp2_with (first | (go_at_call 18; refine (HR.out _ UU.out).mono ?_; rintro e w8 ⟨rfl, u8⟩; have UV := hid (UU.out.trans u8); have e0 := u8.keep x0; have e1 := u8.keep x1; have s0 := u8.keep t0; have s1 := u8.keep t1; have s2 := u8.keepF t0 tf0; have s3 := u8.keepF t1 tf1; clear UU x0 x1 tf0 tf1 t0 t1 u8; have UU := UV; have x0 := e0; have x1 := e1; have t0 := s0; have t1 := s1; have tf0 := s2; have tf1 := s3; clear UV e0 e1 s0 s1 s2 s3))
      obtain ⟨z0, z1⟩ := two_set t0 t1 (.slice none 0 0) (.slice none 0 0)
      refine bodyPost_ret (v := .tuple #[.agg #[.slice none 0 0, .slice none 0 0], .int .i64 1]) (by simp [results, Try.results15, go_sem, z0, z1]) rfl ⟨((O1.out.trans UU.out).setCell HZ.out _).setCell HZ.out _, .inl ⟨by rw [E.out]; decide, by rw [E.out]⟩⟩
    · by_cases q1 : 3 < k
      · have q1' : k > 3 := q1
        have E : Hid (fltC n f m g k x = 1) := hid (by unfold fltC; rw [if_pos (.inr (.inr (.inl q1)))])
        go_wp2_with (first | (go_at_call 18; refine (HR.out _ UU.out).mono ?_; rintro e w8 ⟨rfl, u8⟩; have UV := hid (UU.out.trans u8); have e0 := u8.keep x0; have e1 := u8.keep x1; have s0 := u8.keep t0; have s1 := u8.keep t1; have s2 := u8.keepF t0 tf0; have s3 := u8.keepF t1 tf1; clear UU x0 x1 tf0 tf1 t0 t1 u8; have UU := UV; have x0 := e0; have x1 := e1; have t0 := s0; have t1 := s1; have tf0 := s2; have tf1 := s3; clear UV e0 e1 s0 s1 s2 s3))
        obtain ⟨z0, z1⟩ := two_set t0 t1 (.slice none 0 0) (.slice none 0 0)
        refine bodyPost_ret (v := .tuple #[.agg #[.slice none 0 0, .slice none 0 0], .int .i64 1]) (by simp [results, Try.results15, go_sem, z0, z1]) rfl ⟨((O1.out.trans UU.out).setCell HZ.out _).setCell HZ.out _, .inl ⟨by rw [E.out]; decide, by rw [E.out]⟩⟩
      · have q1' : ¬ k > 3 := q1
        by_cases q2 : x < 1
        · skip
          have E : Hid (fltC n f m g k x = 1) := hid (by unfold fltC; rw [if_pos (.inr (.inr (.inr (.inl q2))))])
          go_wp2_with (first | (go_at_call 18; refine (HR.out _ UU.out).mono ?_; rintro e w8 ⟨rfl, u8⟩; have UV := hid (UU.out.trans u8); have e0 := u8.keep x0; have e1 := u8.keep x1; have s0 := u8.keep t0; have s1 := u8.keep t1; have s2 := u8.keepF t0 tf0; have s3 := u8.keepF t1 tf1; clear UU x0 x1 tf0 tf1 t0 t1 u8; have UU := UV; have x0 := e0; have x1 := e1; have t0 := s0; have t1 := s1; have tf0 := s2; have tf1 := s3; clear UV e0 e1 s0 s1 s2 s3))
          obtain ⟨z0, z1⟩ := two_set t0 t1 (.slice none 0 0) (.slice none 0 0)
          refine bodyPost_ret (v := .tuple #[.agg #[.slice none 0 0, .slice none 0 0], .int .i64 1]) (by simp [results, Try.results15, go_sem, z0, z1]) rfl ⟨((O1.out.trans UU.out).setCell HZ.out _).setCell HZ.out _, .inl ⟨by rw [E.out]; decide, by rw [E.out]⟩⟩
        · by_cases q3 : 7 < x
          · have q3' : x > 7 := q3
            have E : Hid (fltC n f m g k x = 1) := hid (by unfold fltC; rw [if_pos (.inr (.inr (.inr (.inr q3))))])
            go_wp2_with (first | (go_at_call 18; refine (HR.out _ UU.out).mono ?_; rintro e w8 ⟨rfl, u8⟩; have UV := hid (UU.out.trans u8); have e0 := u8.keep x0; have e1 := u8.keep x1; have s0 := u8.keep t0; have s1 := u8.keep t1; have s2 := u8.keepF t0 tf0; have s3 := u8.keepF t1 tf1; clear UU x0 x1 tf0 tf1 t0 t1 u8; have UU := UV; have x0 := e0; have x1 := e1; have t0 := s0; have t1 := s1; have tf0 := s2; have tf1 := s3; clear UV e0 e1 s0 s1 s2 s3))
            obtain ⟨z0, z1⟩ := two_set t0 t1 (.slice none 0 0) (.slice none 0 0)
            refine bodyPost_ret (v := .tuple #[.agg #[.slice none 0 0, .slice none 0 0], .int .i64 1]) (by simp [results, Try.results15, go_sem, z0, z1]) rfl ⟨((O1.out.trans UU.out).setCell HZ.out _).setCell HZ.out _, .inl ⟨by rw [E.out]; decide, by rw [E.out]⟩⟩
          · have q3' : ¬ x > 7 := q3
            have hng : ¬ (rightB n f m g = false ∨ k < 1 ∨ 3 < k ∨ x < 1 ∨ 7 < x) := by rw [hR]; simp; omega
            by_cases k1 : k = 1
            · subst k1
              cases hM : memB n f m g x with
              | true =>
                rw [hM] at HM
                have E : Hid (fltC n f m g 1 x = 5) := hid (by unfold fltC; rw [if_neg hng, if_pos rfl, if_pos hM])
                go_wp2_with (first | (go_at_call 18; refine (HR.out _ UU.out).mono ?_; rintro e w8 ⟨rfl, u8⟩; have UV := hid (UU.out.trans u8); have e0 := u8.keep x0; have e1 := u8.keep x1; have s0 := u8.keep t0; have s1 := u8.keep t1; have s2 := u8.keepF t0 tf0; have s3 := u8.keepF t1 tf1; clear UU x0 x1 tf0 tf1 t0 t1 u8; have UU := UV; have x0 := e0; have x1 := e1; have t0 := s0; have t1 := s1; have tf0 := s2; have tf1 := s3; clear UV e0 e1 s0 s1 s2 s3) | (go_at_call 21; refine (HM.out _ UU.out).mono ?_; rintro e w8 ⟨rfl, u8⟩; have UV := hid (UU.out.trans u8); have e0 := u8.keep x0; have e1 := u8.keep x1; have s0 := u8.keep t0; have s1 := u8.keep t1; have s2 := u8.keepF t0 tf0; have s3 := u8.keepF t1 tf1; clear UU x0 x1 tf0 tf1 t0 t1 u8; have UU := UV; have x0 := e0; have x1 := e1; have t0 := s0; have t1 := s1; have tf0 := s2; have tf1 := s3; clear UV e0 e1 s0 s1 s2 s3))
                obtain ⟨z0, z1⟩ := two_set t0 t1 (.slice none 0 0) (.slice none 0 0)
                refine bodyPost_ret (v := .tuple #[.agg #[.slice none 0 0, .slice none 0 0], .int .i64 5]) (by simp [results, Try.results15, go_sem, z0, z1]) rfl ⟨((O1.out.trans UU.out).setCell HZ.out _).setCell HZ.out _, .inl ⟨by rw [E.out]; decide, by rw [E.out]⟩⟩
              | false =>
                rw [hM] at HM
                have E : Hid (fltC n f m g 1 x = 0) := hid (by unfold fltC; rw [if_neg hng, if_pos rfl, if_neg (by rw [hM]; simp)])
                have HWi := hid (fun (W : World) (u : Old w1 W) => rWith_any (.slice p1 n c1) (.slice p2 m c2) n m f g x false true W (R1.out.old (O1.out.trans u)) (R2.out.old (O1.out.trans u)))
                have EV := hid (nxV_wt E.out (b := false) (by simp))
                have EL := hid (nxL_wt E.out (b := true) (by simp))
                generalize wtL false x f n 7 = VV at *
                generalize wtL true x g m 7 = MM at *
                go_wp2_with (first | (go_at_call 18; refine (HR.out _ UU.out).mono ?_; rintro e w8 ⟨rfl, u8⟩; have UV := hid (UU.out.trans u8); have e0 := u8.keep x0; have e1 := u8.keep x1; have s0 := u8.keep t0; have s1 := u8.keep t1; have s2 := u8.keepF t0 tf0; have s3 := u8.keepF t1 tf1; clear UU x0 x1 tf0 tf1 t0 t1 u8; have UU := UV; have x0 := e0; have x1 := e1; have t0 := s0; have t1 := s1; have tf0 := s2; have tf1 := s3; clear UV e0 e1 s0 s1 s2 s3) | (go_at_call 21; refine (HM.out _ UU.out).mono ?_; rintro e w8 ⟨rfl, u8⟩; have UV := hid (UU.out.trans u8); have e0 := u8.keep x0; have e1 := u8.keep x1; have s0 := u8.keep t0; have s1 := u8.keep t1; have s2 := u8.keepF t0 tf0; have s3 := u8.keepF t1 tf1; clear UU x0 x1 tf0 tf1 t0 t1 u8; have UU := UV; have x0 := e0; have x1 := e1; have t0 := s0; have t1 := s1; have tf0 := s2; have tf1 := s3; clear UV e0 e1 s0 s1 s2 s3) | (go_at_call 40; have HRB := hid (Nat.lt_of_lt_of_le HZ3.out UU.out.size); have HUb := hid UU.out; refine (HWi.out _ UU.out).mono ?_; rintro e w8 ⟨y1, y2, rfl, o1, o2, u8⟩; obtain ⟨a1, d1, rfl⟩ := o1.len; obtain ⟨a2, d2, rfl⟩ := o2.len; have OW1 := hid o1; have OW2 := hid o2; clear o1 o2; have UV := hid (UU.out.trans u8); have e0 := u8.keep x0; have e1 := u8.keep x1; have s0 := u8.keep t0; have s1 := u8.keep t1; have s2 := u8.keepF t0 tf0; have s3 := u8.keepF t1 tf1; clear UU x0 x1 tf0 tf1 t0 t1 u8; have UU := UV; have x0 := e0; have x1 := e1; have t0 := s0; have t1 := s1; have tf0 := s2; have tf1 := s3; clear UV e0 e1 s0 s1 s2 s3))
                obtain ⟨z0, z1⟩ := two_set t0 t1 (.slice a1 VV.length d1) (.slice a2 MM.length d2)
                refine bodyPost_ret (v := .tuple #[.agg #[.slice a1 VV.length d1, .slice a2 MM.length d2], .int .i64 0]) (by simp [results, Try.results15, go_sem, z0, z1]) rfl ⟨((O1.out.trans UU.out).setCell HZ.out _).setCell HZ.out _, .inr ⟨E.out, _, _, rfl, ?_, ?_⟩⟩
                · rw [EV.out]; exact (own_set OW1.out HRB.out _ _).mono (O1.out.trans HUb.out).size
                · rw [EL.out]; exact (own_set OW2.out HRB.out _ _).mono (O1.out.trans HUb.out).size
            · have e1 : (k == 1) = false := by simp [k1]
              by_cases k2 : k = 2
              · subst k2
                cases hG : hasK g x m with
                | false =>
                  rw [hG] at HC
                  have E : Hid (fltC n f m g 2 x = 4) := hid (by unfold fltC; rw [if_neg hng, if_neg (by omega), if_pos rfl, if_pos hG])
                  go_wp2_with (first | (go_at_call 18; refine (HR.out _ UU.out).mono ?_; rintro e w8 ⟨rfl, u8⟩; have UV := hid (UU.out.trans u8); have e0 := u8.keep x0; have e1 := u8.keep x1; have s0 := u8.keep t0; have s1 := u8.keep t1; have s2 := u8.keepF t0 tf0; have s3 := u8.keepF t1 tf1; clear UU x0 x1 tf0 tf1 t0 t1 u8; have UU := UV; have x0 := e0; have x1 := e1; have t0 := s0; have t1 := s1; have tf0 := s2; have tf1 := s3; clear UV e0 e1 s0 s1 s2 s3) | (go_at_call 39; refine (HC.out _ UU.out).mono ?_; rintro e w8 ⟨rfl, u8⟩; have UV := hid (UU.out.trans u8); have e0 := u8.keep x0; have e1 := u8.keep x1; have s0 := u8.keep t0; have s1 := u8.keep t1; have s2 := u8.keepF t0 tf0; have s3 := u8.keepF t1 tf1; clear UU x0 x1 tf0 tf1 t0 t1 u8; have UU := UV; have x0 := e0; have x1 := e1; have t0 := s0; have t1 := s1; have tf0 := s2; have tf1 := s3; clear UV e0 e1 s0 s1 s2 s3))
                  obtain ⟨z0, z1⟩ := two_set t0 t1 (.slice none 0 0) (.slice none 0 0)
                  refine bodyPost_ret (v := .tuple #[.agg #[.slice none 0 0, .slice none 0 0], .int .i64 4]) (by simp [results, Try.results15, go_sem, z0, z1]) rfl ⟨((O1.out.trans UU.out).setCell HZ.out _).setCell HZ.out _, .inl ⟨by rw [E.out]; decide, by rw [E.out]⟩⟩
                | true =>
                  rw [hG] at HC
                  have E : Hid (fltC n f m g 2 x = 0) := hid (by unfold fltC; rw [if_neg hng, if_neg (by omega), if_pos rfl, if_neg (by rw [hG]; simp)])
                  have HWi := hid (fun (W : World) (u : Old w1 W) => rWith_any (.slice p1 n c1) (.slice p2 m c2) n m f g x true false W (R1.out.old (O1.out.trans u)) (R2.out.old (O1.out.trans u)))
                  have EV := hid (nxV_wt E.out (b := true) (by simp))
                  have EL := hid (nxL_wt E.out (b := false) (by simp))
                  generalize wtL true x f n 7 = VV at *
                  generalize wtL false x g m 7 = MM at *
                  go_wp2_with (first | (go_at_call 18; refine (HR.out _ UU.out).mono ?_; rintro e w8 ⟨rfl, u8⟩; have UV := hid (UU.out.trans u8); have e0 := u8.keep x0; have e1 := u8.keep x1; have s0 := u8.keep t0; have s1 := u8.keep t1; have s2 := u8.keepF t0 tf0; have s3 := u8.keepF t1 tf1; clear UU x0 x1 tf0 tf1 t0 t1 u8; have UU := UV; have x0 := e0; have x1 := e1; have t0 := s0; have t1 := s1; have tf0 := s2; have tf1 := s3; clear UV e0 e1 s0 s1 s2 s3) | (go_at_call 39; refine (HC.out _ UU.out).mono ?_; rintro e w8 ⟨rfl, u8⟩; have UV := hid (UU.out.trans u8); have e0 := u8.keep x0; have e1 := u8.keep x1; have s0 := u8.keep t0; have s1 := u8.keep t1; have s2 := u8.keepF t0 tf0; have s3 := u8.keepF t1 tf1; clear UU x0 x1 tf0 tf1 t0 t1 u8; have UU := UV; have x0 := e0; have x1 := e1; have t0 := s0; have t1 := s1; have tf0 := s2; have tf1 := s3; clear UV e0 e1 s0 s1 s2 s3) | (go_at_call 40; have HRB := hid (Nat.lt_of_lt_of_le HZ3.out UU.out.size); have HUb := hid UU.out; refine (HWi.out _ UU.out).mono ?_; rintro e w8 ⟨y1, y2, rfl, o1, o2, u8⟩; obtain ⟨a1, d1, rfl⟩ := o1.len; obtain ⟨a2, d2, rfl⟩ := o2.len; have OW1 := hid o1; have OW2 := hid o2; clear o1 o2; have UV := hid (UU.out.trans u8); have e0 := u8.keep x0; have e1 := u8.keep x1; have s0 := u8.keep t0; have s1 := u8.keep t1; have s2 := u8.keepF t0 tf0; have s3 := u8.keepF t1 tf1; clear UU x0 x1 tf0 tf1 t0 t1 u8; have UU := UV; have x0 := e0; have x1 := e1; have t0 := s0; have t1 := s1; have tf0 := s2; have tf1 := s3; clear UV e0 e1 s0 s1 s2 s3))
                  obtain ⟨z0, z1⟩ := two_set t0 t1 (.slice a1 VV.length d1) (.slice a2 MM.length d2)
                  refine bodyPost_ret (v := .tuple #[.agg #[.slice a1 VV.length d1, .slice a2 MM.length d2], .int .i64 0]) (by simp [results, Try.results15, go_sem, z0, z1]) rfl ⟨((O1.out.trans UU.out).setCell HZ.out _).setCell HZ.out _, .inr ⟨E.out, _, _, rfl, ?_, ?_⟩⟩
                  · rw [EV.out]; exact (own_set OW1.out HRB.out _ _).mono (O1.out.trans HUb.out).size
                  · rw [EL.out]; exact (own_set OW2.out HRB.out _ _).mono (O1.out.trans HUb.out).size
              · have e2 : (k == 2) = false := by simp [k2]
                cases hM : memB n f m g x with
                | false =>
                  rw [hM] at HM
                  have E : Hid (fltC n f m g k x = 4) := hid (by unfold fltC; rw [if_neg hng, if_neg k1, if_neg k2, if_pos hM])
                  go_wp2_with (first | (go_at_call 18; refine (HR.out _ UU.out).mono ?_; rintro e w8 ⟨rfl, u8⟩; have UV := hid (UU.out.trans u8); have e0 := u8.keep x0; have e1 := u8.keep x1; have s0 := u8.keep t0; have s1 := u8.keep t1; have s2 := u8.keepF t0 tf0; have s3 := u8.keepF t1 tf1; clear UU x0 x1 tf0 tf1 t0 t1 u8; have UU := UV; have x0 := e0; have x1 := e1; have t0 := s0; have t1 := s1; have tf0 := s2; have tf1 := s3; clear UV e0 e1 s0 s1 s2 s3) | (go_at_call 21; refine (HM.out _ UU.out).mono ?_; rintro e w8 ⟨rfl, u8⟩; have UV := hid (UU.out.trans u8); have e0 := u8.keep x0; have e1 := u8.keep x1; have s0 := u8.keep t0; have s1 := u8.keep t1; have s2 := u8.keepF t0 tf0; have s3 := u8.keepF t1 tf1; clear UU x0 x1 tf0 tf1 t0 t1 u8; have UU := UV; have x0 := e0; have x1 := e1; have t0 := s0; have t1 := s1; have tf0 := s2; have tf1 := s3; clear UV e0 e1 s0 s1 s2 s3))
                  obtain ⟨z0, z1⟩ := two_set t0 t1 (.slice none 0 0) (.slice none 0 0)
                  refine bodyPost_ret (v := .tuple #[.agg #[.slice none 0 0, .slice none 0 0], .int .i64 4]) (by simp [results, Try.results15, go_sem, z0, z1]) rfl ⟨((O1.out.trans UU.out).setCell HZ.out _).setCell HZ.out _, .inl ⟨by rw [E.out]; decide, by rw [E.out]⟩⟩
                | true =>
                  rw [hM] at HM
                  cases hV : hasK f x n with
                  | false =>
                    rw [hV] at HV
                    have E : Hid (fltC n f m g k x = 0) := hid (by unfold fltC; rw [if_neg hng, if_neg k1, if_neg k2, if_neg (by rw [hM]; simp), if_neg (by rw [hV]; simp)])
                    have HWi := hid (fun (W : World) (u : Old w1 W) => rWith_any (.slice p1 n c1) (.slice p2 m c2) n m f g x false false W (R1.out.old (O1.out.trans u)) (R2.out.old (O1.out.trans u)))
                    have EV := hid (nxV_wt E.out (b := false) (by simp [k1, k2]))
                    have EL := hid (nxL_wt E.out (b := false) (by simp [k1, k2]))
                    generalize wtL false x f n 7 = VV at *
                    generalize wtL false x g m 7 = MM at *
                    go_wp2_with (first | (go_at_call 18; refine (HR.out _ UU.out).mono ?_; rintro e w8 ⟨rfl, u8⟩; have UV := hid (UU.out.trans u8); have e0 := u8.keep x0; have e1 := u8.keep x1; have s0 := u8.keep t0; have s1 := u8.keep t1; have s2 := u8.keepF t0 tf0; have s3 := u8.keepF t1 tf1; clear UU x0 x1 tf0 tf1 t0 t1 u8; have UU := UV; have x0 := e0; have x1 := e1; have t0 := s0; have t1 := s1; have tf0 := s2; have tf1 := s3; clear UV e0 e1 s0 s1 s2 s3) | (go_at_call 21; refine (HM.out _ UU.out).mono ?_; rintro e w8 ⟨rfl, u8⟩; have UV := hid (UU.out.trans u8); have e0 := u8.keep x0; have e1 := u8.keep x1; have s0 := u8.keep t0; have s1 := u8.keep t1; have s2 := u8.keepF t0 tf0; have s3 := u8.keepF t1 tf1; clear UU x0 x1 tf0 tf1 t0 t1 u8; have UU := UV; have x0 := e0; have x1 := e1; have t0 := s0; have t1 := s1; have tf0 := s2; have tf1 := s3; clear UV e0 e1 s0 s1 s2 s3) | (go_at_call 20; refine (HV.out _ UU.out).mono ?_; rintro e w8 ⟨rfl, u8⟩; have UV := hid (UU.out.trans u8); have e0 := u8.keep x0; have e1 := u8.keep x1; have s0 := u8.keep t0; have s1 := u8.keep t1; have s2 := u8.keepF t0 tf0; have s3 := u8.keepF t1 tf1; clear UU x0 x1 tf0 tf1 t0 t1 u8; have UU := UV; have x0 := e0; have x1 := e1; have t0 := s0; have t1 := s1; have tf0 := s2; have tf1 := s3; clear UV e0 e1 s0 s1 s2 s3) | (go_at_call 40; have HRB := hid (Nat.lt_of_lt_of_le HZ3.out UU.out.size); have HUb := hid UU.out; refine (HWi.out _ UU.out).mono ?_; rintro e w8 ⟨y1, y2, rfl, o1, o2, u8⟩; obtain ⟨a1, d1, rfl⟩ := o1.len; obtain ⟨a2, d2, rfl⟩ := o2.len; have OW1 := hid o1; have OW2 := hid o2; clear o1 o2; have UV := hid (UU.out.trans u8); have e0 := u8.keep x0; have e1 := u8.keep x1; have s0 := u8.keep t0; have s1 := u8.keep t1; have s2 := u8.keepF t0 tf0; have s3 := u8.keepF t1 tf1; clear UU x0 x1 tf0 tf1 t0 t1 u8; have UU := UV; have x0 := e0; have x1 := e1; have t0 := s0; have t1 := s1; have tf0 := s2; have tf1 := s3; clear UV e0 e1 s0 s1 s2 s3))
                    obtain ⟨z0, z1⟩ := two_set t0 t1 (.slice a1 VV.length d1) (.slice a2 MM.length d2)
                    refine bodyPost_ret (v := .tuple #[.agg #[.slice a1 VV.length d1, .slice a2 MM.length d2], .int .i64 0]) (by simp [results, Try.results15, go_sem, z0, z1]) rfl ⟨((O1.out.trans UU.out).setCell HZ.out _).setCell HZ.out _, .inr ⟨E.out, _, _, rfl, ?_, ?_⟩⟩
                    · rw [EV.out]; exact (own_set OW1.out HRB.out _ _).mono (O1.out.trans HUb.out).size
                    · rw [EL.out]; exact (own_set OW2.out HRB.out _ _).mono (O1.out.trans HUb.out).size
                  | true =>
                    rw [hV] at HV
                    by_cases hn1 : n = 1
                    · have f1 : ((n : Int) == 1) = true := by simp [hn1]
                      have E1 := hid hn1
                      clear hn1
                      have E : Hid (fltC n f m g k x = 3) := hid (by unfold fltC; rw [if_neg hng, if_neg k1, if_neg k2, if_neg (by rw [hM]; simp), if_pos ⟨hV, E1.out⟩])
                      go_wp2_with (first | (go_at_call 18; refine (HR.out _ UU.out).mono ?_; rintro e w8 ⟨rfl, u8⟩; have UV := hid (UU.out.trans u8); have e0 := u8.keep x0; have e1 := u8.keep x1; have s0 := u8.keep t0; have s1 := u8.keep t1; have s2 := u8.keepF t0 tf0; have s3 := u8.keepF t1 tf1; clear UU x0 x1 tf0 tf1 t0 t1 u8; have UU := UV; have x0 := e0; have x1 := e1; have t0 := s0; have t1 := s1; have tf0 := s2; have tf1 := s3; clear UV e0 e1 s0 s1 s2 s3) | (go_at_call 21; refine (HM.out _ UU.out).mono ?_; rintro e w8 ⟨rfl, u8⟩; have UV := hid (UU.out.trans u8); have e0 := u8.keep x0; have e1 := u8.keep x1; have s0 := u8.keep t0; have s1 := u8.keep t1; have s2 := u8.keepF t0 tf0; have s3 := u8.keepF t1 tf1; clear UU x0 x1 tf0 tf1 t0 t1 u8; have UU := UV; have x0 := e0; have x1 := e1; have t0 := s0; have t1 := s1; have tf0 := s2; have tf1 := s3; clear UV e0 e1 s0 s1 s2 s3) | (go_at_call 20; refine (HV.out _ UU.out).mono ?_; rintro e w8 ⟨rfl, u8⟩; have UV := hid (UU.out.trans u8); have e0 := u8.keep x0; have e1 := u8.keep x1; have s0 := u8.keep t0; have s1 := u8.keep t1; have s2 := u8.keepF t0 tf0; have s3 := u8.keepF t1 tf1; clear UU x0 x1 tf0 tf1 t0 t1 u8; have UU := UV; have x0 := e0; have x1 := e1; have t0 := s0; have t1 := s1; have tf0 := s2; have tf1 := s3; clear UV e0 e1 s0 s1 s2 s3))
                      obtain ⟨z0, z1⟩ := two_set t0 t1 (.slice none 0 0) (.slice none 0 0)
                      refine bodyPost_ret (v := .tuple #[.agg #[.slice none 0 0, .slice none 0 0], .int .i64 3]) (by simp [results, Try.results15, go_sem, z0, z1]) rfl ⟨((O1.out.trans UU.out).setCell HZ.out _).setCell HZ.out _, .inl ⟨by rw [E.out]; decide, by rw [E.out]⟩⟩
                    · have f1 : ((n : Int) == 1) = false := by simp; omega
                      have E : Hid (fltC n f m g k x = 0) := hid (by unfold fltC; rw [if_neg hng, if_neg k1, if_neg k2, if_neg (by rw [hM]; simp), if_neg (fun h => hn1 h.2)])
                      have HWi := hid (fun (W : World) (u : Old w1 W) => rWith_any (.slice p1 n c1) (.slice p2 m c2) n m f g x false false W (R1.out.old (O1.out.trans u)) (R2.out.old (O1.out.trans u)))
                      have EV := hid (nxV_wt E.out (b := false) (by simp [k1, k2]))
                      have EL := hid (nxL_wt E.out (b := false) (by simp [k1, k2]))
                      generalize wtL false x f n 7 = VV at *
                      generalize wtL false x g m 7 = MM at *
                      go_wp2_with (first | (go_at_call 18; refine (HR.out _ UU.out).mono ?_; rintro e w8 ⟨rfl, u8⟩; have UV := hid (UU.out.trans u8); have e0 := u8.keep x0; have e1 := u8.keep x1; have s0 := u8.keep t0; have s1 := u8.keep t1; have s2 := u8.keepF t0 tf0; have s3 := u8.keepF t1 tf1; clear UU x0 x1 tf0 tf1 t0 t1 u8; have UU := UV; have x0 := e0; have x1 := e1; have t0 := s0; have t1 := s1; have tf0 := s2; have tf1 := s3; clear UV e0 e1 s0 s1 s2 s3) | (go_at_call 21; refine (HM.out _ UU.out).mono ?_; rintro e w8 ⟨rfl, u8⟩; have UV := hid (UU.out.trans u8); have e0 := u8.keep x0; have e1 := u8.keep x1; have s0 := u8.keep t0; have s1 := u8.keep t1; have s2 := u8.keepF t0 tf0; have s3 := u8.keepF t1 tf1; clear UU x0 x1 tf0 tf1 t0 t1 u8; have UU := UV; have x0 := e0; have x1 := e1; have t0 := s0; have t1 := s1; have tf0 := s2; have tf1 := s3; clear UV e0 e1 s0 s1 s2 s3) | (go_at_call 20; refine (HV.out _ UU.out).mono ?_; rintro e w8 ⟨rfl, u8⟩; have UV := hid (UU.out.trans u8); have e0 := u8.keep x0; have e1 := u8.keep x1; have s0 := u8.keep t0; have s1 := u8.keep t1; have s2 := u8.keepF t0 tf0; have s3 := u8.keepF t1 tf1; clear UU x0 x1 tf0 tf1 t0 t1 u8; have UU := UV; have x0 := e0; have x1 := e1; have t0 := s0; have t1 := s1; have tf0 := s2; have tf1 := s3; clear UV e0 e1 s0 s1 s2 s3) | (go_at_call 40; have HRB := hid (Nat.lt_of_lt_of_le HZ3.out UU.out.size); have HUb := hid UU.out; refine (HWi.out _ UU.out).mono ?_; rintro e w8 ⟨y1, y2, rfl, o1, o2, u8⟩; obtain ⟨a1, d1, rfl⟩ := o1.len; obtain ⟨a2, d2, rfl⟩ := o2.len; have OW1 := hid o1; have OW2 := hid o2; clear o1 o2; have UV := hid (UU.out.trans u8); have e0 := u8.keep x0; have e1 := u8.keep x1; have s0 := u8.keep t0; have s1 := u8.keep t1; have s2 := u8.keepF t0 tf0; have s3 := u8.keepF t1 tf1; clear UU x0 x1 tf0 tf1 t0 t1 u8; have UU := UV; have x0 := e0; have x1 := e1; have t0 := s0; have t1 := s1; have tf0 := s2; have tf1 := s3; clear UV e0 e1 s0 s1 s2 s3))
                      obtain ⟨z0, z1⟩ := two_set t0 t1 (.slice a1 VV.length d1) (.slice a2 MM.length d2)
                      refine bodyPost_ret (v := .tuple #[.agg #[.slice a1 VV.length d1, .slice a2 MM.length d2], .int .i64 0]) (by simp [results, Try.results15, go_sem, z0, z1]) rfl ⟨((O1.out.trans UU.out).setCell HZ.out _).setCell HZ.out _, .inr ⟨E.out, _, _, rfl, ?_, ?_⟩⟩
                      · rw [EV.out]; exact (own_set OW1.out HRB.out _ _).mono (O1.out.trans HUb.out).size
                      · rw [EL.out]; exact (own_set OW2.out HRB.out _ _).mono (O1.out.trans HUb.out).size
end Go.Proofs.Ytcicefpcledmgaa
