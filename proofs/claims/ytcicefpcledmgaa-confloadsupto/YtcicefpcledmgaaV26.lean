/- The document's with, of layer 15; conditions: the rows lie in memory. -/
import Derived.Test.YtcicefpcledmgaaV23
import Derived.Test.YtcicefpcledmgaaV19
namespace Go.Proofs.Ytcicefpcledmgaa
open Go.RowKit Go.Lib
set_option linter.unusedVariables false
set_option linter.unusedSimpArgs false
set_option maxRecDepth 20000
/-- Of the numbers 1 to k those that are there: the one that is changed, and of the others those of a row. -/
def wtL (b : Bool) (x : Int) (f : Nat → Int) (n : Nat) : Nat → List Int
  | 0 => []
  | k + 1 => wtL b x f n k ++ (if (if ((k + 1 : Nat) : Int) = x then b else hasK f ((k + 1 : Nat) : Int) n) = true then [((k + 1 : Nat) : Int)] else [])
theorem wtL_succ (b : Bool) (x : Int) (f : Nat → Int) (n k : Nat) (hk : 1 ≤ k) : wtL b x f n (k + 1 - 1) = wtL b x f n (k - 1) ++ (if (if (k : Int) = x then b else hasK f (k : Int) n) = true then [(k : Int)] else []) := by
  obtain ⟨j, rfl⟩ : ∃ j, k = j + 1 := ⟨k - 1, by omega⟩
  rfl
theorem wtL_len (b : Bool) (x : Int) (f : Nat → Int) (n : Nat) : ∀ k, (wtL b x f n k).length ≤ k
  | 0 => Nat.le_refl _
  | k + 1 => by
    have := wtL_len b x f n k
    unfold wtL
    rw [List.length_append]
    have : ∀ c : Bool, (if c = true then [((k + 1 : Nat) : Int)] else []).length ≤ 1 := fun c => by cases c <;> simp
    have := this (if ((k + 1 : Nat) : Int) = x then b else hasK f ((k + 1 : Nat) : Int) n)
    omega
theorem NxB.old {w3 W W' : World} {nb : Nat} {v1 v2 : Value} {L1 L2 : List Int} (h : NxB w3 nb v1 v2 L1 L2 W) (u : Old W W') : NxB w3 nb v1 v2 L1 L2 W' :=
  ⟨h.u.trans u, h.z, u.keep h.c0, u.keep h.c1, u.keepF h.c0 h.f0, u.keepF h.c1 h.f1, h.o1.up u, h.o2.up u, h.d1, h.d2, h.d12⟩
theorem chg_old {S : List Nat} {w w' : World} (h : Old w w') : Chg S w w' := ⟨h.os, h.tape, h.output, h.size, fun k hk _ => Below.block h k hk⟩
theorem chg_app {W w5 : World} {o : Obj} {v : Value} (g : (W.alloc o).grownBy w5 v.ownBlock) : Chg v.ownBlock.toList W w5 :=
  (chg_old (S := v.ownBlock.toList) ((Old.refl W).alloc o)).trans ⟨g.os, g.tape, g.output, g.size, fun j hj hn => g.block j hj (fun e => hn (by rw [← e]; simp))⟩
theorem new_app {W : World} {o : Obj} {v v5 : Value} (n : v5.ownBlock = v.ownBlock ∨ v5.ownBlock = some (W.alloc o).heap.size) : ∀ k, v5.ownBlock = some k → v.ownBlock = some k ∨ W.heap.size ≤ k := fun k e => by
  rcases n with n | n
  · exact .inl (n ▸ e)
  · rw [n] at e
    cases e
    right
    simp
theorem NxB.app1 {w3 W w5 : World} {o : Obj} {nb : Nat} {v1 v2 v5 : Value} {L1 L2 L5 : List Int} (h : NxB w3 nb v1 v2 L1 L2 W) (g : (W.alloc o).grownBy w5 v1.ownBlock) (o5 : OwnI w3.heap.size w5 v5 L5) (n : v5.ownBlock = v1.ownBlock ∨ v5.ownBlock = some (W.alloc o).heap.size) : NxB w3 nb v5 v2 L5 L2 (w5.setCell ⟨nb, 0, none⟩ v5) := h.grow1 (chg_app g) o5 (new_app n)
theorem NxB.app2 {w3 W w5 : World} {o : Obj} {nb : Nat} {v1 v2 v5 : Value} {L1 L2 L5 : List Int} (h : NxB w3 nb v1 v2 L1 L2 W) (g : (W.alloc o).grownBy w5 v2.ownBlock) (o5 : OwnI w3.heap.size w5 v5 L5) (n : v5.ownBlock = v2.ownBlock ∨ v5.ownBlock = some (W.alloc o).heap.size) : NxB w3 nb v1 v5 L1 L5 (w5.setCell ⟨nb, 1, none⟩ v5) := h.grow2 (chg_app g) o5 (new_app n)
set_option maxHeartbeats 8000000 in
set_option maxRecDepth 20000 in
theorem rWith_any (v1 v2 : Value) (n m : Nat) (f g : Nat → Int) (x : Int) (bv bl : Bool) (w : World) (h1 : NRowL w v1 n f) (h2 : NRowL w v2 m g) :
    Calls Try.prog 40 #[.agg #[v1, v2], .int .i64 x, .bool bv, .bool bl] w fun e w' => ∃ y1 y2, e = .returned (.agg #[y1, y2]) ∧ OwnI w.heap.size w' y1 (wtL bv x f n 7) ∧ OwnI w.heap.size w' y2 (wtL bl x g m 7) ∧ Old w w' := by
  have HV0 := hid (fun (y : Int) (W : World) (u : Old w W) => rVoter_any v1 v2 n m f g y W (h1.old u) (h2.old u))
  have HL0 := hid (fun (y : Int) (W : World) (u : Old w W) => rHas_any v2 m g y W (h2.old u))
  obtain ⟨_, p1, c1, rfl, _⟩ := h1
  obtain ⟨_, p2, c2, rfl, _⟩ := h2
  go_enter Try.func40, Try.ntmps40
  go_upto_region 1 with (fail)
  generalize hw1 : ((w.alloc (.cells #[.slice p1 n c1, .slice p2 m c2] 24)).alloc (.cells #[.slice none 0 0, .slice none 0 0] 24)) = w3
  have O1 := hid (show Old w w3 from by rw [← hw1]; exact ((Old.refl _).alloc _).alloc _)
  have hb1 : BxS w.heap.size (.slice p1 n c1) (.slice p2 m c2) w3 := by rw [← hw1]; exact ⟨((Old.refl _).alloc _).keep (by simp), ((Old.refl _).alloc _).keep (by simp)⟩
  have ht1 : T2 (w.heap.size + 1) w3 := by
    rw [← hw1]
    have q := T2.new (w.alloc (.cells #[.slice p1 n c1, .slice p2 m c2] 24))
    simpa using q
  have HZ := hid (show w.heap.size ≤ w.heap.size + 1 from by omega)
  have HZ3 := hid (show w.heap.size + 1 < w3.heap.size from by rw [← hw1]; simp)
  clear hw1
  obtain ⟨rb, hrb⟩ : ∃ rb, w.heap.size + 1 = rb := ⟨_, rfl⟩
  obtain ⟨cb, hcb⟩ : ∃ cb, w.heap.size = cb := ⟨_, rfl⟩
  rw [hrb] at ht1 HZ HZ3 ⊢
  rw [hcb] at hb1 ⊢
  have B0 := hid hb1.1
  have B1 := hid hb1.2
  have HT := hid ht1
  clear ht1 hb1 hrb
  go_upto_region 2 with (fail)
  have NB0 := hid (show NxB w3 w3.heap.size (.slice none 0 0) (.slice none 0 0) [] [] (w3.alloc (.cells #[.slice none 0 0, .slice none 0 0] 24)) from ⟨(Old.refl w3).alloc _, Nat.le_refl _, by simp, by simp, by simp, by simp, ⟨rfl, .inl ⟨rfl, rfl⟩⟩, ⟨rfl, .inl ⟨rfl, rfl⟩⟩, (fun j e => by cases e), (fun j e => by cases e), (fun j e => by cases e)⟩)
  have HV1 := hid (fun (y : Int) (W : World) (u : Old w3 W) => HV0.out y W (O1.out.trans u))
  have HL1 := hid (fun (y : Int) (W : World) (u : Old w3 W) => HL0.out y W (O1.out.trans u))
  clear HV0 HL0
  generalize w3.alloc (.cells #[.slice none 0 0, .slice none 0 0] 24) = w2 at *
  obtain ⟨nb, hnb⟩ : ∃ nb, w3.heap.size = nb := ⟨_, rfl⟩
  rw [hnb] at NB0 ⊢
  have HNb := hid hnb
  clear hnb
  go_upto_region 3 with (fail)
  go_loopw [10] (fun i wr => ∃ (k : Nat) (x1 x2 : Value) (L1 L2 : List Int), 1 ≤ k ∧ k ≤ 8 ∧ i = .int .i64 (k : Nat) ∧ L1 = wtL bv x f n (k - 1) ∧ L2 = wtL bl x g m (k - 1) ∧ NxB w3 nb x1 x2 L1 L2 wr) (fun i _ => 8 - (intOf i).toNat)
  case atStart => exact ⟨1, _, _, [], [], by omega, by omega, rfl, rfl, rfl, NB0.out⟩
  case round =>
    obtain ⟨k, x1, x2, L1, L2, hk1, hk8, rfl, e1, e2, nbx⟩ := hrel
    obtain ⟨ay1, dy1, rfl⟩ := nbx.o1.len
    obtain ⟨ay2, dy2, rfl⟩ := nbx.o2.len
    have NB := hid nbx
    have b0 := nbx.u.keep B0.out
    have b1 := nbx.u.keep B1.out
    have c0 := nbx.c0
    have c1 := nbx.c1
    clear nbx NB0
    by_cases hk7 : k ≤ 7
    · have m1 : (k : Int) ≤ 7 := by omega
      have HS1 := hid (wtL_succ bv x f n k hk1)
      have HS2 := hid (wtL_succ bl x g m k hk1)
      have HLn := hid (And.intro (wtL_len bv x f n (k - 1)) (wtL_len bl x g m (k - 1)))
      rw [← e1] at HS1 HLn
      rw [← e2] at HS2 HLn
      have HV := hid (HV1.out (k : Int))
      have HL := hid (HL1.out (k : Int))
      clear e1 e2 HV1 HL1
      by_cases hkx : (k : Int) = x
      · rw [if_pos hkx] at HS1 HS2
        subst hkx
        cases bv <;> cases bl
        · skip
          go_upto_region 7 with (fail)
          go_wp2
          go_roundw
          case rel => exact ⟨k + 1, _, _, L1, L2, by omega, by omega, by go_num, (HS1.out.trans (by simp)).symm, (HS2.out.trans (by simp)).symm, NB.out⟩
          case measure => simp [intOf]; omega
        · skip
          go_upto_region 7 with (fail)
          go_wp2_with (first | (at_builtin; refine wp_appI rfl (.tmp 56) (.tmp 58) rfl w3.heap.size _ L2 _ 1 (k : Int) rfl rfl (NB.out.o2.up ((Old.refl _).alloc _)) (cell_oneI _ _ _ rfl) (by have := HLn.out.2; omega) (by have := NB.out.u.size; simp; omega) ?_; intro v5 w6 o5 g5 n5; obtain ⟨aw6, dw6, ew6⟩ := o5.len; rw [List.length_append, List.length_singleton] at ew6; subst ew6; have O5 := hid o5; have FA := NB.out.far (.inr rfl) (chg_app g5); have G5 := hid g5; have N5 := hid n5; obtain ⟨_, q1, q2, q3, q4⟩ := FA; clear o5 g5 n5))
          have NB6 := hid (NB.out.app2 G5.out O5.out N5.out)
          go_roundw
          case rel => exact ⟨k + 1, _, _, L1, L2 ++ [(k : Int)], by omega, by omega, by go_num, (HS1.out.trans (by simp)).symm, (HS2.out.trans (by simp)).symm, NB6.out⟩
          case measure => simp [intOf]; omega
        · skip
          go_upto_region 7 with (first | (at_builtin; refine wp_appI rfl (.tmp 33) (.tmp 35) rfl w3.heap.size _ L1 _ 1 (k : Int) rfl rfl (NB.out.o1.up ((Old.refl _).alloc _)) (cell_oneI _ _ _ rfl) (by have := HLn.out.1; omega) (by have := NB.out.u.size; simp; omega) ?_; intro v5 w5 o5 g5 n5; obtain ⟨aw5, dw5, ew5⟩ := o5.len; rw [List.length_append, List.length_singleton] at ew5; subst ew5; have O5 := hid o5; have FA := NB.out.far (.inl rfl) (chg_app g5); have G5 := hid g5; have N5 := hid n5; obtain ⟨_, q1, q2, q3, q4⟩ := FA; clear o5 g5 n5))
          have NB6 := hid (NB.out.app1 G5.out O5.out N5.out)
          have b0' := NB6.out.u.keep B0.out
          have b1' := NB6.out.u.keep B1.out
          have c0' := NB6.out.c0
          have c1' := NB6.out.c1
          clear NB b0 b1 c0 c1 q1 q2 q3 q4 G5 O5 N5
          have NB := NB6
          clear NB6
          have b0 := b0'
          have b1 := b1'
          have c0 := c0'
          have c1 := c1'
          clear b0' b1' c0' c1'
          generalize w5.setCell ⟨nb, 0, none⟩ (.slice aw5 (L1.length + 1) dw5) = W5 at *
          go_wp2
          go_roundw
          case rel => exact ⟨k + 1, _, _, L1 ++ [(k : Int)], L2, by omega, by omega, by go_num, (HS1.out.trans (by simp)).symm, (HS2.out.trans (by simp)).symm, NB.out⟩
          case measure => simp [intOf]; omega
        · skip
          go_upto_region 7 with (first | (at_builtin; refine wp_appI rfl (.tmp 33) (.tmp 35) rfl w3.heap.size _ L1 _ 1 (k : Int) rfl rfl (NB.out.o1.up ((Old.refl _).alloc _)) (cell_oneI _ _ _ rfl) (by have := HLn.out.1; omega) (by have := NB.out.u.size; simp; omega) ?_; intro v5 w5 o5 g5 n5; obtain ⟨aw5, dw5, ew5⟩ := o5.len; rw [List.length_append, List.length_singleton] at ew5; subst ew5; have O5 := hid o5; have FA := NB.out.far (.inl rfl) (chg_app g5); have G5 := hid g5; have N5 := hid n5; obtain ⟨_, q1, q2, q3, q4⟩ := FA; clear o5 g5 n5))
          have NB6 := hid (NB.out.app1 G5.out O5.out N5.out)
          have b0' := NB6.out.u.keep B0.out
          have b1' := NB6.out.u.keep B1.out
          have c0' := NB6.out.c0
          have c1' := NB6.out.c1
          clear NB b0 b1 c0 c1 q1 q2 q3 q4 G5 O5 N5
          have NB := NB6
          clear NB6
          have b0 := b0'
          have b1 := b1'
          have c0 := c0'
          have c1 := c1'
          clear b0' b1' c0' c1'
          generalize w5.setCell ⟨nb, 0, none⟩ (.slice aw5 (L1.length + 1) dw5) = W5 at *
          go_wp2_with (first | (at_builtin; refine wp_appI rfl (.tmp 56) (.tmp 58) rfl w3.heap.size _ L2 _ 1 (k : Int) rfl rfl (NB.out.o2.up ((Old.refl _).alloc _)) (cell_oneI _ _ _ rfl) (by have := HLn.out.2; omega) (by have := NB.out.u.size; simp; omega) ?_; intro v5 w6 o5 g5 n5; obtain ⟨aw6, dw6, ew6⟩ := o5.len; rw [List.length_append, List.length_singleton] at ew6; subst ew6; have O5 := hid o5; have FA := NB.out.far (.inr rfl) (chg_app g5); have G5 := hid g5; have N5 := hid n5; obtain ⟨_, q1, q2, q3, q4⟩ := FA; clear o5 g5 n5))
          have NB6 := hid (NB.out.app2 G5.out O5.out N5.out)
          go_roundw
          case rel => exact ⟨k + 1, _, _, L1 ++ [(k : Int)], L2 ++ [(k : Int)], by omega, by omega, by go_num, (HS1.out.trans (by simp)).symm, (HS2.out.trans (by simp)).symm, NB6.out⟩
          case measure => simp [intOf]; omega
      · have hne : ((k : Int) == x) = false := by simpa using hkx
        have hne2 : ((k : Int) != x) = true := by rw [bne_iff_ne]; exact hkx
        rw [if_neg hkx] at HS1 HS2
        generalize hasK f (k : Int) n = av at *
        generalize hasK g (k : Int) m = al at *
        cases av <;> cases al
        · skip
          go_upto_region 7 with (go_at_call 20; refine (HV.out _ NB.out.u).mono ?_; rintro e w4 ⟨rfl, u4⟩; have NB4 := hid (NB.out.old u4); have b0' := u4.keep b0; have b1' := u4.keep b1; have c0' := u4.keep c0; have c1' := u4.keep c1; clear b0 b1 c0 c1 u4 NB; have NB := NB4; have b0 := b0'; have b1 := b1'; have c0 := c0'; have c1 := c1'; clear NB4 b0' b1' c0' c1')
          go_wp2_with (go_at_call 39; refine (HL.out _ NB.out.u).mono ?_; rintro e w4 ⟨rfl, u4⟩; have NB4 := hid (NB.out.old u4); have b0' := u4.keep b0; have b1' := u4.keep b1; have c0' := u4.keep c0; have c1' := u4.keep c1; clear b0 b1 c0 c1 u4 NB; have NB := NB4; have b0 := b0'; have b1 := b1'; have c0 := c0'; have c1 := c1'; clear NB4 b0' b1' c0' c1')
          go_roundw
          case rel => exact ⟨k + 1, _, _, L1, L2, by omega, by omega, by go_num, (HS1.out.trans (by simp)).symm, (HS2.out.trans (by simp)).symm, NB.out⟩
          case measure => simp [intOf]; omega
        · skip
          go_upto_region 7 with (go_at_call 20; refine (HV.out _ NB.out.u).mono ?_; rintro e w4 ⟨rfl, u4⟩; have NB4 := hid (NB.out.old u4); have b0' := u4.keep b0; have b1' := u4.keep b1; have c0' := u4.keep c0; have c1' := u4.keep c1; clear b0 b1 c0 c1 u4 NB; have NB := NB4; have b0 := b0'; have b1 := b1'; have c0 := c0'; have c1 := c1'; clear NB4 b0' b1' c0' c1')
          go_wp2_with (first | (go_at_call 39; refine (HL.out _ NB.out.u).mono ?_; rintro e w4 ⟨rfl, u4⟩; have NB4 := hid (NB.out.old u4); have b0' := u4.keep b0; have b1' := u4.keep b1; have c0' := u4.keep c0; have c1' := u4.keep c1; clear b0 b1 c0 c1 u4 NB; have NB := NB4; have b0 := b0'; have b1 := b1'; have c0 := c0'; have c1 := c1'; clear NB4 b0' b1' c0' c1') | (at_builtin; refine wp_appI rfl (.tmp 56) (.tmp 58) rfl w3.heap.size _ L2 _ 1 (k : Int) rfl rfl (NB.out.o2.up ((Old.refl _).alloc _)) (cell_oneI _ _ _ rfl) (by have := HLn.out.2; omega) (by have := NB.out.u.size; simp; omega) ?_; intro v5 w6 o5 g5 n5; obtain ⟨aw6, dw6, ew6⟩ := o5.len; rw [List.length_append, List.length_singleton] at ew6; subst ew6; have O5 := hid o5; have FA := NB.out.far (.inr rfl) (chg_app g5); have G5 := hid g5; have N5 := hid n5; obtain ⟨_, q1, q2, q3, q4⟩ := FA; clear o5 g5 n5))
          have NB6 := hid (NB.out.app2 G5.out O5.out N5.out)
          go_roundw
          case rel => exact ⟨k + 1, _, _, L1, L2 ++ [(k : Int)], by omega, by omega, by go_num, (HS1.out.trans (by simp)).symm, (HS2.out.trans (by simp)).symm, NB6.out⟩
          case measure => simp [intOf]; omega
        · skip
          go_upto_region 7 with (first | (go_at_call 20; refine (HV.out _ NB.out.u).mono ?_; rintro e w4 ⟨rfl, u4⟩; have NB4 := hid (NB.out.old u4); have b0' := u4.keep b0; have b1' := u4.keep b1; have c0' := u4.keep c0; have c1' := u4.keep c1; clear b0 b1 c0 c1 u4 NB; have NB := NB4; have b0 := b0'; have b1 := b1'; have c0 := c0'; have c1 := c1'; clear NB4 b0' b1' c0' c1') | (at_builtin; refine wp_appI rfl (.tmp 33) (.tmp 35) rfl w3.heap.size _ L1 _ 1 (k : Int) rfl rfl (NB.out.o1.up ((Old.refl _).alloc _)) (cell_oneI _ _ _ rfl) (by have := HLn.out.1; omega) (by have := NB.out.u.size; simp; omega) ?_; intro v5 w5 o5 g5 n5; obtain ⟨aw5, dw5, ew5⟩ := o5.len; rw [List.length_append, List.length_singleton] at ew5; subst ew5; have O5 := hid o5; have FA := NB.out.far (.inl rfl) (chg_app g5); have G5 := hid g5; have N5 := hid n5; obtain ⟨_, q1, q2, q3, q4⟩ := FA; clear o5 g5 n5))
          have NB6 := hid (NB.out.app1 G5.out O5.out N5.out)
          have b0' := NB6.out.u.keep B0.out
          have b1' := NB6.out.u.keep B1.out
          have c0' := NB6.out.c0
          have c1' := NB6.out.c1
          clear NB b0 b1 c0 c1 q1 q2 q3 q4 G5 O5 N5
          have NB := NB6
          clear NB6
          have b0 := b0'
          have b1 := b1'
          have c0 := c0'
          have c1 := c1'
          clear b0' b1' c0' c1'
          generalize w5.setCell ⟨nb, 0, none⟩ (.slice aw5 (L1.length + 1) dw5) = W5 at *
          go_wp2_with (go_at_call 39; refine (HL.out _ NB.out.u).mono ?_; rintro e w4 ⟨rfl, u4⟩; have NB4 := hid (NB.out.old u4); have b0' := u4.keep b0; have b1' := u4.keep b1; have c0' := u4.keep c0; have c1' := u4.keep c1; clear b0 b1 c0 c1 u4 NB; have NB := NB4; have b0 := b0'; have b1 := b1'; have c0 := c0'; have c1 := c1'; clear NB4 b0' b1' c0' c1')
          go_roundw
          case rel => exact ⟨k + 1, _, _, L1 ++ [(k : Int)], L2, by omega, by omega, by go_num, (HS1.out.trans (by simp)).symm, (HS2.out.trans (by simp)).symm, NB.out⟩
          case measure => simp [intOf]; omega
        · skip
          go_upto_region 7 with (first | (go_at_call 20; refine (HV.out _ NB.out.u).mono ?_; rintro e w4 ⟨rfl, u4⟩; have NB4 := hid (NB.out.old u4); have b0' := u4.keep b0; have b1' := u4.keep b1; have c0' := u4.keep c0; have c1' := u4.keep c1; clear b0 b1 c0 c1 u4 NB; have NB := NB4; have b0 := b0'; have b1 := b1'; have c0 := c0'; have c1 := c1'; clear NB4 b0' b1' c0' c1') | (at_builtin; refine wp_appI rfl (.tmp 33) (.tmp 35) rfl w3.heap.size _ L1 _ 1 (k : Int) rfl rfl (NB.out.o1.up ((Old.refl _).alloc _)) (cell_oneI _ _ _ rfl) (by have := HLn.out.1; omega) (by have := NB.out.u.size; simp; omega) ?_; intro v5 w5 o5 g5 n5; obtain ⟨aw5, dw5, ew5⟩ := o5.len; rw [List.length_append, List.length_singleton] at ew5; subst ew5; have O5 := hid o5; have FA := NB.out.far (.inl rfl) (chg_app g5); have G5 := hid g5; have N5 := hid n5; obtain ⟨_, q1, q2, q3, q4⟩ := FA; clear o5 g5 n5))
          have NB6 := hid (NB.out.app1 G5.out O5.out N5.out)
          have b0' := NB6.out.u.keep B0.out
          have b1' := NB6.out.u.keep B1.out
          have c0' := NB6.out.c0
          have c1' := NB6.out.c1
          clear NB b0 b1 c0 c1 q1 q2 q3 q4 G5 O5 N5
          have NB := NB6
          clear NB6
          have b0 := b0'
          have b1 := b1'
          have c0 := c0'
          have c1 := c1'
          clear b0' b1' c0' c1'
          generalize w5.setCell ⟨nb, 0, none⟩ (.slice aw5 (L1.length + 1) dw5) = W5 at *
          go_wp2_with (first | (go_at_call 39; refine (HL.out _ NB.out.u).mono ?_; rintro e w4 ⟨rfl, u4⟩; have NB4 := hid (NB.out.old u4); have b0' := u4.keep b0; have b1' := u4.keep b1; have c0' := u4.keep c0; have c1' := u4.keep c1; clear b0 b1 c0 c1 u4 NB; have NB := NB4; have b0 := b0'; have b1 := b1'; have c0 := c0'; have c1 := c1'; clear NB4 b0' b1' c0' c1') | (at_builtin; refine wp_appI rfl (.tmp 56) (.tmp 58) rfl w3.heap.size _ L2 _ 1 (k : Int) rfl rfl (NB.out.o2.up ((Old.refl _).alloc _)) (cell_oneI _ _ _ rfl) (by have := HLn.out.2; omega) (by have := NB.out.u.size; simp; omega) ?_; intro v5 w6 o5 g5 n5; obtain ⟨aw6, dw6, ew6⟩ := o5.len; rw [List.length_append, List.length_singleton] at ew6; subst ew6; have O5 := hid o5; have FA := NB.out.far (.inr rfl) (chg_app g5); have G5 := hid g5; have N5 := hid n5; obtain ⟨_, q1, q2, q3, q4⟩ := FA; clear o5 g5 n5))
          have NB6 := hid (NB.out.app2 G5.out O5.out N5.out)
          go_roundw
          case rel => exact ⟨k + 1, _, _, L1 ++ [(k : Int)], L2 ++ [(k : Int)], by omega, by omega, by go_num, (HS1.out.trans (by simp)).symm, (HS2.out.trans (by simp)).symm, NB6.out⟩
          case measure => simp [intOf]; omega
    · obtain rfl : k = 8 := by omega
      subst e1 e2
      obtain ⟨t0, t1, tf0, tf1⟩ := HT.out.old NB.out.u
      have hO := hid (NB.out.out O1.out HZ.out HZ3.out)
      obtain ⟨z0, z1⟩ := two_set t0 t1 (.slice ay1 (wtL bv x f n 7).length dy1) (.slice ay2 (wtL bl x g m 7).length dy2)
      have Z0 := hid z0
      have Z1 := hid z1
      clear z0 z1
      go_wp2
      have z0 := Z0.out
      have z1 := Z1.out
      refine bodyPost_ret (v := .agg #[.slice ay1 (wtL bv x f n 7).length dy1, .slice ay2 (wtL bl x g m 7).length dy2]) (by simp [results, Try.results40, go_sem, z0, z1]) rfl ?_
      exact ⟨_, _, rfl, hO.out.2.1, hO.out.2.2, hO.out.1⟩
end Go.Proofs.Ytcicefpcledmgaa
