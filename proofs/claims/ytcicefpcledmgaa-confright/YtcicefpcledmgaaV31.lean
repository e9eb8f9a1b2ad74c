/- The document's Others, of layer 15, and that it is the program's; conditions: the rows lie in memory. -/
import Derived.Test.YtcicefpcledmgaaV30
namespace Go.Proofs.Ytcicefpcledmgaa
open Go.RowKit Go.Lib
set_option linter.unusedVariables false
set_option linter.unusedSimpArgs false
set_option maxRecDepth 20000
/-- Of the numbers 1 to k those that belong to a configuration, but for one. -/
def otD (n : Nat) (f : Nat → Int) (m : Nat) (g : Nat → Int) (x : Int) : Nat → List Int
  | 0 => []
  | k + 1 => otD n f m g x k ++ (if (((k + 1 : Nat) : Int) != x && memB n f m g ((k + 1 : Nat) : Int)) = true then [((k + 1 : Nat) : Int)] else [])
theorem otD_succ (n : Nat) (f : Nat → Int) (m : Nat) (g : Nat → Int) (x : Int) (k : Nat) (hk : 1 ≤ k) : otD n f m g x (k + 1 - 1) = otD n f m g x (k - 1) ++ (if ((k : Int) != x && memB n f m g (k : Int)) = true then [(k : Int)] else []) := by
  obtain ⟨j, rfl⟩ : ∃ j, k = j + 1 := ⟨k - 1, by omega⟩
  rfl
theorem otD_len (n : Nat) (f : Nat → Int) (m : Nat) (g : Nat → Int) (x : Int) : ∀ k, (otD n f m g x k).length ≤ k
  | 0 => Nat.le_refl _
  | k + 1 => by
    have := otD_len n f m g x k
    unfold otD
    rw [List.length_append]
    have : ∀ c : Bool, (if c = true then [((k + 1 : Nat) : Int)] else []).length ≤ 1 := fun c => by cases c <;> simp
    have := this (((k + 1 : Nat) : Int) != x && memB n f m g ((k + 1 : Nat) : Int))
    omega
theorem otD_mem (n : Nat) (f : Nat → Int) (m : Nat) (g : Nat → Int) (x y : Int) : ∀ k, y ∈ otD n f m g x k ↔ (1 ≤ y ∧ y ≤ (k : Nat)) ∧ (y != x && memB n f m g y) = true
  | 0 => by simp [otD]; omega
  | k + 1 => by
    unfold otD
    rw [List.mem_append, otD_mem n f m g x y k, mem_opt]
    by_cases e : y = ((k + 1 : Nat) : Int)
    · subst e
      constructor
      · rintro (h | h)
        · exact absurd h.1.2 (by omega)
        · exact ⟨by omega, h.1⟩
      · rintro ⟨_, h⟩
        exact .inr ⟨h, rfl⟩
    · constructor
      · rintro (h | h)
        · exact ⟨by omega, h.2⟩
        · exact absurd h.2 e
      · rintro ⟨h1, h2⟩
        exact .inl ⟨by omega, h2⟩
theorem otD_pw (n : Nat) (f : Nat → Int) (m : Nat) (g : Nat → Int) (x : Int) : ∀ k, (otD n f m g x k).Pairwise (· < ·)
  | 0 => List.Pairwise.nil
  | k + 1 => by
    unfold otD
    rw [List.pairwise_append]
    refine ⟨otD_pw n f m g x k, ?_, ?_⟩
    · generalize (((k + 1 : Nat) : Int) != x && memB n f m g ((k + 1 : Nat) : Int)) = c
      cases c <;> simp
    · intro y hy z hz
      have h1 := ((otD_mem n f m g x y k).1 hy).1
      have h2 := ((mem_opt _ _ _).1 hz).2
      omega
theorem compact_lt (L : List Int) (h : L.Pairwise (· < ·)) : Lib.compact L = L := by
  refine Lib.compact_all L fun j hj => ?_
  by_cases h0 : j = 0
  · subst h0
    exact Lib.keeps_lt_one _ 0 (by omega)
  · refine Lib.keeps_pos ?_
    have := List.pairwise_iff_getElem.1 h (j - 1) j (by omega) hj (by omega)
    have e1 : L.toArray[j]! = L[j] := by simp [hj]
    have e2 : L.toArray[j - 1]! = L[j - 1]'(by omega) := by simp [show j - 1 < L.length by omega]
    rw [e1, e2]
    omega
theorem srt_lt {L M : List Int} (h1 : Rise L) (h2 : Rise M) (h3 : ∀ y ∈ L, y ∉ M) : (srt (L ++ M)).Pairwise (· < ·) := by
  have hn : (L ++ M).Pairwise (· ≠ ·) := by
    rw [List.pairwise_append]
    exact ⟨h1.1.imp (fun h => by omega), h2.1.imp (fun h => by omega), fun a ha b hb e => h3 a ha (e ▸ hb)⟩
  have hs : (srt (L ++ M)).Pairwise (· ≠ ·) := ((srt_perm (L ++ M)).pairwise_iff (fun h => h.symm)).2 hn
  exact ((srt_pw (L ++ M)).and hs).imp (fun ⟨a, b⟩ => by omega)
/-- Of a right configuration the others are those that the document names. -/
theorem oth_doc {n m : Nat} {f g : Nat → Int} (x : Int) (h : rightB n f m g = true) : othL (lsI f n) (lsI g m) x = otD n f m g x 7 := by
  obtain ⟨_, r1, r2, r3⟩ := rightB_iff.1 h
  have hl := srt_lt r1 r2 r3
  unfold othL
  rw [compact_lt _ hl]
  refine rise_eq (hl.filter _) (otD_pw _ _ _ _ _ _) fun y => ?_
  have hm : ∀ y, y ∈ srt (lsI f n ++ lsI g m) ↔ y ∈ lsI f n ∨ y ∈ lsI g m := fun y => by rw [(srt_perm _).mem_iff, List.mem_append]
  show y ∈ keepX x _ ↔ _
  rw [keepX_mem, hm, otD_mem, Bool.and_eq_true, bne_iff_ne, memB_iff]
  constructor
  · rintro ⟨h1, h2⟩
    refine ⟨?_, h2, h1⟩
    rcases h1 with h1 | h1
    · have := r1.2 y h1; omega
    · have := r2.2 y h1; omega
  · rintro ⟨_, h2, h1⟩
    exact ⟨h1, h2⟩
set_option maxHeartbeats 4000000 in
set_option maxRecDepth 20000 in
theorem rOthers_any (v1 v2 : Value) (n m : Nat) (f g : Nat → Int) (x : Int) (w : World) (h1 : NRowL w v1 n f) (h2 : NRowL w v2 m g) :
    Calls Try.prog 26 #[.agg #[v1, v2], .int .i64 x] w fun e w' => ∃ v, e = .returned v ∧ OwnI w.heap.size w' v (otD n f m g x 7) ∧ Old w w' := by
  have HM0 := hid (fun (y : Int) (W : World) (u : Old w W) => rMember_any v1 v2 n m f g y W (h1.old u) (h2.old u))
  obtain ⟨_, p1, c1, rfl, _⟩ := h1
  obtain ⟨_, p2, c2, rfl, _⟩ := h2
  go_enter Try.func26, Try.ntmps26
  go_upto_region 1 with (fail)
  generalize hw1 : w.alloc (.cells #[.slice p1 n c1, .slice p2 m c2] 24) = w1
  have O1 := hid (show Old w w1 from by rw [← hw1]; exact (Old.refl _).alloc _)
  have B0 := hid (show w1.cell? ⟨w.heap.size, 0, none⟩ = some (.slice p1 n c1) from by rw [← hw1]; simp)
  have B1 := hid (show w1.cell? ⟨w.heap.size, 1, none⟩ = some (.slice p2 m c2) from by rw [← hw1]; simp)
  clear hw1
  generalize hB : w.heap.size = B at *
  have HB := hid hB
  clear hB
  go_upto_region 3 with (fail)
  have E0 := hid (OwnI.empty (base := w1.heap.size) (w := w1) (Nat.le_refl _) rfl)
  have UE := hid (show Old w1 (w1.alloc (.cells #[] 3)) from (Old.refl w1).alloc _)
  have HM1 := hid (fun (y : Int) (W : World) (u : Old w1 W) => HM0.out y W (O1.out.trans u))
  clear HM0
  generalize w1.alloc (.cells #[] 3) = w2 at *
  go_loopw [5, 6] (fun o i wr => ∃ (k : Nat) (L : List Int), 1 ≤ k ∧ k ≤ 8 ∧ i = .int .i64 (k : Nat) ∧ L = otD n f m g x (k - 1) ∧ OwnI w1.heap.size wr o L ∧ Old w1 wr) (fun _ i _ => 8 - (intOf i).toNat)
  case atStart => exact ⟨1, [], by omega, by omega, rfl, rfl, E0.out, UE.out⟩
  case round =>
    obtain ⟨k, L, hk1, hk8, rfl, eL, ho, hu⟩ := hrel
    obtain ⟨pb, cb, e⟩ := ho.len
    obtain ⟨ln, hln⟩ : ∃ ln, L.length = ln := ⟨_, rfl⟩
    rw [hln] at e
    subst e
    have HO := hid ho
    have HU := hid hu
    have b0 := hu.keep B0.out
    have b1 := hu.keep B1.out
    clear ho hu E0 UE
    by_cases hk7 : k ≤ 7
    · have m1 : (k : Int) ≤ 7 := by omega
      have HS := hid (otD_succ n f m g x k hk1)
      have HLn := hid (otD_len n f m g x (k - 1))
      rw [← eL] at HS HLn
      have HM := hid (HM1.out (k : Int))
      clear eL HM1
      by_cases hkx : (k : Int) = x
      · subst hkx
        go_wp2
        go_roundw
        case rel => exact ⟨k + 1, L, by omega, by omega, by go_num, (HS.out.trans (by simp)).symm, HO.out, HU.out⟩
        case measure => simp [intOf]; omega
      · have hne : ((k : Int) == x) = false := by simpa using hkx
        have hne2 : ((k : Int) != x) = true := by rw [bne_iff_ne]; exact hkx
        rw [hne2, Bool.true_and] at HS
        generalize memB n f m g (k : Int) = bm at *
        cases bm with
        | false =>
          go_wp2_with (go_at_call 21; refine (HM.out _ HU.out).mono ?_; rintro e w4 ⟨rfl, u4⟩; have U4 := hid u4; clear u4)
          go_roundw
          case rel => exact ⟨k + 1, L, by omega, by omega, by go_num, (HS.out.trans (by simp)).symm, HO.out.up U4.out, HU.out.trans U4.out⟩
          case measure => simp [intOf]; omega
        | true =>
          go_wp2_with (first | (go_at_call 21; refine (HM.out _ HU.out).mono ?_; rintro e w4 ⟨rfl, u4⟩; have U4 := hid u4; clear u4) | (at_builtin; refine wp_appI rfl (.tmp 20) (.tmp 22) rfl w1.heap.size _ L _ 1 (k : Int) rfl rfl ((HO.out.up U4.out).up ((Old.refl _).alloc _)) (cell_oneI _ _ _ rfl) (by have := HLn.out; omega) (by have := (HU.out.trans U4.out).size; simp; omega) ?_; intro v5 w5 o5 g5 n5; have O5 := hid o5; have U5 := hid (show Old w1 w5 from Below.grown ((HU.out.trans U4.out).alloc _) g5 ((HU.out.trans U4.out).alloc _).size (fun k e => (World.ownsRow.lt HO.out k e).1)); clear o5 g5 n5))
          go_roundw
          case rel => exact ⟨k + 1, L ++ [(k : Int)], by omega, by omega, by go_num, (HS.out.trans (by simp)).symm, O5.out, U5.out⟩
          case measure => simp [intOf]; omega
    · obtain rfl : k = 8 := by omega
      subst eL
      go_wp2
      go_ret
      exact ⟨_, rfl, HO.out.mono (by have := O1.out.size; have := HB.out; omega), O1.out.trans HU.out⟩
end Go.Proofs.Ytcicefpcledmgaa
