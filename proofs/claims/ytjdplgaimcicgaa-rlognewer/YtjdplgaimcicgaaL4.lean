/- The law RlogNewer's logs; conditions: the rows lie in memory. -/
import Derived.Test.YtjdplgaimcicgaaL3
namespace Go.Proofs.Ytjdplgaimcicgaa
open Go.RowKit Go.Lib
set_option linter.unusedVariables false
set_option linter.unusedSimpArgs false
set_option maxRecDepth 20000
theorem entA_app (L : List Ent) (e : Ent) : entA (L ++ [e]) L.length = e := by simp [entA]
theorem last_app (ix tm : Int) (L : List Ent) (e : Ent) : lastI ix (L ++ [e]).length (entA (L ++ [e])) = e.i ∧ lastT tm (L ++ [e]).length (entA (L ++ [e])) = e.t := by
  unfold lastI lastT
  rw [List.length_append, if_neg (by simp), if_neg (by simp), show L.length + [e].length - 1 = L.length from by simp, entA_app]
  exact ⟨rfl, rfl⟩
/-- What each round of made keeps. -/
def Mk (L : List Ent) (k : Nat) : Prop := lastI 0 L.length (entA L) = (L.length : Int) ∧ 0 ≤ lastT 0 L.length (entA L) ∧ lastT 0 L.length (entA L) ≤ (L.length : Int) ∧ L.length ≤ 30 ∧ L.length ≤ k ∧ (k ≤ 30 → L.length = k)
theorem Mk.zero : Mk [] 0 := ⟨rfl, by decide, by decide, by decide, Nat.le_refl _, fun _ => rfl⟩
theorem Mk.skip {L : List Ent} {k : Nat} (h : Mk L k) (hk : 30 ≤ k) : Mk L (k + 1) := ⟨h.1, h.2.1, h.2.2.1, h.2.2.2.1, Nat.le_succ_of_le h.2.2.2.2.1, fun q => by omega⟩
theorem Mk.add {L : List Ent} {k : Nat} (h : Mk L k) (hk : k < 30) (b : Int) (hb : 0 ≤ b ∧ b ≤ 1) : Mk (L ++ [en ((L.length : Int) + 1) (lastT 0 L.length (entA L) + b)]) (k + 1) := by
  obtain ⟨h1, h2, h3, h4, h5, h6⟩ := h
  obtain ⟨a, c⟩ := last_app 0 0 L (en ((L.length : Int) + 1) (lastT 0 L.length (entA L) + b))
  have hl := h6 (by omega)
  unfold Mk
  rw [a, c]
  simp only [List.length_append, List.length_singleton, en]
  refine ⟨by omega, by omega, by omega, by omega, by omega, fun _ => by omega⟩
def uf (y z : Int) : Nat → Int := fun k => if k = 0 then y else z
theorem uf_mono {y z : Int} (h : y ≤ z) : ∀ k, k < 1 → uf y z k ≤ uf y z (k + 1) := fun k hk => by
  have e : k = 0 := by omega
  subst e
  exact h
theorem uf_bd {y z : Int} (h : 0 ≤ y ∧ y ≤ 1000) (h2 : 0 ≤ z ∧ z ≤ 1000) : ∀ k, k ≤ 1 → 0 ≤ uf y z k ∧ uf y z k ≤ 1000 := fun k hk => by unfold uf; split; exact h; exact h2
theorem and1 (x : Int) : 0 ≤ bits .and .i64 x 1 ∧ bits .and .i64 x 1 ≤ 1 := by
  have h : (BitVec.ofInt 64 x &&& BitVec.ofInt 64 1).toNat = (BitVec.ofInt 64 x).toNat % 2 := by rw [BitVec.toNat_and]; exact nat_mask1 _
  have e : bits .and .i64 x 1 = IntKind.wrap .i64 (((BitVec.ofInt 64 x &&& BitVec.ofInt 64 1).toNat : Nat) : Int) := rfl
  rw [e, h]
  rcases Nat.mod_two_eq_zero_or_one (BitVec.ofInt 64 x).toNat with q | q <;> rw [q] <;> decide
set_option maxHeartbeats 4000000 in
set_option maxRecDepth 20000 in
theorem made_any (v : Value) (m : Nat) (ns : Nat → Int) (w : World) (h : NRowL w v m ns) :
    Calls Try.prog 5 #[v] w fun e w' => ∃ lb n f, e = .returned (.pointer (some ⟨lb, 0, none⟩)) ∧ LogR w' lb 0 0 n f ∧ Old w w' := by
  obtain ⟨hm, p, c, rfl, hmc, hcm, hc⟩ := h
  have HC := hid hc
  clear hc
  have hmm : (m : Int) ≤ 17592186044000 := by omega
  go_enter Try.func5, Try.ntmps5
  go_upto_region 2 with (first | (go_at_call 9; refine (first_any _).mono ?_; rintro e w1 ⟨b1, rfl, r1, o1⟩; have R1 := hid r1; have O1 := hid o1; clear r1 o1) | (go_at_call 8; refine (new_ok _ (.slice none 0 0) 2 0 _ (fun _ => 0) w1 R1.out ⟨by omega, none, 0, rfl, by omega, by omega, fun i hi => by omega⟩ (.inr ⟨_, _, _, _, rfl⟩) (.inl rfl)).mono ?_; rintro e w2 ⟨W1, lb, gc, u1, u2, rfl, ow, _, _, _, _, l2⟩; have L2 := hid l2; have OW := hid (O1.out.trans ow); clear l2 ow))
  go_wp2
  go_loopw [12] (fun i wx => ∃ (k : Nat) (L : List Ent) (vk : Value), k ≤ m ∧ i = .int .i64 k ∧ Mk L k ∧ LogO W1 lb gc vk 0 0 0 u1 u2 L wx) (fun i _ => m - (intOf i).toNat)
  case atStart => exact ⟨0, [], _, Nat.zero_le _, rfl, Mk.zero, L2.out⟩
  case round =>
    obtain ⟨k, L, vk, hk, rfl, mk, lk⟩ := hrel
    have LK := hid lk
    have MK := hid mk
    clear lk mk L2
    by_cases hlt : k < m
    · obtain ⟨gb, go, e1, cx0⟩ := HC.out k hlt
      subst e1
      have cx := (OW.out.trans LK.out.u).keep cx0
      clear cx0
      generalize ns k = x at *
      have l1 : (0 : Int) ≤ (k : Int) := by omega
      have l2 : (k : Int) < (m : Int) := by omega
      by_cases h30 : k < 30
      · have d1 : decide ((k : Int) < 30) = true := decide_eq_true (by omega)
        have hLl : L.length ≤ 30 := MK.out.2.2.2.1
        have HLa := hid (last_any lb 0 0 L.length (entA L) wr (LK.out.r (by omega)))
        rw [MK.out.1] at HLa
        obtain ⟨_, g1, g2, _⟩ := MK.out
        generalize hy : lastT 0 L.length (entA L) = y at *
        have q1 : y ≤ 30 := by omega
        have q2 : (L.length : Int) ≤ 30 := by omega
        clear g2
        go_upto_region 7 with (go_at_call 6; refine HLa.out.mono ?_; rintro e w3 ⟨rfl, o3⟩; have O3 := hid o3; clear o3)
        obtain ⟨hb1, hb2⟩ := and1 x
        have HA := hid (fun (W : World) (bb : Nat) (u : Old wr W) (hbb : wr.heap.size ≤ bb) (he : EntIn W bb 0 (en ((L.length : Int) + 1) (y + bits .and .i64 x 1))) => append_ok W1 lb gc vk 0 0 0 u1 u2 L (L.length : Int) (uf y (y + bits .and .i64 x 1)) bb 1 W (LK.out.old u) (by omega) MK.out.1 hy ⟨by omega, by omega⟩ (uf_mono (by omega)) (uf_bd ⟨by omega, by omega⟩ ⟨by omega, by omega⟩) (fun k hk => by have e : k = 0 := (by omega); subst e; simpa [uf] using he) (by have := LK.out.lt; omega) (fun e => by have := (World.ownsRow.lt LK.out.o bb e).2; omega))
        have HM := hid (MK.out.add h30 (bits .and .i64 x 1) ⟨hb1, hb2⟩)
        rw [hy] at HM
        clear HLa MK
        have hs3 := O3.out.size
        go_wp2_with (go_at_call 10; refine (HA.out _ _ (O3.out.alloc _) hs3 (cell_oneE w3 (en ((L.length : Int) + 1) (y + bits .and .i64 x 1)) _ rfl)).mono ?_; rintro e w4 ⟨rfl, v4, l4⟩; have L4 := hid l4; clear l4)
        exact ⟨⟨k + 1, _, v4, hlt, by go_num, HM.out, by simpa [lsE, uf] using L4.out⟩, by simp [intOf]; omega⟩
      · have d1 : decide ((k : Int) < 30) = false := decide_eq_false (by omega)
        go_wp2
        exact ⟨⟨k + 1, L, vk, hlt, by go_num, MK.out.skip (by omega), LK.out⟩, by simp [intOf]; omega⟩
    · obtain rfl : m = k := by omega
      go_wp2
      go_ret
      exact ⟨lb, _, _, rfl, LK.out.r (by have := MK.out.2.2.2.1; omega), OW.out.trans LK.out.u⟩
end Go.Proofs.Ytjdplgaimcicgaa
