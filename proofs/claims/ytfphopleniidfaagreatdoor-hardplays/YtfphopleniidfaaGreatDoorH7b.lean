/- The document's Get at two numbers; what bytes say, as the document reads them; conditions: the rows lie in memory. -/
import Derived.Test.YtfphopleniidfaaGreatDoorPkZ
import Derived.Test.YtfphopleniidfaaGreatDoorH7a
namespace Go.Proofs.YtfphopleniidfaaGreatDoor
open Go.RowKit Go.Lib
set_option linter.unusedVariables false
set_option linter.unusedSimpArgs false
set_option maxRecDepth 20000
/-- Two numbers that bytes are. -/
def tk2 (P : List Nat) : Option (Int × Int) := match tkN P with
  | none => none
  | some (t, B) => match tkN B with
    | none => none
    | some (v, C) => if C = [] then some (t, v) else none
def pick2 (o : Option (Int × Int)) : Int × Int := match o with
  | some (t, v) => if rgt t v = true then (t, v) else (0, 0)
  | none => (0, 0)
theorem rd_tk2 (L : List Nat) : rdP L = if Pk.unfE L.length (gd L) = 0 ∧ 8 + Pk.w32 (gd L) = L.length then pick2 (tk2 (L.drop 8)) else (0, 0) := by
  unfold rdP
  by_cases c : Pk.unfE L.length (gd L) = 0 ∧ 8 + Pk.w32 (gd L) = L.length
  · rw [if_pos c, if_pos c]
    unfold tkP tk2
    cases h1 : tkN (L.drop 8) with
    | none => rfl
    | some q =>
      obtain ⟨t, B⟩ := q
      dsimp only
      cases h2 : tkN B with
      | none => rfl
      | some q2 =>
        obtain ⟨v, C⟩ := q2
        dsimp only
        by_cases hv : 0 ≤ v ∧ v ≤ 7
        · rw [if_pos hv]
          cases C with
          | nil => rfl
          | cons a r => rw [if_neg (by simp)]; rfl
        · rw [if_neg hv]
          by_cases hC : C = []
          · rw [if_pos hC]
            have hr : rgt t v = false := by
              cases e : rgt t v with
              | false => rfl
              | true => obtain ⟨_, _, a, b⟩ := rgt_iff.1 e; exact absurd ⟨a, b⟩ hv
            unfold pick2
            dsimp only
            rw [hr]
            rfl
          · rw [if_neg hC]; rfl
  · rw [if_neg c, if_neg c]
theorem vK1 (x : Nat → Nat) (n : Nat) : Pk.vK 1 x n = Pk.lnK x n := by unfold Pk.vK; rw [if_pos rfl]
theorem sh0 (x : Nat → Nat) : Pk.sh 0 x = x := by funext i; simp [Pk.sh]
theorem get2_any (a : Option Addr) (c g : Nat) (P : List Nat) (w : World) (hv : Rw w (.slice a P.length c) P) (hk : w.heap[g]? = some (.cells #[.int .i64 1, .int .i64 1] 3 (0, 0))) :
    Calls Tryz.prog 25 #[.slice a P.length c, .slice (some ⟨g, 0, none⟩) 2 2] w fun e w' => Old w w' ∧ ((tk2 P = none ∧ e = .returned (.tuple #[.slice none 0 0, .int .i64 30])) ∨ ∃ t v b off cap, tk2 P = some (t, v) ∧ e = .returned (.tuple #[.slice (some ⟨b, off, none⟩) 2 cap, .int .i64 0]) ∧ w.heap.size ≤ b ∧ w'.cell? ⟨b, off + 1, none⟩ = some (.int .i64 t) ∧ w'.cell? ⟨b, off + 6, none⟩ = some (.int .i64 v)) := by
  refine (Pk.refGet_any a P.length c 2 2 (some ⟨g, 0, none⟩) (gd P) (fun _ => 1) w hv (fun i hi => ⟨g, 0, rfl, ?_⟩) (by omega)).mono fun e w' q => ?_
  · rw [Go.Joins.cell_of_block hk]
    match i, hi with
    | 0, _ => rfl
    | 1, _ => rfl
  · obtain ⟨q, u⟩ := q
    refine ⟨u, ?_⟩
    have k0 : Pk.vKat (fun _ => 1) (gd P) P.length 0 = Pk.lnK (gd P) P.length := by
      unfold Pk.vKat; rw [vK1]; show Pk.lnK (Pk.sh 0 (gd P)) (P.length - 0) = _; rw [sh0, Nat.sub_zero]
    have p1 : Pk.pos (fun _ => 1) (gd P) P.length 1 = Pk.lnK (gd P) P.length := by
      show 0 + Pk.vK 1 (Pk.sh 0 (gd P)) (P.length - 0) = _
      rw [vK1, sh0, Nat.sub_zero, Nat.zero_add]
    have k1 : Pk.vKat (fun _ => 1) (gd P) P.length 1 = Pk.lnK (gd (P.drop (Pk.lnK (gd P) P.length))) (P.drop (Pk.lnK (gd P) P.length)).length := by
      unfold Pk.vKat; rw [vK1, p1, gd_drop, List.length_drop]
    have p2 : Pk.pos (fun _ => 1) (gd P) P.length 2 = Pk.lnK (gd P) P.length + Pk.lnK (gd (P.drop (Pk.lnK (gd P) P.length))) (P.drop (Pk.lnK (gd P) P.length)).length := by
      show Pk.pos (fun _ => 1) (gd P) P.length 1 + Pk.vKat (fun _ => 1) (gd P) P.length 1 = _
      rw [p1, k1]
    have nu : ¬ Pk.unk (fun _ => 1) 2 := by rintro ⟨i, _, h | h⟩ <;> (dsimp only at h; omega)
    rcases q with ⟨h, _⟩ | ⟨_, hz, hp, v, f, he, ho, hf⟩ | ⟨_, hz, he⟩
    · exact absurd h nu
    · right
      have z0 := hz 0 (by omega)
      have z1 := hz 1 (by omega)
      rw [k0] at z0
      rw [k1] at z1
      rw [p2] at hp
      obtain ⟨a', c', rfl, hc⟩ := ho.shape
      obtain ⟨b, off, rfl, at0⟩ := hc 0 (by omega)
      have hlow := (World.ownsRow.lt ho b rfl).1
      obtain ⟨b', off', e', at1⟩ := hc 1 (by omega)
      cases e'
      have n0 := (hf 0 (by omega)).1.en
      have n1 := (hf 1 (by omega)).1.en
      rw [if_pos rfl] at n0 n1
      have f0 : (f 0).n = Pk.lnV (gd P) P.length := by rw [n0]; show Pk.lnV (Pk.sh 0 (gd P)) (P.length - 0) = _; rw [sh0, Nat.sub_zero]
      have f1 : (f 1).n = Pk.lnV (gd (P.drop (Pk.lnK (gd P) P.length))) (P.drop (Pk.lnK (gd P) P.length)).length := by rw [n1, p1, gd_drop, List.length_drop]
      refine ⟨(f 0).n, (f 1).n, b, off, c', ?_, he, hlow, by simpa using at0.c1, ?_⟩
      · unfold tk2 tkN
        rw [if_neg z0]
        dsimp only
        rw [if_neg z1]
        dsimp only
        rw [if_pos (by rw [List.drop_drop]; exact List.drop_of_length_le (by omega)), f0, f1]
      · have := at1.c1
        rw [show off + 1 * 5 + 1 = off + 6 by omega] at this
        exact this
    · left
      refine ⟨?_, he⟩
      unfold tk2 tkN
      by_cases z0 : Pk.lnK (gd P) P.length = 0
      · rw [if_pos z0]
      · rw [if_neg z0]
        dsimp only
        by_cases z1 : Pk.lnK (gd (P.drop (Pk.lnK (gd P) P.length))) (P.drop (Pk.lnK (gd P) P.length)).length = 0
        · rw [if_pos z1]
        · rw [if_neg z1]
          dsimp only
          rcases hz with ⟨i, hi, h⟩ | h
          · exfalso
            match i, hi, h with
            | 0, _, h => rw [k0] at h; exact z0 h
            | 1, _, h => rw [k1] at h; exact z1 h
          · rw [p2] at h
            generalize Pk.lnK (gd (P.drop (Pk.lnK (gd P) P.length))) (P.drop (Pk.lnK (gd P) P.length)).length = K1 at *
            generalize Pk.lnK (gd P) P.length = K0 at *
            rw [if_neg (fun e => by
              have := congrArg List.length e
              rw [List.length_drop, List.length_drop, List.length_nil] at this
              omega)]
end Go.Proofs.YtfphopleniidfaaGreatDoor
