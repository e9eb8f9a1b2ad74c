/- What the document's disk wants beside hard's base; no condition. -/
import Derived.Test.YtfphopleniidfaaGreatDoorG7j
import Derived.Maps.AppendAt
namespace Go.Proofs.YtfphopleniidfaaGreatDoor
open Go.RowKit Go.Lib Go.ChangeShapes Go.WideShapes
set_option linter.unusedVariables false
set_option linter.unusedSimpArgs false
set_option maxRecDepth 20000
theorem Rw.take {w : World} {p : Option Addr} {n c : Nat} {L : List Nat} (h : Rw w (.slice p n c) L) (m : Nat) (hm : m ≤ L.length) : Rw w (.slice p m c) (L.take m) := by
  unfold Rw at *
  have e : (L.take m).length = m := by simp; omega
  rw [e]
  rcases h with ⟨h0, a, c', hv, hz⟩ | ⟨h0, hmx, b, off, cap, hv, hc, hcp⟩
  · cases hv
    obtain rfl : m = 0 := by omega
    exact .inl ⟨rfl, _, _, rfl, hz⟩
  · cases hv
    by_cases m0 : m = 0
    · subst m0
      exact .inl ⟨rfl, _, _, rfl, fun e => by cases e⟩
    · refine .inr ⟨by omega, by omega, b, off, _, rfl, fun i hi => ?_, by omega, hcp.2⟩
      have q : gd (L.take m) i = gd L i := by simp [gd, List.getElem?_take, hi]
      rw [q]
      exact hc i (by omega)
theorem cat_gd (L M : List Nat) : Pk.cat L.length (gd L) (gd M) = gd (L ++ M) := by
  funext i
  unfold Pk.cat
  by_cases h : i < L.length
  · rw [if_pos h]; simp [gd, List.getElem?_append_left h]
  · rw [if_neg h]; simp [gd, List.getElem?_append_right (by omega : L.length ≤ i)]
theorem wp_appL {ops : Array Oper} {rest : List Oper} {o : Oper} {a : Act} {Q : Exit → Act → World → Prop} {w : World} (hgd : o.guard = none) (s x : Operand)
    (ho : o.op = .call { callee := .builtin .append, args := #[s, x], argTypes := #[49, 49] }) (v u : Value) (L M : List Nat)
    (hs : a.eval s = v) (hx : a.eval x = u) (hown : Own w v L) (hrow : Rw w u M) (hb : L.length + M.length ≤ 140737488355328)
    (h : ∀ v' w', Own w' v' (L ++ M) → Grow w v w' v' → wpList Tryz.prog ops Q rest (a.put o.dst v') w') : wpList Tryz.prog ops Q (o :: rest) a w := by
  refine Pk.wp_app hgd s x ho 0 v u L.length M.length (gd L) (gd M) hs hx hown hrow hb (Nat.zero_le _) (fun v' w' h1 h2 h3 => ?_)
  have o' : Own w' v' (L ++ M) := by
    unfold Own
    rw [List.length_append, ← cat_gd]
    exact h1
  refine h v' w' o' ⟨⟨h2.by_.os, h2.by_.tape, h2.by_.output, h2.by_.size, fun k hk hn => h2.by_.block k hk (fun e => hn (by rw [Option.mem_toList]; exact e.symm))⟩, fun g e => ?_⟩
  rcases h2.row with r | r
  · exact .inl (by rw [← r]; exact e)
  · exact .inr ⟨r g e, (h1.own.lt g e).2⟩
theorem sameL (v u : Value) (L : List Nat) (w : World) (h1 : Rw w v L) (h2 : Rw w u L) : Calls Tryz.prog 17 #[v, u] w fun e w' => e = .returned (.bool true) ∧ Old w w' :=
  (Pk.sameBytes_eq v u L.length (gd L) (gd L) w h1 h2 (fun _ _ => rfl)).mono fun e w' h => ⟨h.1, by obtain ⟨m, q⟩ := h.2; rw [q]; exact (Old.refl w).drewN m⟩
theorem Rw.one (w : World) (c g : Nat) (hc : c < 256) (hg : w.heap.size = g) : Rw (w.alloc (.cells #[.int .u8 (c : Int)] 5)) (.slice (some ⟨g, 0, none⟩) 1 1) [c] := by
  subst hg
  have h := own_of (L := [c]) (cap := 1) (alloc_at w (.cells #[.int .u8 (c : Int)] 5)) (by simp) (by unfold maxLen; omega) (by simp) (by simp [bv]) (fun x hx => by simp at hx; omega)
  exact h.row
structure Opd where
  k : Int
  a : ByteArray
  z : ByteArray
  n : Int
  vb : Value
  B : List Nat
  vk : Value
  kp : List Bool
def stepP (p : PD) (o : Opd) : PD := if o.k = 1 then createP p o.a else if o.k = 2 then removeP p o.a else if o.k = 3 then renameP p o.a o.z else if o.k = 4 then writeP p o.a o.n o.B else if o.k = 5 then cutP p o.a o.n else syncP p o.a
end Go.Proofs.YtfphopleniidfaaGreatDoor
