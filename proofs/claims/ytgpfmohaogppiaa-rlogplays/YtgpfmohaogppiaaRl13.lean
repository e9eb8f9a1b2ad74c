/- The law's own put at every row of entries; plain facts of what RlogSound asks; conditions: the rows lie in memory. -/
import Derived.Test.YtgpfmohaogppiaaRl12
namespace Go.Proofs.Ytgpfmohaogppiaa
open Go.RowKit Go.Lib
set_option linter.unusedVariables false
set_option linter.unusedSimpArgs false
set_option maxRecDepth 20000
def nx (l : Int) (x : En) : Int := if x.i = 0 then IntKind.i64.wrap (l + 1) else x.i
def putL : Int → List En → List En | _, [] => [] | l, x :: r => { x with i := nx l x } :: putL (nx l x) r
def lastP : Int → List En → Int | l, [] => l | l, x :: r => lastP (nx l x) r
theorem putL_app : ∀ (l : Int) (A B : List En), putL l (A ++ B) = putL l A ++ putL (lastP l A) B
  | l, [], B => rfl
  | l, x :: r, B => by show _ :: putL (nx l x) (r ++ B) = _ :: (putL (nx l x) r ++ _); rw [putL_app (nx l x) r B]; rfl
theorem lastP_app : ∀ (l : Int) (A B : List En), lastP l (A ++ B) = lastP (lastP l A) B
  | l, [], B => rfl
  | l, x :: r, B => lastP_app (nx l x) r B
theorem putL_len : ∀ (l : Int) (A : List En), (putL l A).length = A.length
  | l, [] => rfl
  | l, x :: r => by show (_ :: putL (nx l x) r).length = _; rw [List.length_cons, putL_len (nx l x) r]; rfl
theorem putL_mem : ∀ (l : Int) (A : List En) (y : En), y ∈ putL l A → ∃ x ∈ A, y.s = x.s ∧ y.d = x.d
  | l, [], y, h => by cases h
  | l, x :: r, y, h => by
    rcases List.mem_cons.1 (show y ∈ _ :: putL (nx l x) r from h) with rfl | q
    · exact ⟨x, by simp, rfl, rfl⟩
    · obtain ⟨z, hz, e⟩ := putL_mem (nx l x) r y q
      exact ⟨z, by simp [hz], e⟩
/-- A row of the call's own as a row that is read. -/
theorem OwnOff.erow {base : Nat} {w : World} {v : Value} {X : List En} (h : OwnOff base 41 4 w v X.length (ecs (X.map En.e))) (hl : X.length ≤ 2932031007402) (hd : ∀ x ∈ X, Rw w x.s x.d) : ERow w v X := by
  obtain ⟨a, c, e, h1, h2, h3⟩ := h.len
  refine ⟨hl, ⟨a, c, e, h1, h2, fun j hj => ?_⟩, hd⟩
  obtain ⟨x0, x1, x2, x3⟩ := ecs_at (X.map En.e) j (by simpa using hj)
  obtain ⟨g, off, ea, q0⟩ := h3 _ _ x0
  obtain ⟨g1, off1, ea1, q1⟩ := h3 _ _ x1
  obtain ⟨g2, off2, ea2, q2⟩ := h3 _ _ x2
  obtain ⟨g3, off3, ea3, q3⟩ := h3 _ _ x3
  rw [ea] at ea1 ea2 ea3
  cases ea1; cases ea2; cases ea3
  rw [entA_map _ _ hj] at q0 q1 q2 q3
  exact ⟨g, off, ea, q0, by rw [Nat.add_assoc]; exact q1, by rw [Nat.add_assoc]; exact q2, by rw [Nat.add_assoc]; exact q3⟩
theorem wp_appEO {ops : Array Oper} {rest : List Oper} {o : Oper} {a : Act} {w : World} {Q : Exit → Act → World → Prop} (hgd : o.guard = none) (s x : Operand)
    (ho : o.op = .call { callee := .builtin .append, args := #[s, x], argTypes := #[29, 29] }) (base : Nat) (v : Value) (L : List Ent) (n g : Nat) (y : Ent)
    (hs : a.eval s = v) (hx : a.eval x = .slice (some ⟨g, 0, none⟩) 1 1) (hown : OwnOff base 41 4 w v n (ecs L)) (hc : EntIn w g 0 y) (hb : n + 1 ≤ 2932031007402) (hbase : base ≤ w.heap.size)
    (h : ∀ v' w', OwnOff base 41 4 w' v' (n + 1) (ecs (L ++ [y])) → w.grownBy w' v.ownBlock → wpList Try.prog ops Q rest (a.put o.dst v') w') : wpList Try.prog ops Q (o :: rest) a w := by
  obtain ⟨i0, hi, hz0, hz1, hz2⟩ := info_parts infoEnt
  refine wp_appOff hgd s x 29 ho base 41 i0 _ 4 48 Try.underlying29 hi hz0 hz1 hz2 rfl (by decide) v n (ecs L) hs hown ⟨g, 0, none⟩ 1 1 (ecs [y]) hx rfl ?_ (ecs_one _) (by unfold maxLen; omega) (by omega) hbase ?_
  · intro j u hj
    rw [Go.WideShapes.add_plain]
    obtain ⟨x0, x1, x2, x3⟩ := hc
    match j with
    | 0 => simp [ecs, ec] at hj; subst hj; exact x0
    | 1 => simp [ecs, ec] at hj; subst hj; exact x1
    | 2 => simp [ecs, ec] at hj; subst hj; exact x2
    | 3 => simp [ecs, ec] at hj; subst hj; exact x3
    | j + 4 => simp [ecs, ec] at hj
  · intro v' w' h1 h2 h4
    rw [ecs_app] at h1
    exact h v' w' h1 h2
set_option maxHeartbeats 4000000 in
set_option maxRecDepth 20000 in
theorem lawPut_any (v : Value) (X : List En) (l0 : Int) (w : World) (hX : ERow w v X) :
    Calls Try.prog 11 #[v, .int .i64 l0] w fun e w' => ∃ v', e = .returned v' ∧ ERow w' v' (putL l0 X) ∧ Old w w' ∧ ∀ g, v'.ownBlock = some g → w.heap.size ≤ g := by
  have HE := hid hX
  obtain ⟨hm, ⟨p, c, rfl, hmc, hcm, -⟩, -⟩ := hX
  have hmm : (X.length : Int) ≤ 2932031007402 := by omega
  obtain ⟨m, hmX⟩ : ∃ m, X.length = m := ⟨_, rfl⟩
  have HM := hid hmX
  rw [hmX] at hm hmc hmm HE ⊢
  clear hmX
  have hE : w.alloc (.cells #[] 41) |>.ownsRow w.heap.size 41 4 (.slice (some ⟨w.heap.size, 0, none⟩) 0 0) 0 [] := World.ownsRow_made w #[] 0 (Nat.le_refl _) (by unfold maxLen; omega) rfl
  have HO := hid (OwnOff.of hE)
  clear hE
  go_enter Try.func11, Try.ntmps11
  go_wp2
  go_loopw [1, 5, 11] (fun l o i wx => ∃ (k : Nat) (vo : Value) (lk : Int), k ≤ m ∧ i = .int .i64 (k : Nat) ∧ o = vo ∧ l = .int .i64 lk ∧ Hid (lk = lastP l0 (X.take k) ∧ OwnOff w.heap.size 41 4 wx vo k (ecs ((putL l0 (X.take k)).map En.e)) ∧ Old w wx)) (fun _ _ i _ => m - (intOf i).toNat)
  case atStart => exact ⟨0, _, _, Nat.zero_le _, rfl, rfl, rfl, hid ⟨rfl, HO.out, (Old.refl w).alloc _⟩⟩
  case round =>
    obtain ⟨k, vo, lk, hk, rfl, rfl, rfl, HI⟩ := hrel
    by_cases hlt : k < m
    · have hkX : k < X.length := by rw [HM.out]; exact hlt
      obtain ⟨-, ⟨p', c', ep, -, -, hcell⟩, -⟩ := HE.out
      obtain ⟨g, off, e1, e4⟩ := hcell k hkX
      rw [HM.out] at ep
      simp only [Value.slice.injEq] at ep
      obtain ⟨rfl, -, rfl⟩ := ep
      subst e1
      obtain ⟨x0, x1, x2, x3⟩ := EntIn.old e4 HI.out.2.2
      have HT := hid (take_at hkX)
      have HP := hid (show putL l0 (X.take (k + 1)) = putL l0 (X.take k) ++ [{ atE X k with i := nx lk (atE X k) }] from by rw [HT.out, putL_app, ← HI.out.1]; rfl)
      have HLl := hid (show lastP l0 (X.take (k + 1)) = nx lk (atE X k) from by rw [HT.out, lastP_app, ← HI.out.1]; rfl)
      clear hcell e4 HT
      generalize atE X k = E at *
      obtain ⟨ei, et, ek, ep, ec, ed⟩ := E
      dsimp only [En.e] at x0 x1 x2 x3
      obtain ⟨va, vc, rfl, -⟩ := HI.out.2.1.len
      have l1 : (0 : Int) ≤ (k : Int) := by omega
      have l2 : (k : Int) < (m : Int) := by omega
      have HW := hid (HI.out.2.2.alloc (.cells #[.int .i64 ei, .int .i64 et, .int .i64 ek, .slice ep ed.length ec] 41))
      by_cases hz : ei = 0
      · have HX := hid (show nx lk ⟨ei, et, ek, ep, ec, ed⟩ = IntKind.i64.wrap (lk + 1) from by unfold nx; rw [if_pos hz])
        have e0 : (ei == 0) = true := by simp [hz]
        have HN := hid (show k + 1 ≤ 2932031007402 from by omega)
        subst hz
        obtain ⟨wl, hwl⟩ : ∃ wl, IntKind.i64.wrap (lk + 1) = wl := ⟨_, rfl⟩
        rw [hwl] at HX
        obtain ⟨edl, hed⟩ : ∃ edl, ed.length = edl := ⟨_, rfl⟩
        have HED := hid (show (⟨wl, et, ek, ep, ec, ed⟩ : En).e = ⟨wl, et, ek, ep, edl, ec⟩ from by rw [← hed]; rfl)
        rw [hed] at x3
        clear hed HW
        go_upto_region 8 with (fail)
        have B8 := hid (alloc_at wr (.cells #[.int .i64 wl, .int .i64 et, .int .i64 ek, .slice ep edl ec] 41))
        have U8 := hid (HI.out.2.2.alloc (.cells #[.int .i64 wl, .int .i64 et, .int .i64 ek, .slice ep edl ec] 41))
        have O8 := hid (HI.out.2.1.up ((Old.refl wr).alloc (.cells #[.int .i64 wl, .int .i64 et, .int .i64 ek, .slice ep edl ec] 41)))
        clear x0 x1 x2 x3
        generalize wr.alloc (.cells #[.int .i64 wl, .int .i64 et, .int .i64 ek, .slice ep edl ec] 41) = wq at *
        obtain ⟨x0, x1, x2, x3, -⟩ := box4 B8.out
        have HBq := hid (show w.heap.size ≤ wq.heap.size from U8.out.size)
        generalize wr.heap.size = bx at *
        go_wp2_with (at_builtin; refine wp_appEO rfl (.tmp 23) (.tmp 25) rfl w.heap.size _ _ k _ ⟨wl, et, ek, ep, edl, ec⟩ rfl rfl (O8.out.up ((Old.refl wq).alloc _)) (cell_oneE wq ⟨wl, et, ek, ep, edl, ec⟩ _ rfl) HN.out (by have := HBq.out; simp; omega) ?_; intro v9 w9 o9 g9; have O9 := hid o9; have U9 := hid (Old.below (U8.out.alloc _) (Below.grown (Below.refl _ _) g9 (by have := HBq.out; simp; omega) (fun g e => (O8.out.lt g e).1))); clear o9 g9)
        refine ⟨⟨k + 1, v9, _, hlt, by go_num, rfl, rfl, hid ⟨?_, ?_, U9.out⟩⟩, by simp [intOf]; omega⟩
        · rw [HLl.out, HX.out]
        · rw [HP.out, HX.out, List.map_append]; show OwnOff _ _ _ _ _ _ (ecs (_ ++ [(⟨wl, et, ek, ep, ec, ed⟩ : En).e])); rw [HED.out]; exact O9.out
      · have HX := hid (show nx lk ⟨ei, et, ek, ep, ec, ed⟩ = ei from by unfold nx; rw [if_neg hz])
        have e0 : (ei == 0) = false := by simp [hz]
        have HN := hid (show k + 1 ≤ 2932031007402 from by omega)
        obtain ⟨edl, hed⟩ : ∃ edl, ed.length = edl := ⟨_, rfl⟩
        have HED := hid (show (⟨ei, et, ek, ep, ec, ed⟩ : En).e = ⟨ei, et, ek, ep, edl, ec⟩ from by rw [← hed]; rfl)
        rw [hed] at x3
        clear hed HW
        go_upto_region 8 with (fail)
        have B8 := hid (alloc_at wr (.cells #[.int .i64 ei, .int .i64 et, .int .i64 ek, .slice ep edl ec] 41))
        have U8 := hid (HI.out.2.2.alloc (.cells #[.int .i64 ei, .int .i64 et, .int .i64 ek, .slice ep edl ec] 41))
        have O8 := hid (HI.out.2.1.up ((Old.refl wr).alloc (.cells #[.int .i64 ei, .int .i64 et, .int .i64 ek, .slice ep edl ec] 41)))
        clear x0 x1 x2 x3
        generalize wr.alloc (.cells #[.int .i64 ei, .int .i64 et, .int .i64 ek, .slice ep edl ec] 41) = wq at *
        obtain ⟨x0, x1, x2, x3, -⟩ := box4 B8.out
        have HBq := hid (show w.heap.size ≤ wq.heap.size from U8.out.size)
        generalize wr.heap.size = bx at *
        go_wp2_with (at_builtin; refine wp_appEO rfl (.tmp 23) (.tmp 25) rfl w.heap.size _ _ k _ ⟨ei, et, ek, ep, edl, ec⟩ rfl rfl (O8.out.up ((Old.refl wq).alloc _)) (cell_oneE wq ⟨ei, et, ek, ep, edl, ec⟩ _ rfl) HN.out (by have := HBq.out; simp; omega) ?_; intro v9 w9 o9 g9; have O9 := hid o9; have U9 := hid (Old.below (U8.out.alloc _) (Below.grown (Below.refl _ _) g9 (by have := HBq.out; simp; omega) (fun g e => (O8.out.lt g e).1))); clear o9 g9)
        refine ⟨⟨k + 1, v9, _, hlt, by go_num, rfl, rfl, hid ⟨?_, ?_, U9.out⟩⟩, by simp [intOf]; omega⟩
        · rw [HLl.out, HX.out]
        · rw [HP.out, HX.out, List.map_append]; show OwnOff _ _ _ _ _ _ (ecs (_ ++ [(⟨ei, et, ek, ep, ec, ed⟩ : En).e])); rw [HED.out]; exact O9.out
    · obtain rfl : m = k := by omega
      obtain ⟨va, vc, rfl, -⟩ := HI.out.2.1.len
      go_wp2
      go_ret
      have e9 : X.take m = X := List.take_of_length_le (by rw [HM.out]; exact Nat.le_refl _)
      have o9 := HI.out.2.1
      rw [e9] at o9
      refine ⟨_, rfl, OwnOff.erow (base := w.heap.size) (by rw [putL_len, HM.out]; exact o9) (by rw [putL_len, HM.out]; exact hm) (fun y hy => ?_), HI.out.2.2, fun g e => (o9.lt g e).1⟩
      obtain ⟨x, hx, e1, e2⟩ := putL_mem _ _ _ hy
      rw [e1, e2]
      exact (HE.out.2.2 x hx).old HI.out.2.2
end Go.Proofs.Ytgpfmohaogppiaa
