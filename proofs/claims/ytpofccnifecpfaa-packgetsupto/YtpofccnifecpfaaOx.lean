/- The document's values in rows of their own; conditions: at most 4194304 values. -/
import Derived.Test.YtpofccnifecpfaaVk
namespace Go.Proofs.Ytpofccnifecpfaa
open Go.RowKit
set_option linter.unusedVariables false
attribute [local go_sem] run_bits run_frombits run_store_float
theorem infoRVal : (Try.prog.info? 57).map (fun i => (i.zero, i.size, i.bytes)) = some (some (.agg #[.int .i64 0, .int .i64 0, .float .f64 0, .slice none 0 0, .bool false]), 5, 56) := by kernel_rfl
def OwnR (base : Nat) (w : World) (v : Value) (n : Nat) (f : Nat → PV) : Prop := w.ownsRow base 57 5 v n (vl n f)
theorem OwnR.empty {base g : Nat} {w : World} {f : Nat → PV} (hb : base ≤ w.heap.size) (hg : w.heap.size = g) : OwnR base (w.alloc (.cells #[] 57)) (.slice (some ⟨g, 0, none⟩) 0 0) 0 f := by
  subst hg
  exact World.ownsRow_made w #[] 0 hb (by unfold maxLen; omega) rfl
theorem OwnR.shape {base : Nat} {w : World} {v : Value} {n : Nat} {f : Nat → PV} (h : OwnR base w v n f) : ∃ a c, v = .slice a n c ∧ ∀ i, i < n → ∃ b off, a = some ⟨b, off, none⟩ ∧ PV.At w b (off + i * 5) (f i) := by
  have h2 := h
  rcases h2.2 with ⟨hv, hn⟩ | ⟨g, cap, cur, hv, hb, hg, hnc, hcm, hcs, htk⟩
  · subst hn; exact ⟨none, 0, hv, fun i hi => by omega⟩
  · refine ⟨_, _, hv, fun i hi => ⟨g, 0, rfl, ?_⟩⟩
    subst hv
    have at_ : ∀ j, j < 5 → w.cell? ⟨g, 0 + i * 5 + j, none⟩ = some (pvc (f i) j) := by
      intro j hj
      rw [Nat.zero_add, World.ownsRow.cellAt h (i * 5 + j) (by omega), vl_get _ _ _ (by omega)]
      rw [show (i * 5 + j) / 5 = i by omega, show (i * 5 + j) % 5 = j by omega]
    exact ⟨at_ 0 (by omega), at_ 1 (by omega), at_ 2 (by omega), at_ 3 (by omega), at_ 4 (by omega)⟩
/-- 'append(s, x...)' of values, s the call's own, x any row of values. -/
theorem wp_appR {ops : Array Oper} {rest : List Oper} {o : Oper} {a : Act} {Q : Exit → Act → World → Prop} {w : World} (hgd : o.guard = none) (s x : Operand)
    (ho : o.op = .call { callee := .builtin .append, args := #[s, x], argTypes := #[37, 37] }) (base : Nat) (v u : Value) (n m : Nat) (f g : Nat → PV)
    (hs : a.eval s = v) (hx : a.eval x = u) (hown : OwnR base w v n f) (hrow : VRow w u m g) (hb : n + m ≤ 4194304) (hbase : base ≤ w.heap.size)
    (h : ∀ v' w', OwnR base w' v' (n + m) (catP n f g) → Below base w w' → wpList Try.prog ops Q rest (a.put o.dst v') w') : wpList Try.prog ops Q (o :: rest) a w := by
  obtain ⟨i0, hi, hz0, hz1, hz2⟩ := info_parts infoRVal
  have bel : ∀ w', w.grownBy w' v.ownBlock → Below base w w' := fun w' hg => Below.grown (Below.refl _ _) hg hbase (fun k hk => (World.ownsRow.lt hown k hk).1)
  have one : ∀ (ad : Addr) (c : Nat), u = .slice (some ad) m c → (∀ i, i < m → PV.In w (g i)) → (∀ j, j < m * 5 → w.cell? (ad.add j) = some (pvc (g (j / 5)) (j % 5))) → wpList Try.prog ops Q (o :: rest) a w := by
    intro ad c hu hin hc
    have news : ∀ j t, (vl m g)[j]? = some t → w.cell? (ad.add j) = some t := by
      intro j t hj
      by_cases hjm : j < m * 5
      · rw [vl_get _ _ _ hjm] at hj; cases hj; exact hc j hjm
      · rw [vl_get_ge _ _ _ (by omega)] at hj; cases hj
    refine wpList_append_own w hgd s x 37 ho base 57 i0 _ 5 56 Try.underlying37 hi hz0 hz1 hz2 rfl (by decide) v n (vl n f) hs hown ad m c (vl m g) (hx.trans hu) (vl_len _ _) news (vl_one w m g hin) (by unfold maxLen; omega) (by omega) hbase ?_
    intro v' w' h1 h2 h3
    rw [vl_cat] at h1
    exact h v' w' h1 (bel w' h2)
  rcases hrow with ⟨rfl, ad, c, rfl, hz⟩ | ⟨hm, b, off, cap, rfl, hc, _⟩
  · cases ad with
    | none =>
      obtain rfl := hz rfl
      refine wpList_append_own_none hgd s x 37 ho base 57 i0 5 Try.underlying37 hi v n (vl n f) hs hown hx ?_
      refine h v w ?_ (Below.refl _ _)
      unfold OwnR
      rw [← vl_cat]
      simpa [OwnR, vl] using hown
    | some ad => exact one ad c rfl (fun i hi => by omega) (fun j hj => by omega)
  · refine one ⟨b, off, none⟩ cap rfl (fun i hi => (hc i hi).2) (fun j hj => ?_)
    rw [Go.WideShapes.add_plain]
    obtain ⟨h0, h1, h2, h3, h4⟩ := (hc (j / 5) (by omega)).1
    have hj5 : j % 5 < 5 := Nat.mod_lt _ (by omega)
    have e : off + j = off + j / 5 * 5 + j % 5 := by omega
    rw [e]
    generalize j % 5 = r at *
    match r, hj5 with
    | 0, _ => exact h0
    | 1, _ => exact h1
    | 2, _ => exact h2
    | 3, _ => exact h3
    | 4, _ => exact h4

theorem VRow.up {w w' : World} {v : Value} {n : Nat} {f : Nat → PV} (h : VRow w v n f) (u : Up w w') : VRow w' v n f := by
  rcases h with h | ⟨hn, b, off, cap, hv, hc, hcp⟩
  · exact .inl h
  · exact .inr ⟨hn, b, off, cap, hv, fun i hi => ⟨(hc i hi).1.up u, (hc i hi).2.up u⟩, hcp⟩
theorem VRow.open {w : World} {v : Value} {n : Nat} {f : Nat → PV} (h : VRow w v n f) : ∃ a c, v = .slice a n c ∧ ∀ i, i < n → ∃ b off, a = some ⟨b, off, none⟩ ∧ PV.At w b (off + i * 5) (f i) ∧ PV.In w (f i) := by
  rcases h with ⟨rfl, a, c, hv, _⟩ | ⟨hn, b, off, cap, hv, hc, hcp⟩
  · exact ⟨a, c, hv, fun i hi => by omega⟩
  · exact ⟨_, _, hv, fun i hi => ⟨b, off, rfl, hc i hi⟩⟩
/-- A row of one value, new. -/
theorem row1V (w : World) (p : PV) (h : PV.In w p) (t : TypeId) (g : Nat) (hg : w.heap.size = g) : VRow (w.alloc (.cells #[.int .i64 p.k, .int .i64 p.n, .float .f64 p.x, p.b, .bool p.on] t)) (.slice (some ⟨g, 0, none⟩) 1 1) 1 (fun _ => p) := by
  subst hg
  have cc := fun j u (hj : (#[.int .i64 p.k, .int .i64 p.n, .float .f64 p.x, p.b, .bool p.on] : Array Value)[j]? = some u) => cell_new w #[.int .i64 p.k, .int .i64 p.n, .float .f64 p.x, p.b, .bool p.on] t (0, 0) j u hj
  refine .inr ⟨by omega, w.heap.size, 0, 1, rfl, fun i hi => ?_, by omega, by unfold maxLen; omega⟩
  obtain rfl : i = 0 := by omega
  exact ⟨⟨cc 0 _ rfl, cc 1 _ rfl, cc 2 _ rfl, cc 3 _ rfl, cc 4 _ rfl⟩, h.up ((Up.refl _).alloc _)⟩
theorem OwnR.up {base : Nat} {w w' : World} {v : Value} {n : Nat} {f : Nat → PV} (h : OwnR base w v n f) (u : Up w w') : OwnR base w' v n f := by
  refine ⟨h.1, ?_⟩
  rcases h.2 with e | ⟨g, cap, cur, e, hb', hg, r⟩
  · exact .inl e
  · exact .inr ⟨g, cap, cur, e, hb', by rw [u.block g (lt_of_block hg)]; exact hg, r⟩
theorem OwnR.congr {base : Nat} {w : World} {v : Value} {n : Nat} {f g : Nat → PV} (h : OwnR base w v n f) (e : ∀ i, i < n → f i = g i) : OwnR base w v n g := by
  unfold OwnR at *
  have q : vl n f = vl n g := by
    unfold vl
    apply List.map_congr_left
    intro j hj
    rw [e (j / 5) (by have := List.mem_range.1 hj; omega)]
  rw [← q]; exact h
set_option maxHeartbeats 1000000 in
theorem of_any (a : Option Addr) (n cap : Nat) (f : Nat → PV) (hnc : n ≤ 1048576) (w : World) (hc : ∀ i, i < n → ∃ b off, a = some ⟨b, off, none⟩ ∧ PV.At w b (off + i * 5) (f i) ∧ PV.In w (f i)) :
    Calls Try.prog 13 #[.slice a n cap] w fun e w' => ∃ v', e = .returned v' ∧ OwnR w.heap.size w' v' n f ∧ Up w w' := by
  have HC := hid hc
  clear hc
  go_enter Try.func13, Try.ntmps13
  go_wp2
  go_loopw [3, 9] (fun o i wr => ∃ k : Nat, k ≤ n ∧ i = .int .i64 (k : Nat) ∧ OwnR w.heap.size wr o k f ∧ Up w wr) (fun _ i _ => n - (intOf i).toNat)
  case atStart => exact ⟨0, Nat.zero_le _, rfl, OwnR.empty (Nat.le_refl _) rfl, (Up.refl w).alloc _⟩
  case round =>
    obtain ⟨k, hk, rfl, ho, hu⟩ := hrel
    by_cases hlt : k < n
    · obtain ⟨b, off, ha, hat, hin⟩ := HC.out k hlt
      subst ha
      have hat2 := hat.up hu
      obtain ⟨x0, x1, x2, x3, x4⟩ := hat2
      have HOk := hid ho
      obtain ⟨a, c, hb⟩ := PV.slice hin
      have HI := hid (hin.up hu)
      have HR := hid (fun (W : World) (hW : Up wr W) (g : Nat) (hg : W.heap.size = g) => row1V W (f k) (HI.out.up hW) 57 g hg)
      rw [hb] at x3 HR
      clear ho hin hat hb HC
      generalize hk1 : (f k).k = k1 at *
      generalize hk2 : (f k).n = k2 at *
      generalize hk3 : (f k).x = k3 at *
      generalize hk4 : (f k).bn = k4 at *
      generalize hk5 : (f k).on = k5 at *
      clear hk1 hk2 hk3 hk4 hk5
      go_wp2_with (at_builtin; refine wp_appR rfl (.tmp 13) (.tmp 25) rfl w.heap.size _ _ k 1 f (fun _ => f k) rfl rfl (OwnR.up (OwnR.up HOk.out ((Up.refl wr).alloc _)) ((Up.refl _).alloc _)) (HR.out _ ((Up.refl wr).alloc _) (wr.heap.size + 1) (by simp)) (by omega) (by have := hu.size; simp; omega) ?_; intro v' w1 hown hbel)
      go_roundw
      case rel => exact ⟨k + 1, hlt, by go_num, hown.congr (fun i hi => by unfold catP; split; rfl; (obtain rfl : i = k := by omega); rfl), Below.trans (Up.alloc (hu.alloc _) _) hbel⟩
      case measure => simp [intOf]; omega
    · obtain rfl : k = n := by omega
      have HOk := hid ho
      clear ho HC
      go_wp2
      go_ret
      exact ⟨_, rfl, HOk.out, hu⟩
end Go.Proofs.Ytpofccnifecpfaa
