/- Tables: New, Len, Clear, All, Drop; conditions: the lengths fit. -/
import Derived.Test.YtodoogcllahfgaaYl
namespace Go.Proofs.Ytodoogcllahfgaa
open Go.RowKit Go.Lib
set_option linter.unusedVariables false
set_option linter.unusedSimpArgs false
set_option maxRecDepth 20000
/-- A table lies at block b: how many may be, its items. -/
def TabAt (base : Nat) (w : World) (b : Nat) (most : Int) (v : Value) (L : List It) : Prop := base ≤ b ∧ w.cell? ⟨b, 0, none⟩ = some (.int .i64 most) ∧ w.cell? ⟨b, 1, none⟩ = some v ∧ w.frozen? ⟨b, 1, none⟩ = false ∧ Own base w v L ∧ v.ownBlock ≠ some b
theorem TabAt.old {base : Nat} {w w' : World} {b : Nat} {most : Int} {v : Value} {L : List It} (h : TabAt base w b most v L) (u : Old w w') : TabAt base w' b most v L := ⟨h.1, u.keep h.2.1, u.keep h.2.2.1, u.keepF h.2.2.1 h.2.2.2.1, h.2.2.2.2.1.old u, h.2.2.2.2.2⟩
theorem Chg.keepF {S : List Nat} {w w' : World} (c : Chg S w w') {p : Addr} {v : Value} (h : w.cell? p = some v) (hf : w.frozen? p = false) (hn : p.block ∉ S) : w'.frozen? p = false := by
  rw [World.frozen?_of_block (w := w) (c.block p.block (World.block_lt_of_cell? w p h) hn)]; exact hf
theorem TabAt.chg {base : Nat} {S : List Nat} {w w' : World} {b : Nat} {most : Int} {v : Value} {L : List It} (h : TabAt base w b most v L) (u : Chg S w w') (h1 : b ∉ S) (h2 : ∀ g, v.ownBlock = some g → g ∉ S) : TabAt base w' b most v L :=
  ⟨h.1, u.cell h.2.1 h1, u.cell h.2.2.1 h1, u.keepF h.2.2.1 h.2.2.2.1 h1, h.2.2.2.2.1.chg u h2, h.2.2.2.2.2⟩
theorem TabAt.lt {base : Nat} {w : World} {b : Nat} {most : Int} {v : Value} {L : List It} (h : TabAt base w b most v L) : b < w.heap.size := World.block_lt_of_cell? w _ h.2.1
/-- The blocks that a table owns. -/
def blks (b : Nat) (v : Value) : List Nat := b :: v.ownBlock.toList
theorem mem_blks {b : Nat} {v : Value} {k : Nat} : k ∈ blks b v ↔ k = b ∨ v.ownBlock = some k := by simp [blks, Option.mem_toList]
theorem TabAt.blk {base : Nat} {w : World} {b : Nat} {most : Int} {v : Value} {L : List It} (h : TabAt base w b most v L) : ∀ k, k ∈ blks b v → base ≤ k ∧ k < w.heap.size := by
  intro k hk
  rcases mem_blks.1 hk with rfl | e
  · exact ⟨h.1, h.lt⟩
  · exact h.2.2.2.2.1.lt k e
/-- A new value for a table's items, stored. -/
theorem TabAt.store {base : Nat} {w w' : World} {b : Nat} {most : Int} {v v' : Value} {L L' : List It} (h : TabAt base w b most v L) (c : Chg v.ownBlock.toList w w') (ho : Own base w' v' L') (hn : ∀ g, v'.ownBlock = some g → v.ownBlock = some g ∨ w.heap.size ≤ g) :
    TabAt base (w'.setCell ⟨b, 1, none⟩ v') b most v' L' ∧ Chg (blks b v) w (w'.setCell ⟨b, 1, none⟩ v') := by
  have hb : b ∉ v.ownBlock.toList := fun e => h.2.2.2.2.2 (by simpa [Option.mem_toList] using e)
  have hne : v'.ownBlock ≠ some b := fun e => by
    rcases hn b e with q | q
    · exact h.2.2.2.2.2 q
    · have := h.lt; omega
  have c0 := c.cell h.2.1 hb
  have c1 := c.cell h.2.2.1 hb
  have hC : Chg [b] w' (w'.setCell ⟨b, 1, none⟩ v') := Chg.set w' ⟨b, 1, none⟩ v' (by simp)
  refine ⟨⟨h.1, ?_, World.cell?_setCell_same _ _ _ c1, ?_, ho.chg hC (fun g hg => by simp; intro e; exact hne (by rw [← e]; exact hg)), hne⟩, ?_⟩
  · rw [World.cell?_setCell_other _ _ _ _ (by simp)]; exact c0
  · rw [World.frozen?_setCell]; exact c.keepF h.2.2.1 h.2.2.2.1 hb
  · exact (c.mono fun k hk _ => by simp [blks]; exact .inr (by simpa using hk)).trans (hC.mono fun k hk _ => by simp at hk; simp [blks, hk])
def mostC (m : Int) : Int := max 0 (min m 64)
theorem tab_new (w : World) (m q : Int) {g : Nat} (hg : w.heap.size = g) (h : m = q) : TabAt g (w.alloc (.cells #[.int .i64 q, .slice none 0 0] 58)) g m (.slice none 0 0) [] := by
  subst hg h
  have hh := alloc_heap w (.cells #[.int .i64 m, .slice none 0 0] 58) _ rfl
  exact ⟨Nat.le_refl _, by rw [cell_of_heap hh]; rfl, by rw [cell_of_heap hh]; rfl, frozen_of_heap hh _, Own.nil _ _, by simp [Value.ownBlock]⟩
attribute [local go_sem] run_store_float
set_option maxHeartbeats 400000 in
set_option maxRecDepth 20000 in
theorem new_any (m : Int) (w : World) :
    Calls Try.prog 4 #[.int .i64 m] w fun e w' => e = .returned (.pointer (some ⟨w.heap.size, 0, none⟩)) ∧ TabAt w.heap.size w' w.heap.size (mostC m) (.slice none 0 0) [] ∧ Old w w' := by
  go_enter Try.func4, Try.ntmps4
  go_wp2
  all_goals go_ret
  · exact ⟨rfl, tab_new w _ _ rfl (by unfold mostC; omega), (Old.refl w).alloc _⟩
  · exact ⟨rfl, tab_new w _ _ rfl (by unfold mostC; omega), (Old.refl w).alloc _⟩
  · exact ⟨rfl, tab_new w _ _ rfl (by unfold mostC; omega), (Old.refl w).alloc _⟩
set_option maxHeartbeats 400000 in
set_option maxRecDepth 20000 in
theorem len_any (base b : Nat) (most : Int) (v : Value) (L : List It) (w : World) (h : TabAt base w b most v L) :
    Calls Try.prog 12 #[.pointer (some ⟨b, 0, none⟩)] w fun e w' => e = .returned (.int .i64 (L.length : Nat)) ∧ w' = w := by
  obtain ⟨hb, h0, h1, hf, ho, hne⟩ := h
  obtain ⟨a, c, rfl⟩ := ho.len
  clear ho
  go_enter Try.func12, Try.ntmps12
  go_wp2
  go_ret
  exact ⟨rfl, rfl⟩
set_option maxHeartbeats 400000 in
set_option maxRecDepth 20000 in
theorem clear_any (base b : Nat) (most : Int) (v : Value) (L : List It) (w : World) (h : TabAt base w b most v L) :
    Calls Try.prog 11 #[.pointer (some ⟨b, 0, none⟩)] w fun e w' => e = .returned (.tuple #[]) ∧ TabAt base w' b most (.slice none 0 0) [] ∧ Chg (blks b v) w w' := by
  have HE := hid (h.store (v' := .slice none 0 0) (L' := []) (Chg.refl _ w) (Own.nil _ _) (fun g hg => by simp [Value.ownBlock] at hg))
  obtain ⟨hb, h0, h1, hf, ho, hne⟩ := h
  clear ho
  go_enter Try.func11, Try.ntmps11
  go_wp2
  exact bodyPost_end (v := .tuple #[]) (by simp [results, Try.results11, go_sem]) rfl ⟨rfl, HE.out.1, HE.out.2⟩
set_option maxHeartbeats 1000000 in
set_option maxRecDepth 20000 in
theorem clone_any (base : Nat) (v : Value) (L : List It) (w : World) (hL : L.length ≤ 1000000) (hown : Own base w v L) :
    Calls Try.prog 30 #[v] w fun e w' => ∃ v', e = .returned v' ∧ Own w.heap.size w' v' L ∧ Old w w' := by
  rcases hown.2 with ⟨rfl, hn⟩ | ⟨g, cap, cur, rfl, hb, hg, hnc, hcm, hcs, htk⟩
  · obtain rfl : L = [] := List.length_eq_zero_iff.1 hn
    have hq := fun w => Go.Lib.run_eql_slice_nil (P := Try.prog) w 44 49 none 0 0 0 0 Try.underlying44
    go_enter Try.func30, Try.ntmps30
    go_wp2
    go_ret
    exact ⟨_, rfl, Own.nil _ _, Old.refl _⟩
  · have hr : RowIs w g L.length cap cur L := ⟨hg, rfl, hnc, hcm, hcs, htk⟩
    have HC := hid hr.cells.1
    have HL := hid (itcs_len L)
    have hq := fun w => Go.Lib.run_eql_slice_nil (P := Try.prog) w 44 49 (some ⟨g, 0, none⟩) L.length cap 0 0 Try.underlying44
    obtain ⟨i0, hi, hz0, hz1, hz2⟩ := info_parts infoIt
    have HI := hid (And.intro hi (And.intro hz0 (And.intro hz1 hz2)))
    have hE : Own w.heap.size (w.alloc (.cells #[] 49)) (.slice (some ⟨w.heap.size, 0, none⟩) 0 0) [] := World.ownsRow_made w #[] 0 (Nat.le_refl _) (by unfold maxLen; omega) rfl
    have HEE := hid hE
    clear hr hown hg hcs htk hcm hi hz0 hz1 hz2 hE
    go_enter Try.func30, Try.ntmps30
    go_wp2_with (at_builtin; refine wpList_append_own _ rfl (.tmp 5) (.tmp 6) 44 rfl w.heap.size 49 i0 _ 5 32 Try.underlying44 HI.out.1 HI.out.2.1 HI.out.2.2.1 HI.out.2.2.2 rfl (by decide) _ 0 [] rfl HEE.out ⟨g, 0, none⟩ L.length cap (itcs L) rfl HL.out (fun j u hj => by rw [Addr.add_lit, Nat.zero_add]; exact ((Old.refl w).alloc _).keep (HC.out j u hj)) (itcs_one L) (by unfold maxLen; omega) (by omega) (by simp) ?_; intro v' w' h1 h2 h3; have H1 := hid h1; have H2 := hid (Old.below ((Old.refl w).alloc (.cells #[] 49)) (Below.grown (Below.refl _ _) h2 (by simp) (fun k hk => by cases hk; exact Nat.le_refl _))); clear h1 h2 h3)
    go_ret
    refine ⟨_, rfl, ?_, H2.out⟩
    have q := H1.out
    rw [Nat.zero_add, List.nil_append] at q
    exact q
set_option maxHeartbeats 400000 in
set_option maxRecDepth 20000 in
theorem all_any (base b : Nat) (most : Int) (v : Value) (L : List It) (w : World) (hL : L.length ≤ 1000000) (h : TabAt base w b most v L) :
    Calls Try.prog 15 #[.pointer (some ⟨b, 0, none⟩)] w fun e w' => ∃ v', e = .returned v' ∧ Own w.heap.size w' v' L ∧ Old w w' := by
  have HC := hid (clone_any base v L w hL h.2.2.2.2.1)
  obtain ⟨hb, h0, h1, hf, ho, hne⟩ := h
  clear ho
  go_enter Try.func15, Try.ntmps15
  go_wp2_with (go_at_call 30; refine HC.out.mono ?_; rintro e w1 ⟨v1, rfl, o1, u1⟩; have O1 := hid o1; have U1 := hid u1; clear o1 u1)
  go_ret
  exact ⟨_, rfl, O1.out, U1.out⟩
set_option maxHeartbeats 1000000 in
set_option maxRecDepth 20000 in
theorem drop_any (base b : Nat) (most m : Int) (v : Value) (L : List It) (w : World) (hL : L.length ≤ 1000000) (h : TabAt base w b most v L) :
    Calls Try.prog 10 #[.pointer (some ⟨b, 0, none⟩), .int .i64 m] w fun e w' => ∃ v', e = .returned (.int .i64 ((L.length - (keepL m L).length : Nat) : Int)) ∧ TabAt base w' b most v' (keepL m L) ∧ Chg (blks b v) w w' ∧ ∀ g, v'.ownBlock = some g → v.ownBlock = some g := by
  have hle : (keepL m L).length ≤ L.length := List.length_filter_le _ _
  have hbl := h.lt
  have h2 := h.old ((Old.refl w).alloc (.cells #[.int .i64 m] 2))
  have hm : (w.alloc (.cells #[.int .i64 m] 2)).cell? ⟨w.heap.size, 0, none⟩ = some (.int .i64 m) := by rw [cell_of_heap (alloc_heap w _ _ rfl)]; rfl
  have hV := hid ((Old.refl w).alloc (.cells #[.int .i64 m] 2))
  have HD := hid (delete_any base v L m w.heap.size _ hL h2.2.2.2.2.1 hm (fun e => by have := (h.2.2.2.2.1.lt _ e).2; omega))
  have H2 := hid h2
  obtain ⟨hb, h0, h1, hf, ho, hne⟩ := h2
  obtain ⟨a, c, hv⟩ := ho.len
  clear ho h
  subst hv
  go_enter Try.func10, Try.ntmps10
  go_upto_region 1 with fail
  generalize w.alloc (.cells #[.int .i64 m] 2) = w1 at *
  have HBS := hid (show b ∉ (Value.slice a L.length c).ownBlock.toList from fun e => hne (by simpa [Option.mem_toList] using e))
  have HF1 := hid (And.intro h1 hf)
  go_wp2_with (go_at_call 26; refine HD.out.mono ?_; rintro e w2 ⟨v2, rfl, o2, c2, n2⟩; obtain ⟨a2, k2, hv2⟩ := o2.len; subst hv2; have q1 := c2.cell HF1.out.1 HBS.out; have q2 := c2.keepF HF1.out.1 HF1.out.2 HBS.out; have ST := hid (H2.out.store c2 o2 (fun g hg => .inl (n2 g hg))); have N2 := hid n2; clear o2 c2 n2)
  go_ret
  refine ⟨_, ret_i (by omega), ST.out.1, (Chg.ofOld hV.out).trans ST.out.2, N2.out⟩
end Go.Proofs.Ytodoogcllahfgaa
