/- slices.IndexFunc and slices.DeleteFunc with Drop's function, at a row that the call owns; conditions: the lengths fit. -/
import Derived.Test.YtefffjlcfghniaaZc
namespace Go.Proofs.Ytefffjlcfghniaa
open Go.RowKit Go.Lib
set_option linter.unusedVariables false
set_option linter.unusedSimpArgs false
set_option maxRecDepth 20000
/-- An item lies at a place. -/
def ItIn (w : World) (b o : Nat) (x : It) : Prop := w.cell? ⟨b, o, none⟩ = some (.int .i64 x.n) ∧ w.cell? ⟨b, o + 1, none⟩ = some (.int .i64 x.c) ∧ w.cell? ⟨b, o + 2, none⟩ = some (.int .i64 x.m)
theorem ItIn.old {w w' : World} {b o : Nat} {x : It} (h : ItIn w b o x) (u : Old w w') : ItIn w' b o x := ⟨u.keep h.1, u.keep h.2.1, u.keep h.2.2⟩
def atI (L : List It) (i : Nat) : It := (L[i]?).getD ⟨0, 0, 0⟩
theorem atI_get (L : List It) (i : Nat) (h : i < L.length) : atI L i = L[i] := by simp [atI, h]
theorem cells_in {w : World} {g o : Nat} {x : It} (h : ∀ j u, (itc x)[j]? = some u → w.cell? ⟨g, o + j, none⟩ = some u) : ItIn w g o x := by
  have H : ∀ j, j < 3 → w.cell? ⟨g, o + j, none⟩ = (itc x)[j]? := fun j hj => by
    rw [List.getElem?_eq_getElem (by rw [itc_len]; exact hj)]
    exact h j _ (List.getElem?_eq_getElem _)
  exact ⟨H 0 (by decide), H 1 (by decide), H 2 (by decide)⟩
theorem RowIs.item {w : World} {g n cap : Nat} {cur : Array Value} {L : List It} (h : RowIs w g n cap cur L) (i : Nat) (hi : i < L.length) : ItIn w g (i * 3) (atI L i) := by
  refine cells_in fun j u hj => h.cells.1 _ u ?_
  rw [atI_get L i hi] at hj
  rw [itcs, flat_get itc 3 itc_len L i j hi (by have := (List.getElem?_eq_some_iff.1 hj).1; rw [itc_len] at this; exact this)]
  exact hj
theorem Own.shape {base : Nat} {w : World} {v : Value} {L : List It} (h : Own base w v L) (hn : 0 < L.length) :
    ∃ g cap, v = .slice (some ⟨g, 0, none⟩) L.length cap ∧ base ≤ g ∧ g < w.heap.size ∧ (∀ i, i < L.length → ItIn w g (i * 3) (atI L i)) ∧ ∀ o, w.frozen? ⟨g, o, none⟩ = false := by
  rcases h.2 with ⟨_, e⟩ | ⟨g, cap, cur, rfl, hb, hg, hnc, hcm, hcs, htk⟩
  · omega
  · have hr : RowIs w g L.length cap cur L := ⟨hg, rfl, hnc, hcm, hcs, htk⟩
    exact ⟨g, cap, rfl, hb, heap_lt hg, fun i hi => hr.item i hi, hr.cells.2.2⟩
set_option maxHeartbeats 400000 in
set_option maxRecDepth 20000 in
theorem drop1_any (x : It) (m : Int) (mb : Nat) (w : World) (hm : w.cell? ⟨mb, 0, none⟩ = some (.int .i64 m)) :
    Calls Try.prog 29 #[.agg #[.int .i64 x.n, .int .i64 x.c, .int .i64 x.m], .pointer (some ⟨mb, 0, none⟩)] w fun e w' => e = .returned (.bool (decide (x.n ≤ m))) ∧ Old w w' := by
  have hm2 := ((Old.refl w).alloc (.cells (itc x).toArray 71)).keep hm
  simp only [itc] at hm2
  go_enter Try.func29, Try.ntmps29
  go_wp2
  go_ret
  exact ⟨rfl, (Old.refl w).alloc _⟩
set_option maxHeartbeats 1000000 in
set_option maxRecDepth 20000 in
theorem index_any (base : Nat) (v : Value) (L : List It) (m : Int) (mb r : Nat) (w : World) (hL : L.length ≤ 1000000) (hown : Own base w v L) (hm : w.cell? ⟨mb, 0, none⟩ = some (.int .i64 m)) (hr : r ≤ L.length) (h1 : ∀ j, j < r → m < (atI L j).n) (h2 : r < L.length → (atI L r).n ≤ m) :
    Calls Try.prog 50 #[v, .func (.func 29) #[] #[.pointer (some ⟨mb, 0, none⟩)]] w fun e w' => e = .returned (.int .i64 (if r < L.length then (r : Int) else -1)) ∧ Old w w' := by
  have HO := hid hown
  have HM := hid hm
  have H1 := hid h1
  have H2 := hid h2
  have hbN : L.length ≤ 9223372036854775807 := by omega
  obtain ⟨a, c, hv⟩ := hown.len
  subst hv
  have HS := hid (fun (h : 0 < L.length) => hown.shape h)
  clear hown hm h1 h2
  generalize hN : L.length = N at *
  go_enter Try.func50, Try.ntmps50
  go_wp2
  go_loopw [8] (fun i wr => ∃ k : Nat, k ≤ r ∧ i = .int .i64 (k : Nat) ∧ Old w wr) (fun i _ => N - (intOf i).toNat)
  case atStart => exact ⟨0, Nat.zero_le _, rfl, Old.refl _⟩
  case round =>
    obtain ⟨k, hk, rfl, hu⟩ := hrel
    have HU := hid hu
    clear hu
    by_cases hlt : k < N
    · obtain ⟨g, cap, he, hb, hgl, hi, hf⟩ := HS.out (by omega)
      simp only [Value.slice.injEq] at he
      obtain ⟨rfl, _, rfl⟩ := he
      have hit := (hi k hlt).old HU.out
      obtain ⟨c0, c1, c2⟩ := hit
      have l1 : (0 : Int) ≤ (k : Int) := by omega
      have l2 : (k : Int) < (N : Int) := by omega
      clear hi hf
      have HK := hid (fun W (hW : Old w W) => drop1_any (atI L k) m mb W (hW.keep HM.out))
      by_cases hkr : k < r
      · have hd : m < (atI L k).n := H1.out k hkr
        go_wp2_with (go_at_call 29; refine (HK.out _ HU.out).mono ?_; rintro e w5 ⟨rfl, u5⟩; have U5 := hid u5; clear u5)
        go_roundw
        case rel => exact ⟨k + 1, hkr, by go_num, HU.out.trans U5.out⟩
        case measure => simp [intOf]; omega
      · obtain rfl : k = r := by omega
        have hd : (atI L k).n ≤ m := H2.out hlt
        go_wp2_with (go_at_call 29; refine (HK.out _ HU.out).mono ?_; rintro e w5 ⟨rfl, u5⟩; have U5 := hid u5; clear u5)
        go_ret
        exact ⟨rfl, HU.out.trans U5.out⟩
    · obtain rfl : k = N := by omega
      obtain rfl : r = k := by omega
      go_wp2
      go_ret
      exact ⟨rfl, HU.out⟩
theorem run_clear_K (w : World) (ty : TypeId) (g o n c : Nat) (cur : Array Value) (hg : w.heap[g]? = some (.cells cur 71 (0, 0))) (hn : 0 < n) (hf : o + n * 3 ≤ cur.size) :
    (Builtin.clear_ #[61] ty #[.slice (some ⟨g, o, none⟩) n c]).run Try.prog w = .ok (.tuple #[]) (w.setCells g o (Builtin.zeroCells #[.int .i64 0, .int .i64 0, .int .i64 0] n).toList) := by
  obtain ⟨i0, hi, hz0, hz1, hz2⟩ := info_parts infoIt
  have hl : (Builtin.zeroCells #[.int .i64 0, .int .i64 0, .int .i64 0] n).toList.length = n * 3 := by rw [Array.length_toList, zeroCells_size]; rfl
  have h1 : ∀ u ∈ (Builtin.zeroCells #[.int .i64 0, .int .i64 0, .int .i64 0] n).toList, u.oneCell' = true := by
    intro u hu
    simp [Builtin.zeroCells] at hu
    obtain ⟨j, hj, rfl⟩ := hu
    have hm : j % 3 < 3 := Nat.mod_lt _ (by decide)
    generalize j % 3 = q at *
    match q, hm with
    | 0, _ => rfl
    | 1, _ => rfl
    | 2, _ => rfl
  have hst := run_storeCells_cells (P := Try.prog) g o (Builtin.zeroCells #[.int .i64 0, .int .i64 0, .int .i64 0] n).toList 0 w (fun j hj => by rw [cell_of_heap hg, Array.getElem?_eq_getElem (by omega)]; rfl) (fun j hj => frozen_of_heap hg _) h1
  simp only [Nat.add_zero] at hst
  obtain ⟨m, rfl⟩ : ∃ m, n = m + 1 := ⟨n - 1, by omega⟩
  simp [Builtin.clear_, run_underlying Try.underlying61, zeroValue, typeInfo, hi, hz0, Value.cells, hst]
theorem zero_one (n : Nat) : ∀ u ∈ (Builtin.zeroCells #[.int .i64 0, .int .i64 0, .int .i64 0] n).toList, u.oneCell' = true := by
  intro u hu
  simp [Builtin.zeroCells] at hu
  obtain ⟨j, hj, rfl⟩ := hu
  have hm : j % 3 < 3 := Nat.mod_lt _ (by decide)
  generalize j % 3 = q at *
  match q, hm with
  | 0, _ => rfl
    | 1, _ => rfl
    | 2, _ => rfl
end Go.Proofs.Ytefffjlcfghniaa
