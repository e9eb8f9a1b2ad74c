/- slices.DeleteFunc with Drop's function, at a row that the call owns; conditions: the lengths fit. -/
import Derived.Test.YtefffjlcfghniaaZd
import Derived.Deep.DeepCutAuto
namespace Go.Proofs.Ytefffjlcfghniaa
open Go.RowKit Go.Lib
set_option linter.unusedVariables false
set_option linter.unusedSimpArgs false
set_option maxRecDepth 20000
/-- Those whose number is above m. -/
def keepL (m : Int) (L : List It) : List It := L.filter fun x => decide (m < x.n)
theorem keep_step (m : Int) (L : List It) (j : Nat) (hj : j < L.length) : keepL m (L.take (j + 1)) = keepL m (L.take j) ++ (if m < (atI L j).n then [atI L j] else []) := by
  unfold keepL
  rw [List.take_add_one, List.filter_append, List.getElem?_eq_getElem hj, atI_get L j hj]
  by_cases h : m < L[j].n <;> simp [h]
theorem keep_first (m : Int) (L : List It) (r : Nat) (hr : r ≤ L.length) (h1 : ∀ j, j < r → m < (atI L j).n) : keepL m (L.take r) = L.take r := by
  unfold keepL
  rw [List.filter_eq_self]
  intro x hx
  obtain ⟨j, hj, rfl⟩ := List.getElem_of_mem hx
  have hjr : j < r := by rw [List.length_take] at hj; omega
  have := h1 j hjr
  rw [atI_get L j (by omega)] at this
  simpa using this
theorem first_idx (m : Int) (L : List It) : ∃ r, r ≤ L.length ∧ (∀ j, j < r → m < (atI L j).n) ∧ (r < L.length → (atI L r).n ≤ m) := by
  have H : ∀ k, k ≤ L.length → (∀ j, j < k → m < (atI L j).n) ∨ ∃ r, r < L.length ∧ (∀ j, j < r → m < (atI L j).n) ∧ (atI L r).n ≤ m := by
    intro k
    induction k with
    | zero => exact fun _ => .inl fun j hj => absurd hj (by omega)
    | succ k ih =>
      intro hk
      rcases ih (by omega) with h | h
      · by_cases hm : m < (atI L k).n
        · exact .inl fun j hj => by
            by_cases e : j = k
            · rw [e]; exact hm
            · exact h j (by omega)
        · exact .inr ⟨k, by omega, h, by omega⟩
      · exact .inr h
  rcases H L.length (Nat.le_refl _) with h | ⟨r, h1, h2, h3⟩
  · exact ⟨L.length, Nat.le_refl _, h, fun e => absurd e (by omega)⟩
  · exact ⟨r, by omega, h2, fun _ => h3⟩
theorem cell_some {w : World} {g : Nat} {cur : Array Value} {t : TypeId} (h : w.heap[g]? = some (.cells cur t (0, 0))) {j : Nat} (hj : j < cur.size) : ∃ z, w.cell? ⟨g, j, none⟩ = some z := by
  rw [cell_of_heap h, Array.getElem?_eq_getElem hj]; exact ⟨_, rfl⟩
theorem Chg.old {S : List Nat} {a b c : World} (h : Chg S a b) (u : Old b c) : Chg S a c := h.trans (Chg.ofOld u)
/-- What DeleteFunc leaves behind. -/
def DelPost (base : Nat) (v : Value) (L' : List It) (w : World) (e : Ending) (w' : World) : Prop := ∃ v', e = .returned v' ∧ Own base w' v' L' ∧ Chg v.ownBlock.toList w w' ∧ ∀ g, v'.ownBlock = some g → v.ownBlock = some g
/-- The row in the middle of the rounds. -/
def DelIn (w : World) (g n cap a b : Nat) (L F : List It) : Prop := ∃ cur : Array Value, w.heap[g]? = some (.cells cur 71 (0, 0)) ∧ cur.size = cap * 3 ∧ a = F.length ∧ cur.toList.take (a * 3) = itcs F ∧ cur.toList.drop (b * 3) = itcs (L.drop b) ++ cur.toList.drop (n * 3)
theorem DelIn.item {w : World} {g n cap a b : Nat} {L F : List It} (h : DelIn w g n cap a b L F) (hb : b < L.length) : ItIn w g (b * 3) (atI L b) := by
  obtain ⟨cur, hg, hcs, ha, ht, hd⟩ := h
  refine cells_in fun j u hj => ?_
  have hj2 : j < 3 := by have := (List.getElem?_eq_some_iff.1 hj).1; rw [itc_len] at this; exact this
  rw [cell_of_heap hg, ← Array.getElem?_toList, ← List.getElem?_drop, hd]
  rw [List.drop_eq_getElem_cons hb, itcs_cons, List.append_assoc, List.getElem?_append_left (by rw [itc_len]; exact hj2), ← atI_get L b hb]
  exact hj
theorem DelIn.skip {w w' : World} {g n cap a b : Nat} {L F : List It} (h : DelIn w g n cap a b L F) (hb : b < L.length) (u : Old w w') : DelIn w' g n cap a (b + 1) L F := by
  obtain ⟨cur, hg, hcs, ha, ht, hd⟩ := h
  refine ⟨cur, u.block hg, hcs, ha, ht, ?_⟩
  have : cur.toList.drop ((b + 1) * 3) = (cur.toList.drop (b * 3)).drop 3 := by rw [List.drop_drop]; congr 1; omega
  rw [this, hd, List.drop_eq_getElem_cons hb, itcs_cons, List.append_assoc, List.drop_left' (itc_len _)]
theorem DelIn.put {w w' : World} {g n cap a b : Nat} {L F : List It} (h : DelIn w g n cap a b L F) (hb : b < L.length) (hn : n = L.length) (hnc : n ≤ cap) (hab : a < b) (u : Old w w') : DelIn (w'.setCells g (a * 3) (itc (atI L b))) g n cap (a + 1) (b + 1) L (F ++ [atI L b]) := by
  have hs := h.skip hb u
  obtain ⟨cur, hg, hcs, ha, ht, hd⟩ := hs
  have hbK : (b + 1) * 3 ≤ cap * 3 := Nat.mul_le_mul_right _ (by omega)
  have hf : a * 3 + (itc (atI L b)).length ≤ cur.size := by rw [itc_len]; omega
  rw [setCells_row hg hf (itc_one _)]
  refine ⟨_, setRow_heap w' g cur _ _ _ hg, ?_, by simp [ha], ?_, ?_⟩
  · simp [itc_len, hcs]; omega
  · rw [List.toList_toArray, ht, ← itcs_one1, itcs_app]
    have hl : (itcs (F ++ [atI L b])).length = (a + 1) * 3 := by rw [itcs_len]; simp [ha]
    rw [← hl, List.take_left' rfl]
  · rw [List.toList_toArray]
    have hl : (cur.toList.take (a * 3) ++ itc (atI L b)).length = (a + 1) * 3 := by simp [itc_len, hcs]; omega
    have hdr : ∀ q, (a + 1) * 3 ≤ q → (cur.toList.take (a * 3) ++ itc (atI L b) ++ cur.toList.drop (a * 3 + (itc (atI L b)).length)).drop q = cur.toList.drop q := by
      intro q hq
      rw [List.drop_append, hl, List.drop_eq_nil_of_le (by omega), List.nil_append, List.drop_drop, itc_len]
      congr 1; omega
    have h1 : (a + 1) * 3 ≤ (b + 1) * 3 := Nat.mul_le_mul_right _ (by omega)
    have h2 : (a + 1) * 3 ≤ n * 3 := Nat.mul_le_mul_right _ (by omega)
    rw [hdr _ h1, hdr _ h2, hd]
theorem DelIn.lt {w : World} {g n cap a b : Nat} {L F : List It} (h : DelIn w g n cap a b L F) (hn : n ≤ cap) (i : Nat) (hi : i < n) : (∀ j, j < 3 → ∃ z, w.cell? ⟨g, i * 3 + j, none⟩ = some z) ∧ ∀ o, w.frozen? ⟨g, o, none⟩ = false := by
  obtain ⟨cur, hg, hcs, _⟩ := h
  have : (i + 1) * 3 ≤ cap * 3 := Nat.mul_le_mul_right _ (by omega)
  exact ⟨fun j hj => cell_some hg (by omega), fun o => frozen_of_heap hg o⟩
theorem wpList_clear_run (w : World) {ops : Array Oper} {rest : List Oper} {o : Oper} {a : Act} {Q : Exit → Act → World → Prop} (hgd : o.guard = none) (d : Operand) (t : TypeId)
    (ho : o.op = .call { callee := .builtin .clear, args := #[d], argTypes := #[t] }) (v : Value) (hd : a.eval d = v) {v' : Value} {w' : World}
    (hr : (Builtin.clear_ #[t] o.type #[v]).run Try.prog w = .ok v' w') (h : wpList Try.prog ops Q rest (a.put o.dst v') w') : wpList Try.prog ops Q (o :: rest) a w := by
  refine wpList_plain hgd fun _ hK => ?_
  unfold Oper.wp execOp
  simp only [ho, resolve, invoke, builtin, Sem.run_bind, Sem.run_pure, Result.andThen_ok, List.map_toArray, List.map_cons, List.map_nil, hd, hr]
  exact hK _ _ h
theorem item_new (w : World) (x : It) (g : Nat) (hg : w.heap.size = g) : ItIn (w.alloc (.cells (itc x).toArray 71)) g 0 x := by
  refine cells_in fun j u hj => ?_
  rw [cell_of_heap (alloc_heap w _ g hg), Nat.zero_add]
  simpa using hj
theorem Chg.setK (w : World) (g o : Nat) (vs : List Value) (S : List Nat) (h : g ∈ S) : Chg S w (w.setCells g o vs) := by
  induction vs generalizing w o with
  | nil => exact Chg.refl _ _
  | cons v r ih => exact (Chg.set w ⟨g, o, none⟩ v h).trans (ih _ _)
theorem DelIn.clear {w : World} {base g n cap a b : Nat} {L F : List It} (h : DelIn w g n cap a b L F) (hb : base ≤ g) (han : a < n) (hnc : n ≤ cap) (hcm : cap ≤ maxLen) : Own base (w.setCells g (a * 3) (Builtin.zeroCells #[.int .i64 0, .int .i64 0, .int .i64 0] (n - a)).toList) (.slice (some ⟨g, 0, none⟩) a cap) F := by
  obtain ⟨cur, hg, hcs, ha, ht, hd⟩ := h
  have hl : (Builtin.zeroCells #[.int .i64 0, .int .i64 0, .int .i64 0] (n - a)).toList.length = (n - a) * 3 := by rw [Array.length_toList, zeroCells_size]; rfl
  have hKn : a * 3 + (n - a) * 3 = n * 3 := by rw [← Nat.add_mul]; congr 1; omega
  have hnK : n * 3 ≤ cap * 3 := Nat.mul_le_mul_right _ hnc
  rw [setCells_row hg (by rw [hl]; omega) (zero_one _)]
  refine RowIs.own ⟨setRow_heap w g cur _ _ _ hg, ha, by omega, hcm, ?_, ?_⟩ hb
  · rw [List.size_toArray, List.length_append, List.length_append, hl]; simp [hcs]; omega
  · rw [List.toList_toArray, ht]
    have hl2 : (itcs F).length = a * 3 := by rw [itcs_len, ha]
    rw [← hl2, List.append_assoc, List.take_left' rfl]
attribute [local go_sem] run_store_float
set_option maxHeartbeats 4000000 in
set_option maxRecDepth 100000 in
theorem delete_some (base g n cap r mb : Nat) (cur0 : Array Value) (L : List It) (m : Int) (w : World) (hr0 : RowIs w g n cap cur0 L) (hb : base ≤ g) (hL : n ≤ 1000000) (hm : w.cell? ⟨mb, 0, none⟩ = some (.int .i64 m)) (hmb : mb ≠ g) (hr : r < n) (h1 : ∀ j, j < r → m < (atI L j).n) (h2 : (atI L r).n ≤ m) :
    Calls Try.prog 28 #[.slice (some ⟨g, 0, none⟩) n cap, .func (.func 29) #[] #[.pointer (some ⟨mb, 0, none⟩)]] w fun e w' => DelPost base (.slice (some ⟨g, 0, none⟩) n cap) (keepL m L) w e w' := by
  have hn : n = L.length := hr0.2.1
  have hnc : n ≤ cap := hr0.2.2.1
  have hcm : cap ≤ maxLen := hr0.2.2.2.1
  have hmx : cap ≤ 9223372036854775807 := by unfold maxLen at hcm; omega
  have HI := hid (show Calls Try.prog 50 #[.slice (some ⟨g, 0, none⟩) n cap, .func (.func 29) #[] #[.pointer (some ⟨mb, 0, none⟩)]] w fun e w' => e = .returned (.int .i64 (r : Nat)) ∧ Old w w' by
    have q := index_any base (.slice (some ⟨g, 0, none⟩) n cap) L m mb r w (by omega) (hr0.own hb) hm (by omega) h1 (fun _ => h2)
    rw [if_pos (by omega)] at q
    exact q)
  have hF : keepL m (L.take (r + 1)) = L.take r := by
    rw [keep_step m L r (by omega), keep_first m L r (by omega) h1, if_neg (by omega), List.append_nil]
  have HD := hid (show ∀ w', Old w w' → DelIn w' g n cap r (r + 1) L (keepL m (L.take (r + 1))) from fun w' u => by
    rw [hF]
    obtain ⟨hg, _, _, _, hcs, htk⟩ := hr0
    refine ⟨cur0, u.block hg, hcs, by rw [List.length_take]; omega, ?_, ?_⟩
    · rw [← itcs_take, ← htk, List.take_take]; congr 1; omega
    · have e := List.take_append_drop (n * 3) cur0.toList
      rw [htk] at e
      have hle : (r + 1) * 3 ≤ n * 3 := Nat.mul_le_mul_right _ (by omega)
      conv => lhs; rw [← e]
      rw [List.drop_append_of_le_length (by rw [itcs_len, ← hn]; exact hle), itcs_drop])
  have HN := hid hn
  have HC := hid hcm
  have HM := hid hm
  have HMB := hid hmb
  have HH := hid (And.intro h1 h2)
  have hrm : ((r : Int) == -1) = false := by rw [beq_eq_false_iff_ne]; omega
  clear hr0 hcm hm h1 h2 hF hn hmb
  go_enter Try.func28, Try.ntmps28
  go_wp2_with (go_at_call 50; refine HI.out.mono ?_; rintro e w1 ⟨rfl, u1⟩; have U1 := hid u1; clear u1)
  go_loopw [5, 6] (fun i j wr => ∃ a b : Nat, i = .int .i64 (a : Nat) ∧ j = .int .i64 (b : Nat) ∧ a < b ∧ r < b ∧ b ≤ n ∧ DelIn wr g n cap a b L (keepL m (L.take b)) ∧ Chg [g] w wr) (fun i j _ => n - (intOf j).toNat)
  case atStart => exact ⟨r, r + 1, rfl, by go_num, by omega, by omega, by omega, HD.out _ U1.out, Chg.ofOld U1.out⟩
  case round =>
    obtain ⟨a, b, rfl, rfl, hab, hrb, hbn, hd, hu⟩ := hrel
    have HDI := hid hd
    have HU := hid hu
    clear hd hu
    by_cases hlt : b < n
    · have hbl : b < L.length := by have := HN.out; omega
      have hit := HDI.out.item hbl
      have l1 : (0 : Int) ≤ (b : Int) := by omega
      have l2 : (b : Int) < (n : Int) := by omega
      obtain ⟨c0, c1, c2⟩ := hit
      have HK := hid (fun W (hW : Old wr W) => drop1_any (atI L b) m mb W (hW.keep (HU.out.cell HM.out (by simp; exact HMB.out))))
      have HST := hid (keep_step m L b hbl)
      by_cases hk : m < (atI L b).n
      · have HS2 := hid (show keepL m (L.take (b + 1)) = keepL m (L.take b) ++ [atI L b] by rw [HST.out, if_pos hk])
        have hk2 : decide ((atI L b).n ≤ m) = false := by simpa using hk
        go_upto_region 9 with (go_at_call 29; refine (HK.out _ ((Old.refl wr).alloc _)).mono ?_; rintro e w5 ⟨rfl, u5⟩; have B5 := hid ((item_new wr (atI L b) _ rfl).old u5); have U5 := hid (((Old.refl wr).alloc _).trans u5); clear u5)
        obtain ⟨hz', hfz'⟩ := HDI.out.lt hnc a (by omega)
        have hz : ∀ j, j < 3 → ∃ z, w5.cell? ⟨g, a * 3 + j, none⟩ = some z := fun j hj => by obtain ⟨z, e⟩ := hz' j hj; exact ⟨z, U5.out.keep e⟩
        have hfz : ∀ j, j < 3 → w5.frozen? ⟨g, a * 3 + j, none⟩ = false := fun j hj => by obtain ⟨z, e⟩ := hz' j hj; exact U5.out.keepF e (hfz' _)
        clear hz' hfz'
        obtain ⟨z0, y0⟩ := hz 0 (by decide)
        obtain ⟨z1, y1⟩ := hz 1 (by decide)
        obtain ⟨z2, y2⟩ := hz 2 (by decide)
        have x0 := hfz 0 (by decide)
        have x1 := hfz 1 (by decide)
        have x2 := hfz 2 (by decide)
        clear hz hfz
        simp only [Nat.add_zero] at y0
        simp only [Nat.add_zero] at x0
        obtain ⟨b0, b1, b2⟩ := B5.out
        have l3 : (0 : Int) ≤ (a : Int) := by omega
        have l4 : (a : Int) < (n : Int) := by omega
        clear hk hk2
        go_wp2
        go_roundw
        case rel => exact ⟨a + 1, b + 1, by go_num, by go_num, by omega, by omega, by omega, by rw [HS2.out]; exact HDI.out.put hbl HN.out hnc hab U5.out, (HU.out.old U5.out).trans (Chg.setK w5 g (a * 3) (itc (atI L b)) [g] (by simp))⟩
        case measure => simp [intOf]; omega
      · have HS2 := hid (show keepL m (L.take (b + 1)) = keepL m (L.take b) by rw [HST.out, if_neg hk, List.append_nil])
        have hk2 : decide ((atI L b).n ≤ m) = true := by simpa using hk
        clear hk
        go_wp2_with (go_at_call 29; refine (HK.out _ ((Old.refl wr).alloc _)).mono ?_; rintro e w5 ⟨rfl, u5⟩; have U5 := hid (((Old.refl wr).alloc _).trans u5); clear u5)
        go_roundw
        case rel => exact ⟨a, b + 1, rfl, by go_num, by omega, by omega, by omega, by rw [HS2.out]; exact HDI.out.skip hbl U5.out, HU.out.old U5.out⟩
        case measure => simp [intOf]; omega
    · obtain rfl : b = n := by omega
      have HFL := hid (show keepL m (L.take b) = keepL m L by rw [HN.out, List.take_length])
      have HOW := hid (HDI.out.clear hb hab hnc HC.out)
      rw [HFL.out] at HOW
      have HCL := hid (fun ty c => show (Builtin.clear_ #[61] ty #[.slice (some ⟨g, a * 3, none⟩) (b - a) c]).run Try.prog wr = .ok (.tuple #[]) (wr.setCells g (a * 3) (Builtin.zeroCells #[.int .i64 0, .int .i64 0, .int .i64 0] (b - a)).toList) from by
        obtain ⟨cur, hg, hcs, _⟩ := HDI.out
        have hnK : b * 3 ≤ cap * 3 := Nat.mul_le_mul_right _ hnc
        have hKn : a * 3 + (b - a) * 3 = b * 3 := by rw [← Nat.add_mul]; congr 1; omega
        exact run_clear_K wr ty g (a * 3) (b - a) c cur hg (by omega) (by omega))
      have l3 : (0 : Int) ≤ (a : Int) := by omega
      have l4 : (a : Int) ≤ (b : Int) := by omega
      have l5 : a ≤ b := by omega
      have hca : ¬ (cap = a) := by omega
      have HE := hid (show DelPost base (.slice (some ⟨g, 0, none⟩) b cap) (keepL m L) w (.returned (.slice (some ⟨g, 0, none⟩) a cap)) (wr.setCells g (a * 3) (Builtin.zeroCells #[.int .i64 0, .int .i64 0, .int .i64 0] (b - a)).toList) from ⟨_, rfl, HOW.out, HU.out.trans (Chg.setK wr g _ _ [g] (by simp)), fun k hk => hk⟩)
      clear HOW
      generalize hZ : (Builtin.zeroCells #[.int .i64 0, .int .i64 0, .int .i64 0] (b - a)).toList = Z at *
      have hcl := HCL.out
      go_wp2
      exact bodyPost_ret (v := .slice (some ⟨g, 0, none⟩) a cap) (by simp [results, Try.results28, go_sem]) rfl HE.out
/-- DeleteFunc with Drop's function at a row that is owned. -/
theorem delete_any (base : Nat) (v : Value) (L : List It) (m : Int) (mb : Nat) (w : World) (hL : L.length ≤ 1000000) (hown : Own base w v L) (hm : w.cell? ⟨mb, 0, none⟩ = some (.int .i64 m)) (hmb : v.ownBlock ≠ some mb) :
    Calls Try.prog 28 #[v, .func (.func 29) #[] #[.pointer (some ⟨mb, 0, none⟩)]] w fun e w' => DelPost base v (keepL m L) w e w' := by
  obtain ⟨r, hr, h1, h2⟩ := first_idx m L
  by_cases hlt : r < L.length
  · rcases hown.2 with ⟨_, hn⟩ | ⟨g, cap, cur, rfl, hb, hg, hnc, hcm, hcs, htk⟩
    · omega
    · exact delete_some base g L.length cap r mb cur L m w ⟨hg, rfl, hnc, hcm, hcs, htk⟩ hb hL hm (fun e => hmb (by rw [e]; rfl)) hlt h1 (h2 hlt)
  · obtain rfl : r = L.length := by omega
    have hk : keepL m L = L := by have := keep_first m L L.length (Nat.le_refl _) h1; rwa [List.take_length] at this
    have q := index_any base v L m mb L.length w hL hown hm (Nat.le_refl _) h1 h2
    rw [if_neg (by omega)] at q
    have HE := hid (show ∀ w', Old w w' → DelPost base v (keepL m L) w (.returned v) w' from fun w' u => by
      rw [hk]
      exact ⟨v, rfl, hown.old u, Chg.ofOld u, fun g hg => hg⟩)
    obtain ⟨a, c, hv⟩ := hown.len
    subst hv
    have HQ := hid q
    clear q hk h1 h2 hown hm hmb
    generalize L.length = N at *
    go_enter Try.func28, Try.ntmps28
    go_wp2_with (go_at_call 50; refine HQ.out.mono ?_; rintro e w1 ⟨rfl, u1⟩; have U1 := hid u1; clear u1)
    exact bodyPost_ret (v := .slice a N c) (by simp [results, Try.results28, go_sem]) rfl (HE.out _ U1.out)
end Go.Proofs.Ytefffjlcfghniaa
