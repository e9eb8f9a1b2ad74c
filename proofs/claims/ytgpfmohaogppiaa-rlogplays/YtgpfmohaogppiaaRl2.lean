/- Rows of the call's own that lie at an offset in their block: append, a part, clear; conditions: the lengths fit. -/
import Derived.Test.YtgpfmohaogppiaaRl1
import Derived.ArgAppend
import Derived.Maps.AppendAt
namespace Go.Proofs.Ytgpfmohaogppiaa
open Go.RowKit Go.Lib
set_option linter.unusedVariables false
set_option linter.unusedSimpArgs false
set_option maxRecDepth 20000
/-- A row of the call's own, at an offset in its block; behind it there is as much room as its capacity says. -/
def OwnOff (base : Nat) (e : TypeId) (size : Nat) (w : World) (v : Value) (n : Nat) (xs : List Value) : Prop :=
  xs.length = n * size ∧ ((v = .slice none 0 0 ∧ n = 0) ∨ ∃ g off cap cur, v = .slice (some ⟨g, off, none⟩) n cap ∧ base ≤ g ∧ w.heap[g]? = some (.cells cur e (0, 0)) ∧ n ≤ cap ∧ cap ≤ maxLen ∧ off + cap * size ≤ cur.size ∧ (cur.toList.drop off).take (n * size) = xs)
theorem OwnOff.of {base : Nat} {e : TypeId} {size : Nat} {w : World} {v : Value} {n : Nat} {xs : List Value} (h : w.ownsRow base e size v n xs) : OwnOff base e size w v n xs := by
  refine ⟨h.1, ?_⟩
  rcases h.2 with q | ⟨g, cap, cur, h1, h2, h3, h4, h5, h6, h7⟩
  · exact .inl q
  · exact .inr ⟨g, 0, cap, cur, h1, h2, h3, h4, h5, by omega, by simpa using h7⟩
theorem off_cells {w : World} {e : TypeId} {size n : Nat} {xs : List Value} {g off : Nat} {cur : Array Value} (hg : w.heap[g]? = some (.cells cur e (0, 0))) (ht : (cur.toList.drop off).take (n * size) = xs) : ∀ j u, xs[j]? = some u → w.cell? ⟨g, off + j, none⟩ = some u := fun j u hj => by
  rw [← ht] at hj
  rw [Go.Joins.cell_of_block hg]
  by_cases hl : j < n * size
  · rw [List.getElem?_take_of_lt hl, List.getElem?_drop] at hj
    simpa using hj
  · rw [List.getElem?_take_eq_none (by omega)] at hj
    cases hj
theorem OwnOff.chg {base : Nat} {e : TypeId} {size : Nat} {S : List Nat} {w w' : World} {v : Value} {n : Nat} {xs : List Value} (h : OwnOff base e size w v n xs) (u : Chg S w w') (hn : ∀ g, v.ownBlock = some g → g ∉ S) : OwnOff base e size w' v n xs := by
  refine ⟨h.1, ?_⟩
  rcases h.2 with q | ⟨g, off, cap, cur, rfl, h2, h3, r⟩
  · exact .inl q
  · exact .inr ⟨g, off, cap, cur, rfl, h2, u.heapAt h3 (hn g rfl), r⟩
theorem OwnOff.up {base : Nat} {e : TypeId} {size : Nat} {w w' : World} {v : Value} {n : Nat} {xs : List Value} (h : OwnOff base e size w v n xs) (u : Old w w') : OwnOff base e size w' v n xs := h.chg (Chg.ofOld (S := []) u) (fun _ _ q => by cases q)
theorem OwnOff.lt {base : Nat} {e : TypeId} {size : Nat} {w : World} {v : Value} {n : Nat} {xs : List Value} (h : OwnOff base e size w v n xs) (g : Nat) (q : v.ownBlock = some g) : base ≤ g ∧ g < w.heap.size := by
  rcases h.2 with ⟨rfl, _⟩ | ⟨g', off, cap, cur, rfl, h2, h3, r⟩
  · cases q
  · cases q; exact ⟨h2, heap_lt h3⟩
theorem OwnOff.ty {base : Nat} {e : TypeId} {size : Nat} {w : World} {v : Value} {n : Nat} {xs : List Value} (h : OwnOff base e size w v n xs) (g : Nat) (q : v.ownBlock = some g) : ∃ cur, w.heap[g]? = some (.cells cur e (0, 0)) := by
  rcases h.2 with ⟨rfl, _⟩ | ⟨g', off, cap, cur, rfl, h2, h3, r⟩
  · cases q
  · cases q; exact ⟨cur, h3⟩
theorem OwnOff.len {base : Nat} {e : TypeId} {size : Nat} {w : World} {v : Value} {n : Nat} {xs : List Value} (h : OwnOff base e size w v n xs) : ∃ a c, v = .slice a n c ∧ n ≤ c ∧ c ≤ 9223372036854775807 ∧ (∀ j u, xs[j]? = some u → ∃ g off, a = some ⟨g, off, none⟩ ∧ w.cell? ⟨g, off + j, none⟩ = some u) := by
  rcases h.2 with ⟨rfl, q⟩ | ⟨g', off, cap, cur, rfl, h2, h3, h4, h5, h6, h7⟩
  · refine ⟨none, 0, by rw [q], by omega, by omega, fun j u hj => ?_⟩
    have := h.1
    rw [q, Nat.zero_mul] at this
    rw [List.length_eq_zero_iff.1 this] at hj
    simp at hj
  · exact ⟨_, _, rfl, h4, by unfold maxLen at h5; omega, fun j u hj => ⟨g', off, rfl, off_cells h3 h7 j u hj⟩⟩
/-- The first so many of a row. -/
theorem OwnOff.first {base : Nat} {e : TypeId} {size : Nat} {w : World} {a : Option Addr} {n c : Nat} {xs : List Value} (h : OwnOff base e size w (.slice a n c) n xs) (k : Nat) (hk : k ≤ n) : OwnOff base e size w (.slice a k c) k (xs.take (k * size)) := by
  have hle : k * size ≤ n * size := Nat.mul_le_mul_right _ hk
  refine ⟨by rw [List.length_take, h.1]; omega, ?_⟩
  rcases h.2 with ⟨e1, q⟩ | ⟨g', off, cap, cur, e1, h2, h3, h4, h5, h6, h7⟩
  · cases e1
    exact .inl ⟨by rw [show k = 0 from by omega], by omega⟩
  · cases e1
    exact .inr ⟨g', off, c, cur, rfl, h2, h3, by omega, h5, h6, by rw [← h7, List.take_take, Nat.min_eq_left hle]⟩
/-- A row behind the first so many. -/
theorem OwnOff.rest {base : Nat} {e : TypeId} {size : Nat} {w : World} {g off n c : Nat} {xs : List Value} (h : OwnOff base e size w (.slice (some ⟨g, off, none⟩) n c) n xs) (k : Nat) (hk : k ≤ n) (o2 : Nat) (ho : (c = k ∧ o2 ≤ off + k * size) ∨ o2 = off + k * size) : OwnOff base e size w (.slice (some ⟨g, o2, none⟩) (n - k) (c - k)) (n - k) (xs.drop (k * size)) := by
  have hle : k * size ≤ n * size := Nat.mul_le_mul_right _ hk
  refine ⟨by rw [List.length_drop, h.1, Nat.sub_mul], ?_⟩
  rcases h.2 with ⟨e1, q⟩ | ⟨g', off', cap, cur, e1, h2, h3, h4, h5, h6, h7⟩
  · cases e1
  · cases e1
    refine .inr ⟨g, o2, c - k, cur, rfl, h2, h3, by omega, by omega, ?_, ?_⟩
    · have : (c - k) * size = c * size - k * size := Nat.sub_mul ..
      have : k * size ≤ c * size := Nat.mul_le_mul_right _ (by omega)
      omega
    · rcases ho with ⟨h8, h9⟩ | rfl
      · have hz : n - k = 0 := by omega
        rw [hz, Nat.zero_mul, List.take_zero, List.drop_eq_nil_of_le]
        rw [h.1, show n = k from by omega]; exact Nat.le_refl _
      · rw [← h7, List.drop_take, List.drop_drop, Nat.sub_mul]
theorem setRow_out {w : World} {g p : Nat} {cur : Array Value} {e : TypeId} {zs : List Value} (hg : w.heap[g]? = some (.cells cur e (0, 0))) : (w.setRow g (cur.toList.take p ++ zs ++ cur.toList.drop (p + zs.length)).toArray).heap[g]? = some (.cells (cur.toList.take p ++ zs ++ cur.toList.drop (p + zs.length)).toArray e (0, 0)) := setRow_heap w g _ _ _ _ hg
theorem drop_mid_hi (L zs : List Value) (p q : Nat) (hp : p + zs.length ≤ L.length) (hq : p + zs.length ≤ q) : (L.take p ++ zs ++ L.drop (p + zs.length)).drop q = L.drop q := by
  rw [List.drop_append, List.drop_eq_nil_of_le (by simp; omega), List.nil_append, List.drop_drop]
  congr 1
  simp
  omega
theorem take_mid_lo (L zs : List Value) (p q m : Nat) (hp : p + zs.length ≤ L.length) (hq : q + m ≤ p) : ((L.take p ++ zs ++ L.drop (p + zs.length)).drop q).take m = (L.drop q).take m := by
  apply List.ext_getElem?
  intro i
  by_cases h : i < m
  · rw [List.getElem?_take_of_lt h, List.getElem?_take_of_lt h, List.getElem?_drop, List.getElem?_drop, List.append_assoc, List.getElem?_append_left (by simp; omega), List.getElem?_take_of_lt (by omega)]
  · rw [List.getElem?_take_eq_none (by omega), List.getElem?_take_eq_none (by omega)]
/-- What is written behind a row leaves it. -/
theorem OwnOff.behind {base : Nat} {e : TypeId} {size : Nat} {w : World} {g off n c : Nat} {xs : List Value} (h : OwnOff base e size w (.slice (some ⟨g, off, none⟩) n c) n xs) (cur : Array Value) (hg : w.heap[g]? = some (.cells cur e (0, 0))) (p : Nat) (zs : List Value) (hp : p + zs.length ≤ cur.size) (hq : off + n * size ≤ p) :
    OwnOff base e size (w.setRow g (cur.toList.take p ++ zs ++ cur.toList.drop (p + zs.length)).toArray) (.slice (some ⟨g, off, none⟩) n c) n xs := by
  refine ⟨h.1, ?_⟩
  rcases h.2 with ⟨e1, q⟩ | ⟨g', off', cap, cur', e1, h2, h3, h4, h5, h6, h7⟩
  · cases e1
  · cases e1
    rw [hg] at h3
    cases h3
    refine .inr ⟨g, off, c, _, rfl, h2, setRow_out hg, h4, h5, ?_, ?_⟩
    · simp
      omega
    · rw [List.toList_toArray, take_mid_lo _ _ _ _ _ (by simpa using hp) hq]; exact h7
/-- What is written ahead of a row leaves it. -/
theorem OwnOff.front {base : Nat} {e : TypeId} {size : Nat} {w : World} {g off n c : Nat} {xs : List Value} (h : OwnOff base e size w (.slice (some ⟨g, off, none⟩) n c) n xs) (cur : Array Value) (hg : w.heap[g]? = some (.cells cur e (0, 0))) (p : Nat) (zs : List Value) (hp : p + zs.length ≤ cur.size) (hq : p + zs.length ≤ off ∨ n = 0) :
    OwnOff base e size (w.setRow g (cur.toList.take p ++ zs ++ cur.toList.drop (p + zs.length)).toArray) (.slice (some ⟨g, off, none⟩) n c) n xs := by
  refine ⟨h.1, ?_⟩
  rcases h.2 with ⟨e1, q⟩ | ⟨g', off', cap, cur', e1, h2, h3, h4, h5, h6, h7⟩
  · cases e1
  · cases e1
    rw [hg] at h3
    cases h3
    refine .inr ⟨g, off, c, _, rfl, h2, setRow_out hg, h4, h5, ?_, ?_⟩
    · simp
      omega
    · rcases hq with hq | hq
      · rw [List.toList_toArray, drop_mid_hi _ _ _ _ (by simpa using hp) hq]; exact h7
      · rw [← h7, hq, Nat.zero_mul, List.take_zero, List.take_zero]
theorem Chg.row (w : World) (g : Nat) (cs : Array Value) : Chg [g] w (w.setRow g cs) := ⟨rfl, rfl, rfl, by simp [World.setRow], fun k hk hn => Go.setRow_other w g k cs (fun e => hn (by simp [e]))⟩
/-- append onto such a row. -/
theorem wp_appOff {P : Program} {ops : Array Oper} {rest : List Oper} {o : Oper} {a : Act} {Q : Exit → Act → World → Prop} {w : World} (hgd : o.guard = none) (s x : Operand) (t : TypeId)
    (ho : o.op = .call { callee := .builtin .append, args := #[s, x], argTypes := #[t, t] })
    (base : Nat) (e : TypeId) (i : TypeInfo) (z : Value) (size bytes : Nat) (ht : P.underlying t = some (.slice e)) (hi : P.info? e = some i) (hz : i.zero = some z)
    (hsize : i.size = size) (hby : i.bytes = bytes) (hzs : z.cells.size = size) (hsz : 0 < size)
    (v : Value) (n : Nat) (xs : List Value) (hs : a.eval s = v) (hown : OwnOff base e size w v n xs)
    (ad : Addr) (m c : Nat) (news : List Value) (hx : a.eval x = .slice (some ad) m c) (hl : news.length = m * size) (hnews : ∀ j u, news[j]? = some u → w.cell? (ad.add j) = some u) (h1 : ∀ u ∈ news, u.oneCell' = true)
    (h63 : n + m ≤ maxLen) (hbytes : (n + m) * bytes ≤ 140737488355328) (hbase : base ≤ w.heap.size)
    (h : ∀ v' w', OwnOff base e size w' v' (n + m) (xs ++ news) → w.grownBy w' v.ownBlock → (v'.ownBlock = v.ownBlock ∨ v'.ownBlock = some w.heap.size) → wpList P ops Q rest (a.put o.dst v') w') :
    wpList P ops Q (o :: rest) a w := by
  rcases hown.2 with ⟨rfl, rfl⟩ | ⟨g, off, cap, cur, rfl, hbg, hg, hnc, hcm, hcs, htake⟩
  · have hx0 : xs = [] := List.eq_nil_of_length_eq_zero (by simpa using hown.1)
    subst hx0
    exact wpList_append_own_at w hgd s x t ho base e i z size bytes ht hi hz hsize hby hzs hsz _ 0 [] hs (World.ownsRow_nil w base e size) ad m c news hx hl hnews h1 h63 hbytes hbase (fun v' w' q1 q2 _ q4 => h v' w' (OwnOff.of q1) q2 q4)
  · have hlen : (xs ++ news).length = (n + m) * size := by rw [List.length_append, hown.1, hl, Nat.add_mul]
    refine wpList_plain hgd fun K hK => ?_
    by_cases hroom : n + m ≤ cap
    · subst hsize
      have hfit : off + n * i.size + news.length ≤ cur.size := by
        have : (n + m) * i.size ≤ cap * i.size := Nat.mul_le_mul_right _ hroom
        rw [Nat.add_mul] at this
        omega
      have hf := run_firstCells_some (P := P) w i.size m ad m c news hl hnews
      have hst := run_storeCells_at P g (off + n * i.size) e news 0 cur w hg (by simpa using hfit) h1
      simp only [Nat.add_zero] at hst
      have hrun : (Builtin.append_ #[t, t] o.type #[.slice (some ⟨g, off, none⟩) n cap, .slice (some ad) m c]).run P w = .ok (.slice (some ⟨g, off, none⟩) (n + m) cap) (w.setRow g (cur.toList.take (off + n * i.size) ++ news ++ cur.toList.drop (off + n * i.size + news.length)).toArray) := by
        simp [Builtin.append_, run_underlying ht, sizeOf, typeInfo, hi, Builtin.lenOf, hroom, hf, Addr.add_lit, hst]
      unfold Oper.wp execOp
      simp only [ho, resolve, invoke, builtin, Sem.run_bind, Sem.run_pure, Result.andThen_ok, List.map_toArray, List.map_cons, List.map_nil, hs, hx, hrun]
      refine hK _ _ (h _ _ ⟨hlen, .inr ⟨g, off, cap, _, rfl, hbg, setRow_out hg, hroom, hcm, ?_, ?_⟩⟩ ⟨rfl, rfl, rfl, by simp [World.setRow], fun k _ hk => setRow_other w g k _ (fun e => hk (by simp [Value.ownBlock, e]))⟩ (.inl rfl))
      · simp
        omega
      · rw [List.toList_toArray, ← htake]
        apply List.ext_getElem?
        intro j
        have hlt : ((cur.toList.drop off).take (n * i.size)).length = n * i.size := by rw [htake]; exact hown.1
        rw [Nat.add_mul, ← hl]
        by_cases hj : j < n * i.size
        · rw [List.getElem?_take_of_lt (by omega), List.getElem?_drop, List.append_assoc, List.getElem?_append_left (by simp; omega), List.getElem?_append_left (by rw [hlt]; exact hj), List.getElem?_take_of_lt hj, List.getElem?_take_of_lt (by omega), List.getElem?_drop]
        · by_cases hj2 : j < n * i.size + news.length
          · rw [List.getElem?_take_of_lt hj2, List.getElem?_drop, List.append_assoc, List.getElem?_append_right (by simp; omega), List.getElem?_append_left (by simp; omega), List.getElem?_append_right (by rw [hlt]; omega), hlt]
            congr 1
            simp
            omega
          · rw [List.getElem?_take_eq_none (by omega), List.getElem?_eq_none (by rw [List.length_append, hlt]; omega)]
    · subst hsize
      subst hby
      have hsmall : n + m ≤ 9223372036854775807 := by simp only [maxLen] at h63; omega
      have hge := grownCap_ge w (n + m) cap e
      have hcm2 : grownCap w (n + m) cap e ≤ maxLen := grownCap_le_maxLen w (n + m) cap e h63
      have hrun := run_append_grow (P := P) w t o.type e i z ht hi hz ⟨g, off, none⟩ n cap xs hown.1 (fun j u hj => by rw [Addr.add_lit]; exact off_cells hg htake j u hj) ad m c news hl hnews (by omega) (by omega) (growslice_fits (by omega) hbytes)
      unfold Oper.wp execOp
      simp only [ho, resolve, invoke, builtin, Sem.run_bind, Sem.run_pure, Result.andThen_ok, List.map_toArray, List.map_cons, List.map_nil, hs, hx, hrun]
      refine hK _ _ (h _ _ (OwnOff.of ⟨hlen, .inr ⟨w.heap.size, _, _, rfl, hbase, heap_alloc_new w.drew _, hge, hcm2, ?_, ?_⟩⟩) ⟨rfl, rfl, rfl, by simp, fun k hk _ => Below.block (((Old.refl w).drew).alloc _) k hk⟩ (.inr rfl))
      · simp only [Array.size_append, List.size_toArray, size_zeroCells, hzs, hown.1, hl, ← Nat.add_mul]
        congr 1
        omega
      · simp only [Array.toList_append, List.append_assoc]
        rw [← List.append_assoc, ← hlen]
        exact List.take_left
/-- clear of such a part. -/
theorem run_clearOff {P : Program} (w : World) (t ty e : TypeId) (i : TypeInfo) (z : Value) (size : Nat) (ht : P.underlying t = some (.slice e)) (hi : P.info? e = some i) (hz : i.zero = some z) (hzs : z.cells.size = size) (hsz : 0 < size) (h1 : ∀ u ∈ z.cells.toList, u.oneCell' = true) (g o n c : Nat) (cur : Array Value) (hg : w.heap[g]? = some (.cells cur e (0, 0))) (hf : 0 < n → o + n * size ≤ cur.size) :
    ∃ zs : List Value, zs.length = n * size ∧ (Builtin.clear_ #[t] ty #[.slice (some ⟨g, o, none⟩) n c]).run P w = .ok (.tuple #[]) (if n = 0 then w else w.setRow g (cur.toList.take o ++ zs ++ cur.toList.drop (o + zs.length)).toArray) := by
  refine ⟨(Builtin.zeroCells z.cells n).toList, by rw [Array.length_toList, size_zeroCells, hzs], ?_⟩
  by_cases hn : n = 0
  · subst hn
    simp [Builtin.clear_, run_underlying ht]
  · rw [if_neg hn]
    have hl : (Builtin.zeroCells z.cells n).toList.length = n * size := by rw [Array.length_toList, size_zeroCells, hzs]
    have hst := run_storeCells_at P g o e (Builtin.zeroCells z.cells n).toList 0 cur w hg (by rw [hl]; simpa using hf (by omega)) (by
      intro u hu
      simp [Builtin.zeroCells] at hu
      obtain ⟨j, hj, rfl⟩ := hu
      have hm : j % z.cells.size < z.cells.size := Nat.mod_lt _ (by omega)
      rw [getElem!_pos z.cells _ hm]
      exact h1 _ (Array.getElem_mem_toList hm))
    simp only [Nat.add_zero] at hst
    obtain ⟨m, rfl⟩ : ∃ m, n = m + 1 := ⟨n - 1, by omega⟩
    simp [Builtin.clear_, run_underlying ht, zeroValue, typeInfo, hi, hz, hst]
end Go.Proofs.Ytgpfmohaogppiaa
