/- A row of transactions that came in, opened, with its bounds; no condition but the row's own reach. -/
import Derived.Test.YtbkbnfgjkefcmaaGreatTJ
import Derived.Test.YtbkbnfgjkefcmaaGreatTA
namespace Go.Proofs.YtbkbnfgjkefcmaaGreat
open Go.ChangeShapes Go.WideShapes Go.RowKit Go.Joins Go.Lib
set_option linter.unusedVariables false
set_option linter.unusedSimpArgs false
set_option maxRecDepth 20000
/-- A row of transactions, as long as may come in. -/
def DRowL (w : World) (v : Value) (n : Nat) (d : Nat → Dn) : Prop := n ≤ 1353245080301 ∧ ∃ (p : Option Addr) (c : Nat), v = .slice p n c ∧ n ≤ c ∧ c ≤ 9223372036854775807 ∧ ∀ i, i < n → ∃ g off, p = some ⟨g, off, none⟩ ∧ DnIn w g (off + i * 7) (d i) ∧ (d i).s.Ok w
theorem DRowL.few {w : World} {p : Option Addr} {n c : Nat} {d : Nat → Dn} (h : DRowL w (.slice p n c) n d) (k : Nat) (hk : k ≤ n) (h1 : k ≤ 1000) : DRow w (.slice p k c) k d := by
  obtain ⟨hm, p', c', e, h2, h3, hc⟩ := h
  cases e
  exact ⟨by omega, p, c, rfl, by omega, h3, fun i hi => hc i (by omega)⟩
theorem weightsAll_mem {H : Type} {P : Program} {e : TypeId} : ∀ {l : List (DataW H)} {d : DataW H}, d ∈ l → ∀ k ∈ d.weights P e, k ∈ DataW.weightsAll P e l
  | [], _, h, _, _ => by cases h
  | x :: r, d, h, k, hk => by
    unfold DataW.weightsAll
    rcases List.mem_cons.1 h with rfl | h
    · exact List.mem_append_left _ hk
    · exact List.mem_append_right _ (weightsAll_mem h k hk)
theorem cellsDone : Tryz.prog.cellsOf 33 = 7 := by kernel_rfl
theorem bytesDone : Tryz.prog.bytesOf 33 = 104 := by kernel_rfl
theorem trod_sub {H : Type} {enc : TypeId × Value → H} {w : World} {fuel : Nat} {cs : List Value} {y : DataW H × List MemPlace} (h : DataW.trod enc Tryz.prog w 0 (fun _ => true) true fuel 31 cs = some y) (hz : ∀ k ∈ y.1.weights Tryz.prog 31, k ≤ reachBytes) :
    ∃ s : Sb, cs = [.int .i64 s.s1, .int .i64 s.s2, .int .i64 s.s3, .slice s.a1 s.n1 s.c1, .slice s.a2 s.n2 s.c2, .slice s.a3 s.n3 s.c3] ∧ s.Ok w := by
  obtain ⟨xs, n, _, hd, hl, hlen, hf⟩ := DataW.trod_struct Tryz.underlying31 h
  rw [cellsSub] at hl
  match cs, hl with
  | [c0, c1, c2, c3, c4, c5], _ =>
    match xs, hlen, hd with
    | [y0, y1, y2, y3, y4, y5], _, hd =>
      have h0 := hf 0 _ rfl
      have h1 := hf 1 _ rfl
      have h2 := hf 2 _ rfl
      have h3 := hf 3 _ rfl
      have h4 := hf 4 _ rfl
      have h5 := hf 5 _ rfl
      simp [cellsI] at h0 h1 h2 h3 h4 h5
      obtain ⟨a0, e0, _, q0⟩ := DataW.trod_int Tryz.underlying2 h0
      obtain ⟨a1, e1, _, q1⟩ := DataW.trod_int Tryz.underlying2 h1
      obtain ⟨a2, e2, _, q2⟩ := DataW.trod_int Tryz.underlying2 h2
      obtain ⟨p1, n1, k1, x1, rfl, r1⟩ := trod_frow h3
      obtain ⟨p2, n2, k2, f2, rfl, r2⟩ := trod_srow h4
      obtain ⟨p3, n3, k3, x3, rfl, r3⟩ := trod_frow h5
      simp at e0 e1 e2
      subst e0 e1 e2
      have hdd : y.1 = .agg [y0.1, y1.1, y2.1, y3.1, y4.1, y5.1] := congrArg Prod.fst hd
      have hw : ∀ (j : Nat) (t : TypeId) (z : DataW H), ([2, 2, 2, 28, 29, 28] : List TypeId)[j]? = some t → [y0.1, y1.1, y2.1, y3.1, y4.1, y5.1][j]? = some z → ∀ x ∈ z.weights Tryz.prog t, x ≤ reachBytes := by
        intro j t z ht hz' x hx
        refine hz x ?_
        rw [hdd]
        simp only [DataW.weights, Tryz.underlying31]
        exact DataW.weights_mem_each ht hz' x hx
      have g1 := row_fits Tryz.underlying28 bytesF (len_row Tryz.underlying28 h3) (hw 3 _ _ rfl rfl)
      have g2 := row_fits Tryz.underlying29 bytesSpan (len_row Tryz.underlying29 h4) (hw 4 _ _ rfl rfl)
      have g3 := row_fits Tryz.underlying28 bytesF (len_row Tryz.underlying28 h5) (hw 5 _ _ rfl rfl)
      simp only [reachBytes] at g1 g2 g3
      exact ⟨⟨a0, a1, a2, p1, p2, p3, n1, n2, n3, k1, k2, k3, x1, x3, f2⟩, rfl, r1, r2, r3, (show n1 ≤ 17592186044000 by omega), (show n2 ≤ 5864062014805 by omega), (show n3 ≤ 17592186044000 by omega)⟩
theorem trod_dn {H : Type} {enc : TypeId × Value → H} {w : World} {fuel : Nat} {cs : List Value} {y : DataW H × List MemPlace} (h : DataW.trod enc Tryz.prog w 0 (fun _ => true) true fuel 33 cs = some y) (hz : ∀ k ∈ y.1.weights Tryz.prog 33, k ≤ reachBytes) :
    ∃ d : Dn, cs = [.int .i64 d.n, .int .i64 d.s.s1, .int .i64 d.s.s2, .int .i64 d.s.s3, .slice d.s.a1 d.s.n1 d.s.c1, .slice d.s.a2 d.s.n2 d.s.c2, .slice d.s.a3 d.s.n3 d.s.c3] ∧ d.s.Ok w := by
  obtain ⟨xs, n, _, hd, hl, hlen, hf⟩ := DataW.trod_struct Tryz.underlying33 h
  rw [cellsDone] at hl
  match cs, hl with
  | [c0, c1, c2, c3, c4, c5, c6], _ =>
    match xs, hlen, hd with
    | [y0, y1], _, hd =>
      have h0 := hf 0 _ rfl
      have h1 := hf 1 _ rfl
      simp [cellsI, cellsSub] at h0 h1
      obtain ⟨a0, e0, _, q0⟩ := DataW.trod_int Tryz.underlying2 h0
      simp at e0
      subst e0
      have hdd : y.1 = .agg [y0.1, y1.1] := congrArg Prod.fst hd
      obtain ⟨s, hs, hok⟩ := trod_sub h1 (fun k hk => hz k (by
        rw [hdd]
        simp only [DataW.weights, Tryz.underlying33]
        exact DataW.weights_mem_each (ts := [2, 31]) (j := 1) rfl rfl k hk))
      simp at hs
      obtain ⟨rfl, rfl, rfl, rfl, rfl, rfl⟩ := hs
      exact ⟨⟨a0, s⟩, rfl, hok⟩
theorem open_dones {H : Type} {enc : TypeId × Value → H} {w : World} {base : Nat} {v : Value} {d : DataW H} {ps : List MemPlace} (hv : Value.okWide Tryz.prog w .any base 22 v) (h : DataW.Trod enc Tryz.prog w 0 (fun _ => true) true 22 v d ps) (hz : ∀ k ∈ d.weights Tryz.prog 22, k ≤ reachBytes) : ∃ (n : Nat) (f : Nat → Dn), DRowL w v n f := by
  obtain ⟨a0, len0, cap0, rfl⟩ := okWide_slice Tryz.underlying22 hv
  obtain ⟨fuel, hf⟩ := h
  have hlr := len_row Tryz.underlying22 hf
  have hfit := row_fits Tryz.underlying22 bytesDone hlr hz
  simp only [reachBytes] at hfit
  rcases DataW.trod_slice Tryz.underlying22 hf with ⟨hcs, _⟩ | ⟨a, len, cap, elems, rest, m, _, hcs, hx, hb, hl, hm, hlen, hel, _, _⟩
  · simp [Value.cells] at hcs
    obtain ⟨rfl, rfl, rfl⟩ := hcs
    exact ⟨0, fun _ => ⟨0, ⟨0, 0, 0, none, none, none, 0, 0, 0, 0, 0, 0, fun _ => 0, fun _ => 0, fun _ => ⟨0, 0, false, false⟩⟩⟩, by omega, none, 0, rfl, by omega, by omega, fun i hi => by omega⟩
  · simp [Value.cells] at hcs
    obtain ⟨rfl, rfl, rfl⟩ := hcs
    have hcm : cap0 ≤ 9223372036854775807 := by unfold maxLen at hm; omega
    by_cases hzz : len0 = 0
    · subst hzz
      exact ⟨0, fun _ => ⟨0, ⟨0, 0, 0, none, none, none, 0, 0, 0, 0, 0, 0, fun _ => 0, fun _ => 0, fun _ => ⟨0, 0, false, false⟩⟩⟩, by omega, _, cap0, rfl, by omega, hcm, fun i hi => by omega⟩
    · have hdd : d = .slice (elems.map (·.1)) (rest.map (·.1)) := congrArg Prod.fst hx
      have each : ∀ i, i < len0 → ∃ s : Dn, (∀ j, j < 7 → w.cell? ((a.add (i * 7)).add j) = ([.int .i64 s.n, .int .i64 s.s.s1, .int .i64 s.s.s2, .int .i64 s.s.s3, .slice s.s.a1 s.s.n1 s.s.c1, .slice s.s.a2 s.s.n2 s.s.c2, .slice s.s.a3 s.s.n3 s.s.c3] : List Value)[j]?) ∧ s.s.Ok w := by
        intro i hi
        have h1 := hel i hi
        have h2 : elems[i]? = some (elems[i]'(by omega)) := List.getElem?_eq_getElem (by omega)
        rw [h2, cellsDone, Option.bind_eq_some_iff] at h1
        obtain ⟨cs', hcs, hy'⟩ := h1
        obtain ⟨s, rfl, hs⟩ := trod_dn hy' (fun k hk => hz k (by
          rw [hdd]
          simp only [DataW.weights, Tryz.underlying22]
          exact List.mem_cons_of_mem _ (List.mem_append_left _ (weightsAll_mem (List.mem_map.2 ⟨_, List.getElem_mem (by omega), rfl⟩) k hk))))
        exact ⟨s, fun j hj => cellsEach hcs j hj, hs⟩
      obtain ⟨b, off, spot⟩ := a
      obtain ⟨s0, h0, _⟩ := each 0 (by omega)
      have hspot : spot = none := by simpa [Addr.add] using World.cell?_spot (h0 0 (by omega))
      subst hspot
      have each2 : ∀ i, ∃ s : Dn, i < len0 → DnIn w b (off + i * 7) s ∧ s.s.Ok w := by
        intro i
        by_cases hi : i < len0
        · obtain ⟨s, q1, q2⟩ := each i hi
          simp only [Go.WideShapes.add_plain] at q1
          exact ⟨s, fun _ => ⟨⟨q1 0 (by omega), q1 1 (by omega), q1 2 (by omega), q1 3 (by omega), q1 4 (by omega), q1 5 (by omega), q1 6 (by omega)⟩, q2⟩⟩
        · exact ⟨s0, fun h => absurd h hi⟩
      exact ⟨len0, fun i => Classical.choose (each2 i), by omega, _, cap0, rfl, hl, hcm, fun i hi => ⟨b, off, rfl, Classical.choose_spec (each2 i) hi⟩⟩
end Go.Proofs.YtbkbnfgjkefcmaaGreat
namespace Go.Proofs.YtbkbnfgjkefcmaaGreat
open Go.RowKit Go.Lib
set_option linter.unusedVariables false
set_option linter.unusedSimpArgs false
set_option maxRecDepth 20000
theorem getD_set (W : List Int) (i j : Nat) (y : Int) (h : i < W.length) : (W.set i y).getD j 0 = if i = j then y else W.getD j 0 := by
  by_cases e : i = j
  · subst e; rw [if_pos rfl, List.getD_eq_getElem?_getD, List.getElem?_set_self h]; rfl
  · rw [if_neg e, List.getD_eq_getElem?_getD, List.getElem?_set_ne e, ← List.getD_eq_getElem?_getD]
theorem cntW_get : ∀ (E : List (Int × Int)) (W : List Int) (i : Nat), (∀ e ∈ E, 1 ≤ e.2 ∧ e.2 ≤ W.length) → (cntW E W).getD i 0 = W.getD i 0 + ((E.countP fun e => decide (e.2 = (i : Int) + 1) : Nat) : Int)
  | [], W, i, h => by simp [cntW]
  | e :: t, W, i, h => by
    have he := h e (List.mem_cons_self ..)
    have ht : toN e < W.length := by unfold toN; omega
    show (cntW t (W.set (toN e) (W.getD (toN e) 0 + 1))).getD i 0 = _
    rw [cntW_get t _ i (fun x hx => by rw [List.length_set]; exact h x (List.mem_cons_of_mem _ hx)), getD_set W (toN e) i _ ht, List.countP_cons]
    by_cases q : toN e = i
    · have q2 : e.2 = (i : Int) + 1 := by unfold toN at q; omega
      rw [if_pos q, q, decide_eq_true q2]
      simp; omega
    · have q2 : ¬ e.2 = (i : Int) + 1 := by unfold toN at q; omega
      rw [if_neg q, decide_eq_false q2]
      simp
theorem decW_get (x : Int) : ∀ (E : List (Int × Int)) (W : List Int) (i : Nat), (∀ e ∈ E, 1 ≤ e.2 ∧ e.2 ≤ W.length) → (decW x E W).getD i 0 = W.getD i 0 - ((E.countP fun e => decide (e.1 = x) && decide (e.2 = (i : Int) + 1) : Nat) : Int)
  | [], W, i, h => by simp [decW]
  | e :: t, W, i, h => by
    have he := h e (List.mem_cons_self ..)
    have ht : toN e < W.length := by unfold toN; omega
    have hr : ∀ x ∈ t, 1 ≤ x.2 ∧ x.2 ≤ W.length := fun x hx => h x (List.mem_cons_of_mem _ hx)
    show (decW x t (if e.1 = x then W.set (toN e) (W.getD (toN e) 0 - 1) else W)).getD i 0 = _
    rw [List.countP_cons]
    by_cases p : e.1 = x
    · rw [if_pos p, decW_get x t _ i (fun y hy => by rw [List.length_set]; exact hr y hy), getD_set W (toN e) i _ ht, decide_eq_true p]
      by_cases q : toN e = i
      · have q2 : e.2 = (i : Int) + 1 := by unfold toN at q; omega
        rw [if_pos q, q, decide_eq_true q2]
        simp; omega
      · have q2 : ¬ e.2 = (i : Int) + 1 := by unfold toN at q; omega
        rw [if_neg q, decide_eq_false q2]
        simp
    · rw [if_neg p, decW_get x t W i hr, decide_eq_false p]
      simp
/-- How line stands: who has come, and of each other one how many it waits for. -/
structure Inv (E : List (Int × Int)) (n : Nat) (C W : List Int) : Prop where
  len : W.length = n
  nod : C.Nodup
  rng : ∀ x ∈ C, 1 ≤ x ∧ x ≤ n
  done : ∀ i : Nat, i < n → (i : Int) + 1 ∈ C → W.getD i 0 = -1
  wait : ∀ i : Nat, i < n → (i : Int) + 1 ∉ C → W.getD i 0 = ((E.countP fun e => decide (e.2 = (i : Int) + 1) && !decide (e.1 ∈ C) : Nat) : Int)
  edge : ∀ e ∈ E, e.2 ∈ C → ∃ P Q, C = P ++ e.2 :: Q ∧ e.1 ∈ P
theorem Inv.start (E : List (Int × Int)) (n : Nat) (hE : ∀ e ∈ E, (1 ≤ e.1 ∧ e.1 ≤ n) ∧ 1 ≤ e.2 ∧ e.2 ≤ n) : Inv E n [] (cntW E (List.replicate n 0)) := by
  refine ⟨by rw [cntW_len, List.length_replicate], List.nodup_nil, (fun x hx => by cases hx), (fun i _ h => by cases h), fun i hi _ => ?_, (fun e _ h => by cases h)⟩
  rw [cntW_get E _ i (fun e he => by rw [List.length_replicate]; exact (hE e he).2)]
  have z : (List.replicate n (0 : Int)).getD i 0 = 0 := by simp [List.getD_eq_getElem?_getD, List.getElem?_replicate, hi]
  rw [z]
  simp
theorem countP_split {α : Type} (p q : α → Bool) : ∀ L : List α, L.countP (fun a => p a && !q a) + L.countP (fun a => p a && q a) = L.countP p
  | [] => rfl
  | a :: t => by
    have h := countP_split p q t
    rw [List.countP_cons, List.countP_cons, List.countP_cons]
    cases p a <;> cases q a <;> simp <;> omega
theorem Inv.step {E : List (Int × Int)} {n : Nat} {C W : List Int} (h : Inv E n C W) (hE : ∀ e ∈ E, (1 ≤ e.1 ∧ e.1 ≤ n) ∧ 1 ≤ e.2 ∧ e.2 ≤ n) (hne : ∀ e ∈ E, e.1 ≠ e.2) (i : Nat) (hi : i < n) (hz : W.getD i 0 = 0) :
    Inv E n (C ++ [(i : Int) + 1]) (decW ((i : Int) + 1) E (W.set i (-1))) := by
  have hnot : (i : Int) + 1 ∉ C := fun q => by have := h.done i hi q; omega
  have hw0 := h.wait i hi hnot
  rw [hz] at hw0
  have hall : ∀ e ∈ E, e.2 = (i : Int) + 1 → e.1 ∈ C := fun e he q => by
    by_cases c : e.1 ∈ C
    · exact c
    · exfalso
      have : 0 < E.countP (fun e => decide (e.2 = (i : Int) + 1) && !decide (e.1 ∈ C)) := List.countP_pos_iff.2 ⟨e, he, by simp [q, c]⟩
      omega
  have hl2 : (W.set i (-1)).length = n := by rw [List.length_set]; exact h.len
  have hg : ∀ j, (decW ((i : Int) + 1) E (W.set i (-1))).getD j 0 = (if i = j then -1 else W.getD j 0) - ((E.countP fun e => decide (e.1 = (i : Int) + 1) && decide (e.2 = (j : Int) + 1) : Nat) : Int) := fun j => by
    rw [decW_get _ E _ j (fun e he => by rw [hl2]; exact (hE e he).2), getD_set W i j _ (by rw [h.len]; exact hi)]
  refine ⟨by rw [decW_len]; exact hl2, ?_, ?_, ?_, ?_, ?_⟩
  · rw [List.nodup_append]
    exact ⟨h.nod, by simp, fun a ha b hb e => by simp at hb; subst hb; subst e; exact hnot ha⟩
  · intro x hx
    rcases List.mem_append.1 hx with q | q
    · exact h.rng x q
    · simp at q; omega
  · intro j hj hm
    rw [hg j]
    have hc : E.countP (fun e => decide (e.1 = (i : Int) + 1) && decide (e.2 = (j : Int) + 1)) = 0 := by
      rw [List.countP_eq_zero]
      intro e he q
      simp at q
      rcases List.mem_append.1 hm with m | m
      · obtain ⟨P, Q, hC, hP⟩ := h.edge e he (by rw [q.2]; exact m)
        exact hnot (by rw [← q.1, hC]; exact List.mem_append_left _ hP)
      · simp at m
        exact hne e he (by rw [q.1, q.2]; omega)
    rw [hc]
    rcases List.mem_append.1 hm with m | m
    · have hij : i ≠ j := fun e => hnot (by rw [e]; exact m)
      rw [if_neg hij, h.done j hj m]; rfl
    · simp at m
      have hij : i = j := by omega
      rw [if_pos hij]; rfl
  · intro j hj hm
    have hm1 : (j : Int) + 1 ∉ C := fun q => hm (List.mem_append_left _ q)
    have hij : i ≠ j := fun e => hm (by rw [e]; simp)
    rw [hg j, if_neg hij, h.wait j hj hm1]
    have hs := countP_split (fun e : Int × Int => decide (e.2 = (j : Int) + 1) && !decide (e.1 ∈ C)) (fun e => decide (e.1 = (i : Int) + 1)) E
    have e1 : E.countP (fun e => decide (e.1 = (i : Int) + 1) && decide (e.2 = (j : Int) + 1)) = E.countP (fun a : Int × Int => (decide (a.2 = (j : Int) + 1) && !decide (a.1 ∈ C)) && decide (a.1 = (i : Int) + 1)) := by
      apply List.countP_congr
      intro a _
      by_cases q : a.1 = (i : Int) + 1
      · simp [q, hnot]
      · simp [q]
    have e2 : E.countP (fun e => decide (e.2 = (j : Int) + 1) && !decide (e.1 ∈ C ++ [(i : Int) + 1])) = E.countP (fun a : Int × Int => (decide (a.2 = (j : Int) + 1) && !decide (a.1 ∈ C)) && !decide (a.1 = (i : Int) + 1)) := by
      apply List.countP_congr
      intro a _
      simp [and_assoc]
    rw [e1, e2]
    omega
  · intro e he hm
    rcases List.mem_append.1 hm with m | m
    · obtain ⟨P, Q, hC, hP⟩ := h.edge e he m
      exact ⟨P, Q ++ [(i : Int) + 1], by rw [hC]; simp, hP⟩
    · simp at m
      exact ⟨C, [], by rw [m], hall e he m⟩
theorem lineF_inv (d : Nat → Dn) (E : List (Int × Int)) (n : Nat) (hE : ∀ e ∈ E, (1 ≤ e.1 ∧ e.1 ≤ n) ∧ 1 ≤ e.2 ∧ e.2 ≤ n) (hne : ∀ e ∈ E, e.1 ≠ e.2) (hd : ∀ i, i < n → (d i).n = (i : Int) + 1) : ∀ (f : Nat) (C W : List Int), Inv E n C W → Inv E n (lineF d E f C W).1 (lineF d E f C W).2
  | 0, C, W, h => h
  | f + 1, C, W, h => by
    unfold lineF
    cases e : idx0 W with
    | none => exact h
    | some i =>
      simp only
      obtain ⟨hi, hz⟩ := idx0_spec W i e
      rw [h.len] at hi
      rw [hd i hi]
      exact lineF_inv d E n hE hne hd f _ _ (h.step hE hne i hi hz)
/-- Where nothing is stuck, all have come. -/
theorem stk_none {d : Nat → Dn} {W : List Int} : ∀ {n : Nat}, stkF d W n = [] → ∀ i, i < n → W.getD i 0 = -1
  | 0, _, i, hi => by omega
  | n + 1, h, i, hi => by
    have h' : stkF d W n ++ (if W.getD n 0 = -1 then [] else [(d n).n]) = [] := h
    obtain ⟨a, b⟩ := List.append_eq_nil_iff.1 h'
    by_cases e : i = n
    · subst e
      by_cases q : W.getD i 0 = -1
      · exact q
      · rw [if_neg q] at b; cases b
    · exact stk_none a i (by omega)
theorem Inv.all {E : List (Int × Int)} {n : Nat} {C W : List Int} (h : Inv E n C W) (hw : ∀ i, i < n → W.getD i 0 = -1) : ∀ i : Nat, i < n → (i : Int) + 1 ∈ C := fun i hi => by
  by_cases c : (i : Int) + 1 ∈ C
  · exact c
  · have a := h.wait i hi c
    have b := hw i hi
    omega
end Go.Proofs.YtbkbnfgjkefcmaaGreat
namespace Go.Proofs.YtbkbnfgjkefcmaaGreat
open Go.RowKit Go.Lib
set_option linter.unusedVariables false
set_option linter.unusedSimpArgs false
set_option maxRecDepth 20000
theorem keyEq_alike {a b : Nat} (h : keyEq a b = true) (x : Nat) : keyEq x a = keyEq x b := by
  unfold keyEq at h ⊢
  rw [Bool.and_eq_true, Bool.and_eq_true, decide_eq_true_eq] at h
  obtain ⟨⟨h1, h2⟩, h3⟩ := h
  rw [h1, h2, h3]
theorem hasS_alike {a b : Nat} (h : keyEq a b = true) (s : Sp) : Fl.hasS s a = Fl.hasS s b := by
  unfold keyEq at h
  rw [Bool.and_eq_true, Bool.and_eq_true, decide_eq_true_eq] at h
  unfold Fl.hasS Fl.hasF
  rw [h.2]
theorem readB_alike {a b : Nat} (h : keyEq a b = true) (s : Sb) : readB s a = readB s b := by
  unfold readB
  rw [show (fun i => keyEq (s.x1 i) a) = fun i => keyEq (s.x1 i) b from funext fun i => keyEq_alike h _, show (fun i => Fl.hasS (s.f2 i) a) = fun i => Fl.hasS (s.f2 i) b from funext fun i => hasS_alike h _]
theorem writeB_alike {a b : Nat} (h : keyEq a b = true) (s : Sb) : writeB s a = writeB s b := by
  unfold writeB
  rw [show (fun i => keyEq (s.x3 i) a) = fun i => keyEq (s.x3 i) b from funext fun i => keyEq_alike h _]
theorem bw_of {a b : Dn} {k : Nat} (h1 : writeB a.s k = true) (h2 : writeB b.s k = true) : bwB a b = true := by
  obtain ⟨i, hi, e⟩ := anyG_iff.1 h1
  exact anyG_iff.2 ⟨i, hi, by rw [writeB_alike e]; exact h2⟩
theorem meet_of {a b : Sb} {k : Nat} (h1 : readB a k = true) (h2 : writeB b k = true) : meetB a b = true := by
  obtain ⟨i, hi, e⟩ := anyG_iff.1 h2
  exact anyG_iff.2 ⟨i, hi, by rw [readB_alike e]; exact h1⟩
theorem edR_mem {d : Nat → Dn} {k : Nat} : ∀ {j : Nat} (e : Int × Int), e ∈ edR d k j ↔ ∃ i, i < j ∧ ldB (d k) (d i) = true ∧ e = ((d k).n, (d i).n)
  | 0, e => by simp [edR]
  | j + 1, e => by
    show e ∈ edR d k j ++ _ ↔ _
    rw [List.mem_append, edR_mem e]
    constructor
    · rintro (⟨i, hi, a, b⟩ | h)
      · exact ⟨i, by omega, a, b⟩
      · by_cases q : ldB (d k) (d j) = true
        · rw [if_pos q] at h; simp at h; exact ⟨j, by omega, q, h⟩
        · rw [if_neg q] at h; cases h
    · rintro ⟨i, hi, a, b⟩
      by_cases q : i = j
      · subst q; right; rw [if_pos a, b]; simp
      · left; exact ⟨i, by omega, a, b⟩
theorem edU_mem {d : Nat → Dn} {n : Nat} : ∀ {k : Nat} (e : Int × Int), e ∈ edU d n k ↔ ∃ i j, i < k ∧ j < n ∧ ldB (d i) (d j) = true ∧ e = ((d i).n, (d j).n)
  | 0, e => by simp [edU]
  | k + 1, e => by
    show e ∈ edU d n k ++ _ ↔ _
    rw [List.mem_append, edU_mem e, edR_mem]
    constructor
    · rintro (⟨i, j, hi, hj, a, b⟩ | ⟨j, hj, a, b⟩)
      · exact ⟨i, j, by omega, hj, a, b⟩
      · exact ⟨k, j, by omega, hj, a, b⟩
    · rintro ⟨i, j, hi, hj, a, b⟩
      by_cases q : i = k
      · subst q; right; exact ⟨j, hj, a, b⟩
      · left; exact ⟨i, j, by omega, hj, a, b⟩
theorem ldB_ne {a b : Dn} (h : ldB a b = true) : a.n ≠ b.n := by
  unfold ldB at h
  rw [Bool.and_eq_true] at h
  simpa using h.1
theorem split_one : ∀ (P P' : List Int) (x : Int) (t t' : List Int), x ∉ P → x ∉ P' → P ++ x :: t = P' ++ x :: t' → P = P'
  | [], [], _, _, _, _, _, _ => rfl
  | [], b :: P', x, t, t', h, h', e => by
    have e1 : x = b := by simpa using (List.cons.inj e).1
    exact absurd (by rw [e1]; exact List.mem_cons_self ..) h'
  | a :: P, [], x, t, t', h, h', e => by
    have e1 : a = x := by simpa using (List.cons.inj e).1
    exact absurd (by rw [e1]; exact List.mem_cons_self ..) h
  | a :: P, b :: P', x, t, t', h, h', e => by
    obtain ⟨e1, e2⟩ := List.cons.inj e
    rw [e1, split_one P P' x t t' (fun q => h (List.mem_cons_of_mem _ q)) (fun q => h' (List.mem_cons_of_mem _ q)) e2]
theorem nod_not {P t : List Int} {x : Int} (h : (P ++ x :: t).Nodup) : x ∉ P := fun q => by
  rw [List.nodup_append] at h
  exact h.2.2 x q x (List.mem_cons_self ..) rfl
/-- An order of a history: each number once, and no edge leads back. -/
structure Ord (d : Nat → Dn) (n : Nat) (C : List Int) : Prop where
  num : ∀ i, i < n → (d i).n = (i : Int) + 1
  snp : ∀ i, i < n → 0 ≤ (d i).s.s3 ∧ (d i).s.s3 < (d i).n
  nod : C.Nodup
  rng : ∀ x ∈ C, 1 ≤ x ∧ x ≤ n
  all : ∀ i : Nat, i < n → (i : Int) + 1 ∈ C
  edg : ∀ i j, i < n → j < n → ldB (d i) (d j) = true → ∃ P Q, C = P ++ ((j : Int) + 1) :: Q ∧ (i : Int) + 1 ∈ P
/-- What leads to one is ahead of it. -/
theorem Ord.ahead {d : Nat → Dn} {n : Nat} {C P Q : List Int} (h : Ord d n C) {i j : Nat} (hi : i < n) (hj : j < n) (hl : ldB (d i) (d j) = true) (e : C = P ++ ((j : Int) + 1) :: Q) : (i : Int) + 1 ∈ P := by
  obtain ⟨P', Q', e', m⟩ := h.edg i j hi hj hl
  have a : ((j : Int) + 1) ∉ P := nod_not (by rw [← e]; exact h.nod)
  have b : ((j : Int) + 1) ∉ P' := nod_not (by rw [← e']; exact h.nod)
  rw [split_one P P' _ Q Q' a b (by rw [← e, ← e'])]
  exact m
theorem ver_zero {d : Nat → Dn} {key : Nat} : ∀ {m : Nat}, (∀ i, i < m → writeB (d i).s key = false) → ver d key m = 0
  | 0, _ => rfl
  | m + 1, h => by
    show (if writeB (d m).s key = true then _ else ver d key m) = 0
    rw [if_neg (by rw [h m (by omega)]; simp)]
    exact ver_zero fun i hi => h i (by omega)
theorem ver_at {d : Nat → Dn} {key j : Nat} (hw : writeB (d j).s key = true) : ∀ {m : Nat}, j < m → (∀ i, j < i → i < m → writeB (d i).s key = false) → ver d key m = (d j).n
  | 0, q, _ => by omega
  | m + 1, q, h => by
    show (if writeB (d m).s key = true then (d m).n else ver d key m) = _
    by_cases e : j = m
    · subst e; rw [if_pos hw]
    · rw [if_neg (by rw [h m (by omega) (by omega)]; simp)]
      exact ver_at hw (by omega) fun i a b => h i a (by omega)
/-- Who has written a key last, of some. -/
def LastW (d : Nat → Dn) (key : Nat) (P : List Int) (l : Int) : Prop := (l = 0 ∧ ∀ x ∈ P, writeB (d (x - 1).toNat).s key = false) ∨ ∃ P1 P2, P = P1 ++ l :: P2 ∧ writeB (d (l - 1).toNat).s key = true ∧ ∀ x ∈ P2, writeB (d (x - 1).toNat).s key = false
theorem Ord.ver {d : Nat → Dn} {n : Nat} {C P Q : List Int} (h : Ord d n C) {key : Nat} {x : Int} {l : Int} (e : C = P ++ x :: Q) (hl : LastW d key P l) (hr : readB (d (x - 1).toNat).s key = true) : Go.Proofs.YtbkbnfgjkefcmaaGreat.ver d key (d (x - 1).toNat).s.s3.toNat = l := by
  have hx := h.rng x (by rw [e]; simp)
  obtain ⟨k, hk, rfl⟩ : ∃ k : Nat, k < n ∧ x = (k : Int) + 1 := ⟨(x - 1).toNat, by omega, by omega⟩
  have ek : ((k : Int) + 1 - 1).toNat = k := by omega
  rw [ek] at hr ⊢
  have hs := h.snp k hk
  have hn := h.num k hk
  generalize hm : (d k).s.s3.toNat = m
  have hmk : m ≤ k := by omega
  -- who writes it and was seen is ahead
  have seen : ∀ i, i < m → writeB (d i).s key = true → (i : Int) + 1 ∈ P := fun i hi hw => by
    refine h.ahead (by omega) hk ?_ e
    have a1 : ¬ (d i).n = (d k).n := by rw [h.num i (by omega), hn]; omega
    have a2 : (d i).n ≤ (d k).s.s3 := by rw [h.num i (by omega)]; omega
    unfold ldB
    simp [a1, a2, meet_of hr hw]
  rcases hl with ⟨rfl, hno⟩ | ⟨P1, P2, eP, hw, hno⟩
  · refine ver_zero fun i hi => ?_
    by_cases q : writeB (d i).s key = true
    · have a := hno _ (seen i hi q)
      rw [show ((i : Int) + 1 - 1).toNat = i from by omega] at a
      exact a
    · simpa using q
  · have hT := h.rng l (by rw [e, eP]; simp)
    obtain ⟨j, hj, rfl⟩ : ∃ j : Nat, j < n ∧ l = (j : Int) + 1 := ⟨(l - 1).toNat, by omega, by omega⟩
    rw [show ((j : Int) + 1 - 1).toNat = j from by omega] at hw
    have eC : C = P1 ++ ((j : Int) + 1) :: (P2 ++ ((k : Int) + 1) :: Q) := by rw [e, eP]; simp
    have hjk : j ≠ k := fun q => by
      have a := nod_not (by rw [← e]; exact h.nod)
      exact a (by rw [eP, q]; simp)
    have hjm : j < m := by
      by_cases q : j < m
      · exact q
      · exfalso
        have a := h.ahead hk hj (by
          have a1 : ¬ (d k).n = (d j).n := by rw [h.num j hj, hn]; omega
          have a2 : (d k).s.s3 < (d j).n := by rw [h.num j hj]; omega
          unfold ldB
          simp [a1, a2, meet_of hr hw]) eC
        exact nod_not (by rw [← e]; exact h.nod) (by rw [eP]; exact List.mem_append_left _ a)
    rw [← h.num j hj]
    refine ver_at hw hjm fun i hji him => ?_
    by_cases q : writeB (d i).s key = true
    · exfalso
      have a := seen i him q
      rw [eP] at a
      rcases List.mem_append.1 a with b | b
      · obtain ⟨A, B, eA⟩ := List.append_of_mem b
        have c := h.ahead hj (by omega) (by
          have a1 : ¬ (d j).n = (d i).n := by rw [h.num j hj, h.num i (by omega)]; omega
          have a2 : (d j).n < (d i).n := by rw [h.num j hj, h.num i (by omega)]; omega
          unfold ldB
          simp [a1, a2, bw_of hw q]) (show C = A ++ ((i : Int) + 1) :: (B ++ ((j : Int) + 1) :: (P2 ++ ((k : Int) + 1) :: Q)) by rw [eC, eA]; simp)
        exact nod_not (by rw [← eC]; exact h.nod) (by rw [eA]; exact List.mem_append_left _ c)
      · rcases List.mem_cons.1 b with c | c
        · omega
        · have z := hno _ c
          rw [show ((i : Int) + 1 - 1).toNat = i from by omega, q] at z
          cases z
    · simpa using q
theorem Ord.raF {d : Nat → Dn} {n : Nat} {C : List Int} (h : Ord d n C) (key : Nat) : ∀ (Q P : List Int) (l : Int), C = P ++ Q → LastW d key P l → Go.Proofs.YtbkbnfgjkefcmaaGreat.raF d key Q l = true
  | [], _, _, _, _ => rfl
  | x :: t, P, l, e, hl => by
    unfold Go.Proofs.YtbkbnfgjkefcmaaGreat.raF
    rw [if_neg]
    · refine h.raF key t (P ++ [x]) _ (by rw [e]; simp) ?_
      by_cases q : writeB (d (x - 1).toNat).s key = true
      · rw [if_pos q]
        exact Or.inr ⟨P, [], rfl, q, fun y hy => by cases hy⟩
      · rw [if_neg q]
        have q' : writeB (d (x - 1).toNat).s key = false := by simpa using q
        rcases hl with ⟨a, b⟩ | ⟨P1, P2, a, b, c⟩
        · refine Or.inl ⟨a, fun y hy => ?_⟩
          rcases List.mem_append.1 hy with z | z
          · exact b y z
          · simp at z; rw [z]; exact q'
        · refine Or.inr ⟨P1, P2 ++ [x], by rw [a]; simp, b, fun y hy => ?_⟩
          rcases List.mem_append.1 hy with z | z
          · exact c y z
          · simp at z; rw [z]; exact q'
    · intro q
      rw [Bool.and_eq_true, decide_eq_true_eq] at q
      exact q.2 (h.ver e hl q.1)
theorem Ord.reads {d : Nat → Dn} {n : Nat} {C : List Int} (h : Ord d n C) (hr : rtB d n = true) (hl : C.length = n) : rdB d n C = true := by
  unfold rdB
  rw [hr, Bool.true_and, Bool.and_eq_true]
  constructor
  · unfold eoB
    rw [Bool.and_eq_true, decide_eq_true_eq, Bool.not_eq_true']
    refine ⟨hl, ?_⟩
    by_cases q : Fl.anyG (fun i => !hasN C (d i).n) n = true
    · obtain ⟨i, hi, e⟩ := anyG_iff.1 q
      rw [hasN_iff.2 (by rw [h.num i hi]; exact h.all i hi)] at e
      cases e
    · simpa using q
  · rw [Bool.not_eq_true']
    by_cases q : Fl.anyG (mrB d C) n = true
    · obtain ⟨i, hi, e⟩ := anyG_iff.1 q
      obtain ⟨j, hj, e⟩ := anyG_iff.1 e
      rw [h.raF _ C [] 0 rfl (Or.inl ⟨rfl, fun x hx => by cases hx⟩)] at e
      cases e
    · simpa using q
theorem nod_len : ∀ (n : Nat) (C : List Int), C.Nodup → (∀ x ∈ C, 1 ≤ x ∧ x ≤ n) → (∀ i : Nat, i < n → (i : Int) + 1 ∈ C) → C.length = n
  | 0, C, _, h, _ => by
    cases C with
    | nil => rfl
    | cons a t => have := h a (List.mem_cons_self ..); omega
  | n + 1, C, hn, h, ha => by
    have hm := ha n (by omega)
    have a := nod_len n (C.erase ((n : Int) + 1)) (hn.erase _) (fun x hx => by
      have b := (hn.mem_erase_iff).1 hx
      have := h x b.2
      have := b.1
      omega) (fun i hi => (hn.mem_erase_iff).2 ⟨by omega, ha i (by omega)⟩)
    rw [List.length_erase_of_mem hm] at a
    have : 0 < C.length := List.length_pos_of_mem hm
    omega
theorem rt_okU {d : Nat → Dn} {n : Nat} (h : rtB d n = true) : okU d n = true := by
  unfold rtB at h
  rw [Bool.and_eq_true] at h
  exact h.2
theorem cw_inv {d : Nat → Dn} {n : Nat} (h : rtB d n = true) : Inv (edU d n n) n (cwF d n).1 (cwF d n).2 := by
  have hn := okU_num (rt_okU h)
  have hE := edU_rng hn n (Nat.le_refl _)
  refine lineF_inv d (edU d n n) n hE (fun e he => ?_) hn _ _ _ (Inv.start _ n hE)
  obtain ⟨i, j, _, _, a, b⟩ := (edU_mem e).1 he
  rw [b]
  exact ldB_ne a
/-- What Order answers is an order. -/
theorem or_ord {d : Nat → Dn} {n : Nat} (h : orB d n = true) : Ord d n (orL d n) ∧ (orL d n).length = n := by
  have hh := h
  unfold orB at hh
  rw [Bool.and_eq_true, decide_eq_true_eq] at hh
  obtain ⟨hr, hs⟩ := hh
  have hn := okU_num (rt_okU hr)
  have hi := cw_inv hr
  have ha := hi.all (stk_none hs)
  have e : orL d n = (cwF d n).1 := by unfold orL; rw [if_pos h]
  rw [e]
  refine ⟨⟨hn, okU_snap (rt_okU hr), hi.nod, hi.rng, ha, fun i j hi' hj hl => ?_⟩, nod_len n _ hi.nod hi.rng ha⟩
  have := hi.edge ((d i).n, (d j).n) ((edU_mem _).2 ⟨i, j, hi', hj, hl, rfl⟩) (by rw [hn j hj]; exact ha j hj)
  rw [hn i hi', hn j hj] at this
  exact this
theorem or_reads {d : Nat → Dn} {n : Nat} (h : orB d n = true) : rdB d n (orL d n) = true := by
  obtain ⟨a, b⟩ := or_ord h
  refine a.reads ?_ b
  unfold orB at h
  rw [Bool.and_eq_true] at h
  exact h.1
end Go.Proofs.YtbkbnfgjkefcmaaGreat
namespace Go.Proofs.YtbkbnfgjkefcmaaGreat
open Go.RowKit Go.Lib
set_option linter.unusedVariables false
set_option linter.unusedSimpArgs false
set_option maxRecDepth 20000
theorem DRowL.old {w w' : World} {v : Value} {n : Nat} {d : Nat → Dn} (h : DRowL w v n d) (u : Old w w') : DRowL w' v n d := by
  obtain ⟨hm, p, c, e, h1, h2, hc⟩ := h
  exact ⟨hm, p, c, e, h1, h2, fun i hi => by obtain ⟨g, off, e2, h3, h4⟩ := hc i hi; exact ⟨g, off, e2, h3.old u, h4.old u⟩⟩
/-- A block of so many cells, whatever they hold. -/
def Blk (w : World) (g m : Nat) : Prop := ∃ A t, w.heap[g]? = some (.cells A t (0, 0)) ∧ m ≤ A.size
theorem Blk.cell {w : World} {g m : Nat} (h : Blk w g m) (i : Nat) (hi : i < m) : (∃ v, w.cell? ⟨g, i, none⟩ = some v) ∧ w.frozen? ⟨g, i, none⟩ = false := by
  obtain ⟨A, t, h, hm⟩ := h
  refine ⟨⟨A[i]'(by omega), ?_⟩, by simp [World.frozen?, h]⟩
  simp [World.cell?, h]
theorem Blk.set {w : World} {g m : Nat} (h : Blk w g m) (i : Nat) (x : Value) : Blk (w.setCell ⟨g, i, none⟩ x) g m := by
  obtain ⟨A, t, h, hm⟩ := h
  exact ⟨_, t, heap_setCell_same w g i _ _ x h, by simpa using hm⟩
theorem Blk.lt {w : World} {g m : Nat} (h : Blk w g m) : g < w.heap.size := by
  obtain ⟨A, t, h, hm⟩ := h
  exact lt_of_block h
theorem Blk.old {w w' : World} {g m : Nat} (h : Blk w g m) (u : Old w w') : Blk w' g m := by
  have l := h.lt
  obtain ⟨A, t, h, hm⟩ := h
  exact ⟨A, t, (u.block g l).trans h, hm⟩
theorem own_blk {base c : Nat} {t : TypeId} {w : World} {v : Value} {n : Nat} {xs : List Value} (h : w.ownsRow base t c v n xs) : ∃ p cap, v = .slice p n cap ∧ (n = 0 ∨ ∃ g, p = some ⟨g, 0, none⟩ ∧ base ≤ g ∧ Blk w g (n * c)) := by
  rcases h.2 with ⟨e1, e⟩ | ⟨g, cap, cur, rfl, hb, hg, hnc, hcm, hcs, htk⟩
  · exact ⟨none, 0, by rw [e1, e], Or.inl e⟩
  · exact ⟨_, cap, rfl, Or.inr ⟨g, rfl, hb, cur, t, hg, by rw [hcs]; exact Nat.mul_le_mul_right _ hnc⟩⟩
set_option maxHeartbeats 1000000 in
set_option maxRecDepth 20000 in
theorem few_any (v : Value) (n : Nat) (d : Nat → Dn) (w : World) (h : DRowL w v n d) :
    Calls Tryz.prog 8 #[v] w fun e w' => ∃ v' m, m ≤ 65 ∧ e = .returned v' ∧ DRow w v' m d ∧ w' = w := by
  have HL := hid h
  obtain ⟨hm, p, c, rfl, hnc, hcm, hc⟩ := h
  clear hc
  by_cases q : 65 < n
  · have HD := hid (HL.out.few 65 (by omega) (by omega))
    have l1 : (65 : Int) < (n : Int) := by omega
    have l2 : (65 : Int) ≤ (c : Int) := by omega
    clear HL
    go_enter Tryz.func8, Tryz.ntmps8
    go_wp2
    go_ret
    exact ⟨_, 65, by omega, rfl, HD.out, rfl⟩
  · have HD := hid (HL.out.few n (by omega) (by omega))
    have l1 : ¬ (65 : Int) < (n : Int) := by omega
    clear HL
    go_enter Tryz.func8, Tryz.ntmps8
    go_wp2
    go_ret
    exact ⟨_, n, by omega, rfl, HD.out, rfl⟩
end Go.Proofs.YtbkbnfgjkefcmaaGreat
