/- conf.Bytes at every configuration; conditions: the rows lie in memory. -/
import Derived.Test.YtcicefpcledmgaaV9
import Derived.Test.YtcicefpcledmgaaV6
namespace Go.Proofs.Ytcicefpcledmgaa
open Go.RowKit Go.Lib
set_option linter.unusedVariables false
set_option linter.unusedSimpArgs false
set_option maxRecDepth 20000
theorem heapLt {w : World} {g : Nat} {o : Obj} (h : w.heap[g]? = some o) : g < w.heap.size := by
  rcases Nat.lt_or_ge g w.heap.size with q | q
  · exact q
  · rw [Array.getElem?_eq_none q] at h; cases h
def p0 : Pk.PV := ⟨0, 0, 0, .slice none 0 0, 0, fun _ => 0, false⟩
def pN (z : Int) : Pk.PV := ⟨1, z, 0, .slice none 0 0, 0, fun _ => 0, false⟩
def pK (x : Nat) : Pk.PV := ⟨2, 0, x, .slice none 0 0, 0, fun _ => 0, false⟩
def gp (L : List Pk.PV) (i : Nat) : Pk.PV := (L[i]?).getD p0
theorem gp_get (L : List Pk.PV) (i : Nat) (h : i < L.length) : gp L i = L[i] := by simp [gp, h]
theorem vl_congr (n : Nat) (f g : Nat → Pk.PV) (h : ∀ i, i < n → f i = g i) : Pk.vl n f = Pk.vl n g := by
  unfold Pk.vl
  apply List.map_congr_left
  intro j hj
  have : j < n * 5 := by simpa using hj
  rw [h (j / 5) (by omega)]
theorem gp_app (L M : List Pk.PV) (i : Nat) (hi : i < L.length + M.length) : Pk.catP L.length (gp L) (gp M) i = gp (L ++ M) i := by
  unfold Pk.catP gp
  by_cases h : i < L.length
  · rw [if_pos h, List.getElem?_append_left h]
  · rw [if_neg h, List.getElem?_append_right (by omega)]
def OwnP (base : Nat) (w : World) (v : Value) (L : List Pk.PV) : Prop := Pk.OwnV base w v L.length (gp L)
theorem OwnP.of {base : Nat} {w : World} {v : Value} {n m : Nat} {f g : Nat → Pk.PV} {L M : List Pk.PV} (hn : n = L.length) (hm : m = M.length) (hf : ∀ i, i < n → f i = gp L i) (hg : ∀ i, i < m → g i = gp M i) (h : Pk.OwnV base w v (n + m) (Pk.catP n f g)) : OwnP base w v (L ++ M) := by
  subst hn hm
  unfold OwnP
  rw [List.length_append]
  have e := vl_congr (L.length + M.length) (Pk.catP L.length f g) (gp (L ++ M)) (fun i hi => by
    rw [← gp_app L M i hi]
    unfold Pk.catP
    by_cases q : i < L.length
    · rw [if_pos q, if_pos q, hf i q]
    · rw [if_neg q, if_neg q, hg _ (by omega)])
  unfold Pk.OwnV at h ⊢
  rw [e] at h
  exact h
theorem OwnP.old {base : Nat} {w w' : World} {v : Value} {L : List Pk.PV} (h : OwnP base w v L) (u : Old w w') : OwnP base w' v L := by
  unfold OwnP Pk.OwnV at *
  refine ⟨h.1, ?_⟩
  rcases h.2 with e | ⟨g, cap, cur, e, hb', hg, r⟩
  · exact .inl e
  · exact .inr ⟨g, cap, cur, e, hb', u.block hg, r⟩
theorem OwnP.len {base : Nat} {w : World} {v : Value} {L : List Pk.PV} (h : OwnP base w v L) : ∃ a c, v = .slice a L.length c := by
  obtain ⟨a, c, e, _⟩ := Pk.OwnV.shape h
  exact ⟨a, c, e⟩
theorem OwnP.mono {base b' : Nat} {w : World} {v : Value} {L : List Pk.PV} (h : OwnP base w v L) (hb : b' ≤ base) : OwnP b' w v L := by
  unfold OwnP Pk.OwnV at *
  refine ⟨h.1, ?_⟩
  rcases h.2 with e | ⟨g, cap, cur, e, hb', r⟩
  · exact .inl e
  · exact .inr ⟨g, cap, cur, e, by omega, r⟩
def Nice (p : Pk.PV) : Prop := (∃ z, p = pN z ∧ -9223372036854775808 ≤ z ∧ z ≤ 9223372036854775807) ∨ ∃ x, p = pK x ∧ Fl.W x
theorem Nice.in {p : Pk.PV} (h : Nice p) (w : World) : Pk.PV.In w p := by
  rcases h with ⟨z, rfl, h1, h2⟩ | ⟨x, rfl, hx⟩
  · exact ⟨by simp [pN], ⟨h1, h2⟩, by simp [pN], .inl ⟨rfl, none, 0, rfl, fun _ => rfl⟩⟩
  · exact ⟨by simp [pK], by simp [pK], hx, .inl ⟨rfl, none, 0, rfl, fun _ => rfl⟩⟩
theorem OwnP.vrow {base : Nat} {w : World} {v : Value} {L : List Pk.PV} (h : OwnP base w v L) (hN : ∀ p ∈ L, Nice p) : Pk.VRow w v L.length (gp L) := by
  have h2 := h
  unfold OwnP Pk.OwnV at h2
  rcases h2.2 with ⟨rfl, hn⟩ | ⟨g, cap, cur, rfl, hb, hg, hnc, hcm, hcs, htk⟩
  · left
    exact ⟨hn, none, 0, rfl, fun _ => rfl⟩
  · by_cases hz : L.length = 0
    · left
      exact ⟨hz, some ⟨g, 0, none⟩, cap, by rw [hz], fun e => by cases e⟩
    · right
      refine ⟨by omega, g, 0, cap, rfl, fun i hi => ?_, hnc, hcm⟩
      obtain ⟨a, c, e, hc⟩ := Pk.OwnV.shape h
      obtain ⟨b, off, e2, hA⟩ := hc i hi
      simp only [Value.slice.injEq] at e
      obtain ⟨rfl, _, _⟩ := e
      simp only [Option.some.injEq, Addr.mk.injEq] at e2
      obtain ⟨rfl, rfl, _⟩ := e2
      refine ⟨hA, (hN _ ?_).in w⟩
      rw [gp_get L i hi]
      exact List.getElem_mem hi
theorem row1P (w : World) (p : Pk.PV) (h : Pk.PV.In w p) (t : TypeId) (g : Nat) (hg : w.heap.size = g) : Pk.VRow (w.alloc (.cells #[.int .i64 p.k, .int .i64 p.n, .float .f64 p.x, p.b, .bool p.on] t)) (.slice (some ⟨g, 0, none⟩) 1 1) 1 (fun _ => p) := by
  subst hg
  have cc := fun j u (hj : (#[.int .i64 p.k, .int .i64 p.n, .float .f64 p.x, p.b, .bool p.on] : Array Value)[j]? = some u) => Pk.cell_new w #[.int .i64 p.k, .int .i64 p.n, .float .f64 p.x, p.b, .bool p.on] t (0, 0) j u hj
  refine .inr ⟨by omega, w.heap.size, 0, 1, rfl, fun i hi => ?_, by omega, by unfold maxLen; omega⟩
  obtain rfl : i = 0 := by omega
  exact ⟨⟨cc 0 _ rfl, cc 1 _ rfl, cc 2 _ rfl, cc 3 _ rfl, cc 4 _ rfl⟩, h.up ((Pk.Up.refl _).alloc _)⟩
theorem putL_gp (L : List Pk.PV) : Pk.putL Pk.encV (gp L) L.length = L.flatMap Pk.encV := by
  have : ∀ k, k ≤ L.length → Pk.putL Pk.encV (gp L) k = (L.take k).flatMap Pk.encV := by
    intro k
    induction k with
    | zero => intro _; rfl
    | succ k ih =>
      intro hk
      show Pk.putL Pk.encV (gp L) k ++ Pk.encV (gp L k) = _
      rw [ih (by omega), List.take_succ_eq_append_getElem (by omega), List.flatMap_append, gp_get L k (by omega)]
      simp
  rw [this _ (Nat.le_refl _), List.take_length]
theorem Nice.e0 {p : Pk.PV} (h : Nice p) : Pk.pvE p = 0 := by
  rcases h with ⟨z, rfl, _⟩ | ⟨x, rfl, _⟩
  · simp [Pk.pvE, pN]
  · simp [Pk.pvE, pK]
theorem firstE_gp (L : List Pk.PV) (h : ∀ p ∈ L, Nice p) : Pk.firstE (gp L) L.length = 0 := by
  have : ∀ k, k ≤ L.length → Pk.firstE (gp L) k = 0 := by
    intro k
    induction k with
    | zero => intro _; rfl
    | succ k ih =>
      intro hk
      show (if Pk.firstE (gp L) k = 0 then Pk.pvE (gp L k) else Pk.firstE (gp L) k) = 0
      rw [if_pos (ih (by omega)), gp_get L k (by omega)]
      exact (h _ (List.getElem_mem _)).e0
  exact this _ (Nat.le_refl _)
theorem OwnP.put {base : Nat} {w : World} {v : Value} {L : List Pk.PV} (h : OwnP base w v L) (hN : ∀ p ∈ L, Nice p) (hl : L.length ≤ 4194304) :
    Calls Try.prog 43 #[v] w fun e w' => ∃ v', e = .returned (.tuple #[v', .int .i64 0]) ∧ Pk.OwnL w.heap.size w' v' (L.flatMap Pk.encV) ∧ Old w w' := by
  obtain ⟨a, c, rfl, hc⟩ := Pk.OwnV.shape h
  refine (Pk.put_row a L.length c (gp L) hl w (fun i hi => ?_)).mono ?_
  · obtain ⟨b, off, e, hA⟩ := hc i hi
    refine ⟨b, off, e, hA, (hN _ ?_).in w⟩
    rw [gp_get L i hi]
    exact List.getElem_mem hi
  · rintro e w' ⟨v', L', rfl, o, h1, _, u⟩
    have h0 := firstE_gp L hN
    have hL := h1 h0
    rw [putL_gp] at hL
    subst hL
    rw [h0]
    exact ⟨v', rfl, o, u⟩
theorem Pk.OwnL.mono' {base b' : Nat} {w : World} {v : Value} {L : List Nat} (h : Pk.OwnL base w v L) (hb : b' ≤ base) : Pk.OwnL b' w v L := by
  refine ⟨⟨h.own.1, ?_⟩, h.lt⟩
  rcases h.own.2 with e | ⟨g, cap, cur, e, hb', r⟩
  · exact .inl e
  · exact .inr ⟨g, cap, cur, e, by omega, r⟩
/-- How many, and these. -/
def mkP (L : List Int) : List Pk.PV := pN (L.length : Nat) :: L.map pN
def encC (a b : List Int) : List Pk.PV := mkP a ++ mkP b
theorem mkP_len (L : List Int) : (mkP L).length = L.length + 1 := by simp [mkP]
def Small (L : List Int) : Prop := ∀ x ∈ L, -1000 ≤ x ∧ x ≤ 1000
theorem mkP_nice (L : List Int) (h : Small L) (hl : L.length ≤ 1000) : ∀ p ∈ mkP L, Nice p := by
  intro p hp
  rcases List.mem_cons.1 hp with rfl | hp
  · exact .inl ⟨_, rfl, by omega, by omega⟩
  · obtain ⟨x, hx, rfl⟩ := List.mem_map.1 hp
    have := h x hx
    exact .inl ⟨x, rfl, by omega, by omega⟩
theorem encC_nice (a b : List Int) (ha : Small a) (hb : Small b) (la : a.length ≤ 1000) (lb : b.length ≤ 1000) : ∀ p ∈ encC a b, Nice p := fun p hp => by
  rcases List.mem_append.1 hp with q | q
  · exact mkP_nice a ha la p q
  · exact mkP_nice b hb lb p q
/-- What Bytes makes of the first so many of both rows. -/
def preC (a b : List Int) : Nat → List Pk.PV | 0 => [] | 1 => mkP a | _ => mkP a ++ mkP b
def rowC (a b : List Int) : Nat → List Int | 0 => a | _ => b
theorem preC_step (a b : List Int) : ∀ k, k < 2 → preC a b (k + 1) = preC a b k ++ mkP (rowC a b k)
  | 0, _ => rfl
  | 1, _ => rfl
theorem lsI_mem (f : Nat → Int) : ∀ n i, i < n → f i ∈ lsI f n
  | 0, _, h => by omega
  | n + 1, i, h => by
    unfold lsI
    by_cases q : i < n
    · exact List.mem_append_left _ (lsI_mem f n i q)
    · obtain rfl : i = n := by omega
      simp
def bytesC (a b : List Int) : List Nat := (encC a b).flatMap Pk.encV
attribute [local go_sem] run_store_float
set_option maxHeartbeats 400000 in
set_option maxRecDepth 20000 in
theorem cnum_any (z : Int) (w : World) : Calls Try.prog 42 #[.int .i64 z] w fun e w' => e = .returned (.agg #[.int .i64 1, .int .i64 z, .float .f64 0, .slice none 0 0, .bool false]) ∧ Old w w' := by
  go_enter Try.func42, Try.ntmps42
  go_wp2
  exact bodyPost_ret (v := .agg #[.int .i64 1, .int .i64 z, .float .f64 0, .slice none 0 0, .bool false]) (by simp [results, Try.results42, go_sem]) rfl ⟨rfl, by repeat (first | exact Old.refl _ | refine Old.alloc ?_ _ | refine Old.setCell ?_ ?_ _ | exact Nat.le_refl _)⟩
set_option maxHeartbeats 2000000 in
set_option maxRecDepth 20000 in
theorem bytes_no (v1 v2 : Value) (n m : Nat) (f g : Nat → Int) (w : World) (h1 : NRowL w v1 n f) (h2 : NRowL w v2 m g) (hr : rightB n f m g = false) :
    Calls Try.prog 19 #[.agg #[v1, v2]] w fun e w' => e = .returned (.tuple #[.slice none 0 0, .int .i64 1]) ∧ Old w w' := by
  have HR := hid (fun (W : World) (u : Old w W) => right_any v1 v2 n m f g W (h1.old u) (h2.old u))
  rw [hr] at HR
  obtain ⟨_, p1, c1, rfl, _⟩ := h1
  obtain ⟨_, p2, c2, rfl, _⟩ := h2
  go_enter Try.func19, Try.ntmps19
  go_wp2_with (go_at_call 9; refine (HR.out _ ((Old.refl _).alloc _)).mono ?_; rintro e w1 ⟨rfl, o1⟩; have O1 := hid (((Old.refl w).alloc _).trans o1); clear o1)
  go_ret2
  exact ⟨rfl, O1.out⟩
set_option maxHeartbeats 8000000 in
set_option maxRecDepth 20000 in
theorem bytes_ok (v1 v2 : Value) (n m : Nat) (f g : Nat → Int) (w : World) (h1 : NRowL w v1 n f) (h2 : NRowL w v2 m g) (hr : rightB n f m g = true) (hn : n ≤ 7) (hm : m ≤ 7) (s1 : Small (lsI f n)) (s2 : Small (lsI g m)) :
    Calls Try.prog 19 #[.agg #[v1, v2]] w fun e w' => ∃ v', e = .returned (.tuple #[v', .int .i64 0]) ∧ Pk.OwnL w.heap.size w' v' (bytesC (lsI f n) (lsI g m)) ∧ Old w w' := by
  have HR := hid (fun (W : World) (u : Old w W) => right_any v1 v2 n m f g W (h1.old u) (h2.old u))
  rw [hr] at HR
  have HB1 := hid h1
  have HB2 := hid h2
  obtain ⟨_, p1, c1, rfl, _⟩ := h1
  obtain ⟨_, p2, c2, rfl, _⟩ := h2
  have HS1 := hid s1
  have HS2 := hid s2
  clear s1 s2
  go_enter Try.func19, Try.ntmps19
  go_upto_region 4 with (go_at_call 9; refine (HR.out _ ((Old.refl _).alloc _)).mono ?_; rintro e w1 ⟨rfl, o1⟩; have O1 := hid (((Old.refl w).alloc _).trans o1); have x0 : w1.cell? ⟨w.heap.size, 0, none⟩ = some (.slice p1 n c1) := o1.keep (by simp); have x1 : w1.cell? ⟨w.heap.size, 1, none⟩ = some (.slice p2 m c2) := o1.keep (by simp); clear o1)
  clear HR
  go_upto_region 5 with (fail)
  have B0 : (w1.alloc (.cells #[.slice p1 n c1, .slice p2 m c2] 22)).cell? ⟨w1.heap.size, 0, none⟩ = some (.slice p1 n c1) := by simp
  have B1 : (w1.alloc (.cells #[.slice p1 n c1, .slice p2 m c2] 22)).cell? ⟨w1.heap.size, 1, none⟩ = some (.slice p2 m c2) := by simp
  have O2 := hid (O1.out.alloc (.cells #[.slice p1 n c1, .slice p2 m c2] 22))
  generalize w1.alloc (.cells #[.slice p1 n c1, .slice p2 m c2] 22) = w2 at *
  generalize w1.heap.size = B at *
  have HROW := hid (show ∀ k : Nat, k < 2 → ∃ p q c h, w2.cell? ⟨B, k, none⟩ = some (.slice p q c) ∧ NRowL w2 (.slice p q c) q h ∧ q ≤ 7 ∧ lsI h q = rowC (lsI f n) (lsI g m) k ∧ Small (lsI h q) from fun k hk => by
    obtain rfl | rfl : k = 0 ∨ k = 1 := by omega
    · exact ⟨p1, n, c1, f, B0, HB1.out.old O2.out, hn, rfl, HS1.out⟩
    · exact ⟨p2, m, c2, g, B1, HB2.out.old O2.out, hm, rfl, HS2.out⟩)
  have HLn := hid (lsI_len f n)
  have HLm := hid (lsI_len g m)
  have HCN := hid (fun z W => cnum_any z W)
  generalize hLA : lsI f n = LA at *
  generalize hLB : lsI g m = LB at *
  have HLA := hid hLA
  have HLB := hid hLB
  clear hLA hLB
  clear B0 B1 O1 HB1 HB2 x0 x1
  go_loopw [4, 18] (fun o i wr => ∃ k : Nat, k ≤ 2 ∧ i = .int .i64 (k : Nat) ∧ OwnP w2.heap.size wr o (preC LA LB k) ∧ Old w2 wr) (fun _ i _ => 2 - (intOf i).toNat)
  case atStart => exact ⟨0, by omega, rfl, ⟨rfl, .inl ⟨rfl, rfl⟩⟩, Old.refl _⟩
  case round =>
    obtain ⟨k, hk, rfl, ho, hu⟩ := hrel
    have HU := hid hu
    have HO := hid ho
    clear hu ho
    by_cases hlt : k < 2
    · obtain ⟨p, q, c, h, y0, hrow, hq, hls, hsm⟩ := HROW.out k hlt
      have z0 := HU.out.keep y0
      have HW := hid hrow
      have HSm := hid hsm
      have HPS := hid (preC_step LA LB k hlt)
      have HPL := hid (show (preC LA LB k).length ≤ 20 from by
        obtain rfl | rfl : k = 0 ∨ k = 1 := by omega
        · simp [preC]
        · simp [preC, mkP_len, HLn.out]; omega)
      rw [← hls] at HPS
      clear y0 hrow hsm hls HROW
      have l1 : (0 : Int) ≤ (k : Int) := by omega
      have l2 : (k : Int) < 2 := by omega
      generalize hKl : preC LA LB k = KL at *
      clear hKl
      obtain ⟨hq8, p', c', e', hnc, hcm, hcells⟩ := HW.out
      cases e'
      have HC := hid hcells
      clear hcells
      generalize wr = wo at *
      go_upto_region 9 with (first | (go_at_call 42; refine (HCN.out _ _).mono ?_; rintro e w3 ⟨rfl, u3⟩; have U3 := hid u3; clear u3) | (at_builtin; refine Pk.wp_appV rfl (.tmp 22) (.tmp 26) rfl w2.heap.size _ _ KL.length 1 (gp KL) (fun _ => pN (q : Nat)) rfl rfl ((HO.out.old U3.out).old ((Old.refl _).alloc _)) (row1P _ (pN (q : Nat)) ((Nice.in (.inl ⟨_, rfl, by omega, by omega⟩)) _) _ _ rfl) (by have := HPL.out; omega) (by have := HU.out.size; have := U3.out.size; simp; omega) ?_; intro v8 w8 o8 g8; have O8 := hid (OwnP.of (L := KL) (M := [pN (q : Nat)]) rfl rfl (fun _ _ => rfl) (fun i hi => by have hi0 : i = 0 := (by simpa using hi); rw [hi0]; rfl) o8); have G8 := hid (((HU.out.trans U3.out).alloc _).below g8); clear o8 g8))
      clear U3 HO HU z0
      go_loopw [4, 30] (fun o i wr => ∃ j : Nat, j ≤ q ∧ i = .int .i64 (j : Nat) ∧ OwnP w2.heap.size wr o (KL ++ pN (q : Nat) :: (lsI h j).map pN) ∧ Old w2 wr) (fun _ i _ => q - (intOf i).toNat)
      case atStart => exact ⟨0, by omega, rfl, O8.out, G8.out⟩
      case round =>
        obtain ⟨j, hj, rfl, ho, hu⟩ := hrel
        have HU := hid hu
        have HO := hid ho
        clear hu ho O8 G8
        by_cases hlj : j < q
        · obtain ⟨b, off, ha, c0⟩ := HC.out j hlj
          subst ha
          have y0 := HU.out.keep c0
          have m1 : (0 : Int) ≤ (j : Int) := by omega
          have m2 : (j : Int) < (q : Int) := by omega
          clear c0
          have HS := hid (show KL ++ pN (q : Nat) :: (lsI h (j + 1)).map pN = (KL ++ pN (q : Nat) :: (lsI h j).map pN) ++ [pN (h j)] from by simp [lsI])
          have HL := hid (show (KL ++ pN (q : Nat) :: (lsI h j).map pN).length ≤ 30 from by have := HPL.out; simp [lsI_len]; omega)
          have HX := hid (HSm.out (h j) (lsI_mem h q j hlj))
          have HNi := hid (show Nice (pN (h j)) from .inl ⟨_, rfl, by have := HX.out; omega, by have := HX.out; omega⟩)
          generalize h j = xk at *
          generalize hKj : KL ++ pN (q : Nat) :: (lsI h j).map pN = KJ at *
          clear hKj
          go_wp2_with (first | (go_at_call 42; refine (HCN.out _ _).mono ?_; rintro e w3 ⟨rfl, u3⟩; have U3 := hid u3; clear u3) | (at_builtin; refine Pk.wp_appV rfl (.tmp 34) (.tmp 37) rfl w2.heap.size _ _ KJ.length 1 (gp KJ) (fun _ => pN xk) rfl rfl ((HO.out.old U3.out).old ((Old.refl _).alloc _)) (row1P _ (pN xk) (HNi.out.in _) _ _ rfl) (by have := HL.out; omega) (by have := HU.out.size; have := U3.out.size; simp; omega) ?_; intro v8 w8 o8 g8; have O8 := hid (OwnP.of (L := KJ) (M := [pN xk]) rfl rfl (fun _ _ => rfl) (fun i hi => by have hi0 : i = 0 := (by simpa using hi); rw [hi0]; rfl) o8); have G8 := hid (((HU.out.trans U3.out).alloc _).below g8); clear o8 g8))
          go_roundw
          case rel => exact ⟨j + 1, hlj, by go_num, by rw [HS.out]; exact O8.out, G8.out⟩
          case measure => simp [intOf]; omega
        · obtain rfl : j = q := by omega
          go_wp2
          go_roundw
          case rel => exact ⟨k + 1, by omega, by go_num, by rw [HPS.out, mkP, lsI_len]; exact HO.out, HU.out⟩
          case measure => simp [intOf]; omega
    · obtain rfl : k = 2 := by omega
      have HP := hid (HO.out.put (encC_nice LA LB HS1.out HS2.out (by rw [HLn.out]; omega) (by rw [HLm.out]; omega)) (show (preC LA LB 2).length ≤ 4194304 from by simp [preC, mkP_len, HLn.out, HLm.out]; omega))
      go_wp2_with (go_at_call 43; refine HP.out.mono ?_; rintro e w9 ⟨v9, rfl, o9, u9⟩; have O9 := hid o9; have U9 := hid u9; clear o9 u9)
      go_ret2
      rw [HLA.out, HLB.out]
      exact ⟨_, rfl, O9.out.mono' (O2.out.trans HU.out).size, (O2.out.trans HU.out).trans U9.out⟩
theorem riK_small (f : Nat → Int) (n : Nat) (h : riK f n = true) : Small (lsI f n) := by
  have q := riK_spec f n h
  intro x hx
  obtain ⟨i, hi, rfl⟩ : ∃ i, i < n ∧ f i = x := by
    obtain ⟨i, hi, e⟩ := List.mem_iff_getElem.1 hx
    rw [lsI_len] at hi
    refine ⟨i, hi, ?_⟩
    have := lsI_get f n i hi
    rw [List.getD_eq_getElem?_getD, List.getElem?_eq_getElem (by rw [lsI_len]; exact hi)] at this
    rw [← this, ← e]
    rfl
  have := q.1 i hi
  omega
theorem rightB_parts {n m : Nat} {f g : Nat → Int} (h : rightB n f m g = true) : 0 < n ∧ riK f n = true ∧ riK g m = true ∧ anyK (fun i => hasK g (f i) m) n = false := by
  unfold rightB at h
  simp only [Bool.and_eq_true, decide_eq_true_eq, Bool.not_eq_true'] at h
  exact h
theorem bytes_any (v1 v2 : Value) (n m : Nat) (f g : Nat → Int) (w : World) (h1 : NRowL w v1 n f) (h2 : NRowL w v2 m g) (hr : rightB n f m g = true) :
    Calls Try.prog 19 #[.agg #[v1, v2]] w fun e w' => ∃ v', e = .returned (.tuple #[v', .int .i64 0]) ∧ Pk.OwnL w.heap.size w' v' (bytesC (lsI f n) (lsI g m)) ∧ Old w w' := by
  obtain ⟨_, a, b, _⟩ := rightB_parts hr
  exact bytes_ok v1 v2 n m f g w h1 h2 hr (riK_few f n a) (riK_few g m b) (riK_small f n a) (riK_small g m b)
end Go.Proofs.Ytcicefpcledmgaa
