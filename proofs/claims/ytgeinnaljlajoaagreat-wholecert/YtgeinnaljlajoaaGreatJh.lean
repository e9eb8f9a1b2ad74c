/- serial.Reads at every history and order; conditions: the rows lie in memory. -/
import Derived.Test.YtgeinnaljlajoaaGreatCxS
namespace Go.Proofs.YtgeinnaljlajoaaGreat
open Go.RowKit Go.Lib
set_option linter.unusedVariables false
set_option linter.unusedSimpArgs false
set_option maxRecDepth 20000
theorem chk_parts {s1 s2 s3 : Int} {n1 n2 n3 : Nat} {x1 x3 : Nat → Nat} {f2 : Nat → Sp} (h : chkV s1 s2 s3 n1 n2 n3 x1 x3 f2 = 0) : misB s1 s2 s3 = false ∧ crowdB n1 n2 n3 = false ∧ (Fl.anyG (fun i => Fl.nan (x1 i)) n1 || Fl.anyG (fun i => Fl.nan (x3 i)) n3) = false ∧ Fl.anyG (fun i => Fl.csE (f2 i).a (f2 i).b (f2 i).p (f2 i).q) n2 = false ∧ ordF x1 n1 = true ∧ ordS f2 n2 = true ∧ ordF x3 n3 = true := by
 unfold chkV chkO at h
 cases h1 : misB s1 s2 s3
 ·rw [h1] at h
  cases h2 : crowdB n1 n2 n3
  ·rw [h2] at h
   cases h3 : (Fl.anyG (fun i => Fl.nan (x1 i)) n1 || Fl.anyG (fun i => Fl.nan (x3 i)) n3)
   ·rw [h3] at h
    cases h4 : Fl.anyG (fun i => Fl.csE (f2 i).a (f2 i).b (f2 i).p (f2 i).q) n2
    ·rw [h4] at h
     cases h5 : ordF x1 n1 <;> cases h6 : ordS f2 n2 <;> cases h7 : ordF x3 n3 <;> rw [h5, h6, h7] at h <;> simp at h ⊢
    ·rw [h4] at h; simp at h
   ·rw [h3] at h; simp at h
  ·rw [h2] at h; simp at h
 ·rw [h1] at h; simp at h
theorem mis_rng {s1 s2 s3 : Int} (h : misB s1 s2 s3 = false) : (1 ≤ s1 ∧ s1 ≤ 1099511627776) ∧ (1 ≤ s2 ∧ s2 ≤ 1099511627776) ∧ 0 ≤ s3 ∧ s3 ≤ 1099511627776 := by
 unfold misB outB at h
 simp at h
 omega
theorem crowd_rng {n1 n2 n3 : Nat} (h : crowdB n1 n2 n3 = false) : n1 ≤ 16 ∧ n2 ≤ 8 ∧ n3 ≤ 16 := by
 unfold crowdB at h
 simp at h
 omega
def NRow (w : World) (v : Value) (L : List Int) : Prop := L.length ≤ 1099511627776 ∧ ∃ (p : Option Addr) (c : Nat), v = .slice p L.length c ∧ ∀ i, i < L.length → ∃ g off, p = some ⟨g, off, none⟩ ∧ w.cell? ⟨g, off + i, none⟩ = some (.int .i64 (L.getD i 0))
theorem NRow.old {w w' : World} {v : Value} {L : List Int} (h : NRow w v L) (u : Old w w') : NRow w' v L := by
 obtain ⟨hm, p, c, e, hc⟩ := h
 exact ⟨hm, p, c, e, fun i hi => by obtain ⟨g, off, e2, h3⟩ := hc i hi; exact ⟨g, off, e2, u.keep h3⟩⟩
theorem OwnN.nrow {base : Nat} {w : World} {v : Value} {L : List Int} (h : OwnN base w v L) (hl : L.length ≤ 1000000) : NRow w v L := by
 by_cases hz : 0 < L.length
 ·obtain ⟨g, cap, e, _, _, hc⟩ := h.shape hz
  refine ⟨by omega, _, cap, e, fun i hi => ⟨g, 0, rfl, ?_⟩⟩
  rw [Nat.zero_add, hc i hi]
  simp [List.getD_eq_getElem?_getD, hi]
 ·obtain ⟨a, c, e⟩ := h.len
  exact ⟨by omega, a, c, e, fun i hi => by omega⟩
def hasN (L : List Int) (x : Int) : Bool := Fl.anyG (fun i => decide (x = L.getD i 0)) L.length
def eoB (d : Nat → Dn) (n : Nat) (L : List Int) : Bool := decide (L.length = n) && !Fl.anyG (fun i => !hasN L (d i).n) n
def ver (d : Nat → Dn) (key : Nat) : Nat → Int | 0 => 0 | i + 1 => if writeB (d i).s key = true then (d i).n else ver d key i
def raF (d : Nat → Dn) (key : Nat) : List Int → Int → Bool
 | [], _ => true
 | x :: t, last => if (readB (d (x - 1).toNat).s key && decide (ver d key (d (x - 1).toNat).s.s3.toNat ≠ last)) = true then false else raF d key t (if writeB (d (x - 1).toNat).s key = true then x else last)
theorem hasN_iff {L : List Int} {x : Int} : hasN L x = true ↔ x ∈ L := by
 unfold hasN
 rw [anyG_iff]
 constructor
 ·rintro ⟨i, hi, h⟩
  rw [decide_eq_true_eq] at h
  rw [h]
  have e : L.getD i 0 = L[i] := by simp [List.getD_eq_getElem?_getD, hi]
  rw [e]; exact List.getElem_mem hi
 ·intro h
  obtain ⟨i, hi, e⟩ := List.getElem_of_mem h
  exact ⟨i, hi, by rw [decide_eq_true_eq]; simp [List.getD_eq_getElem?_getD, hi, e]⟩
theorem pigeon : ∀ (n : Nat) (L : List Int), L.length = n → (∀ i, i < n → (i : Int) + 1 ∈ L) → ∀ x ∈ L, 1 ≤ x ∧ x ≤ n
 | 0, L, hl, _, x, hx => by
  have : L = [] := List.eq_nil_of_length_eq_zero hl
  subst this; cases hx
 | n + 1, L, hl, h, x, hx => by
  have hm := h n (by omega)
  have hl2 : (L.erase ((n : Int) + 1)).length = n := by rw [List.length_erase_of_mem hm]; omega
  have hq : ∀ i, i < n → (i : Int) + 1 ∈ L.erase ((n : Int) + 1) := fun i hi => (List.mem_erase_of_ne (by omega)).2 (h i (by omega))
  by_cases e : x = (n : Int) + 1
  ·omega
  ·have := pigeon n _ hl2 hq x ((List.mem_erase_of_ne e).2 hx)
   omega
theorem okU_snap {d : Nat → Dn} : ∀ {n : Nat}, okU d n = true → ∀ i, i < n → 0 ≤ (d i).s.s3 ∧ (d i).s.s3 < (d i).n
 | 0, _, i, hi => by omega
 | n + 1, h, i, hi => by
  have h' : (okU d n && okB d n) = true := h
  rw [Bool.and_eq_true] at h'
  by_cases e : i = n
  ·subst e
   have q := h'.2
   unfold okB at q
   rw [Bool.and_eq_true, Bool.and_eq_true, Bool.and_eq_true, decide_eq_true_eq, decide_eq_true_eq] at q
   have a := mis_rng (chk_parts q.2.1).1
   have b := q.2.2.1
   simp at b
   omega
  ·exact okU_snap h'.1 i (by omega)
theorem eoB_mem {d : Nat → Dn} {n : Nat} {L : List Int} (hr : rtB d n = true) (h : eoB d n L = true) : L.length = n ∧ ∀ x ∈ L, 1 ≤ x ∧ x ≤ n := by
 unfold eoB at h
 rw [Bool.and_eq_true, decide_eq_true_eq] at h
 unfold rtB at hr
 rw [Bool.and_eq_true] at hr
 refine ⟨h.1, pigeon n L h.1 fun i hi => ?_⟩
 have hn := okU_num hr.2 i hi
 have h2 := h.2
 rw [Bool.not_eq_true', ← Bool.not_eq_true, anyG_iff] at h2
 cases e : hasN L (d i).n
 ·exact absurd ⟨i, hi, by rw [e]; rfl⟩ h2
 ·rw [← hn]; exact hasN_iff.1 e
attribute [local go_sem] run_bits run_frombits run_store_float eqF
set_option maxHeartbeats 400000 in
theorem indexN (v : Value) (L : List Int) (x : Int) (w : World) (hv : NRow w v L) :
    Calls Tryz.prog 108 #[v, .int .i64 x] w fun e w' => ∃ r : Int, e = .returned (.int .i64 r) ∧ decide (0 ≤ r) = hasN L x ∧ Old w w' := by
 obtain ⟨hm, a, c, rfl, hc⟩ := hv
 have HC := hid hc
 have hmm : (L.length : Int) ≤ 1099511627776 := by omega
 unfold hasN
 generalize hg : (fun i => decide (x = L.getD i 0)) = g
 have HG := hid (fun i => congrFun hg i)
 generalize hn : L.length = n at *
 clear hc hm hg hn
 go_enter Tryz.func108, Tryz.ntmps108
 go_wp2
 go_loopw [8] (fun i wr => ∃ k : Nat, k ≤ n ∧ i = .int .i64 (k : Nat) ∧ Fl.anyG g k = false ∧ Old w wr) (fun i _ => n - (intOf i).toNat)
 case atStart => exact ⟨0, Nat.zero_le _, rfl, rfl, Old.refl _⟩
 case round =>
  obtain ⟨k, hk, rfl, h0, hu⟩ := hrel
  by_cases hlt : k < n
  ·obtain ⟨b, off, ha, c0⟩ := HC.out k hlt
   subst ha
   have x0 := hu.keep c0
   have l1 : (0 : Int) ≤ (k : Int) := by omega
   have l2 : (k : Int) < (n : Int) := by omega
   have H0 := hid h0
   have hgk := HG.out k
   clear c0 h0 HC
   generalize L.getD k 0 = y at *
   by_cases hxy : x = y
   ·have HT := hid (Fl.anyG_true g n k hlt (by rw [← hgk]; simp [hxy]))
    subst hxy
    have e0 : (x == x) = true := by simp
    clear hgk HG
    go_wp2
    go_ret
    exact ⟨_, rfl, by rw [HT.out]; simp, hu⟩
   ·have HS := hid (Fl.anyG_step g k H0.out (by rw [← hgk]; simp [hxy]))
    have e0 : (x == y) = false := by rw [beq_eq_false_iff_ne]; exact hxy
    clear hgk HG hxy
    go_wp2
    go_roundw
    case rel => exact ⟨k + 1, hlt, by go_num, HS.out, hu⟩
    case measure => simp [intOf]; omega
  ·obtain rfl : k = n := by omega
   have H0 := hid h0
   clear h0
   go_wp2
   go_ret
   exact ⟨_, rfl, by rw [H0.out]; rfl, hu⟩
set_option maxHeartbeats 400000 in
theorem containsN (v : Value) (L : List Int) (x : Int) (w : World) (hv : NRow w v L) :
    Calls Tryz.prog 77 #[v, .int .i64 x] w fun e w' => e = .returned (.bool (hasN L x)) ∧ Old w w' := by
 have HI := hid (indexN v L x w hv)
 clear hv
 go_enter Tryz.func77, Tryz.ntmps77
 go_wp2_with (go_at_call 108; refine HI.out.mono ?_; rintro o w5 ⟨r, rfl, hr, u5⟩; have HR := hid hr; clear hr)
 go_ret
 exact ⟨ret_b (by rw [← HR.out]), u5⟩
set_option maxHeartbeats 1000000 in
theorem index_eo (v : Value) (n : Nat) (d : Nat → Dn) (g : Nat → Bool) (tb : Nat) (w : World) (hv : DRow w v n d) (hf : ∀ i, i < n → ∀ W, Old w W → Calls Tryz.prog 76 #[.agg #[.int .i64 (d i).n, .int .i64 (d i).s.s1, .int .i64 (d i).s.s2, .int .i64 (d i).s.s3, .slice (d i).s.a1 (d i).s.n1 (d i).s.c1, .slice (d i).s.a2 (d i).s.n2 (d i).s.c2, .slice (d i).s.a3 (d i).s.n3 (d i).s.c3], .pointer (some ⟨tb, 0, none⟩)] W fun e w' => e = .returned (.bool (g i)) ∧ Old W w') :
    Calls Tryz.prog 75 #[v, .func (.func 76) #[] #[.pointer (some ⟨tb, 0, none⟩)]] w fun e w' => ∃ r : Int, e = .returned (.int .i64 r) ∧ decide (0 ≤ r) = Fl.anyG g n ∧ Old w w' := by
 obtain ⟨hm, a, c, rfl, hnc, hcm, hc⟩ := hv
 have HC := hid hc
 have HF := hid hf
 have hmm : (n : Int) ≤ 1099511627776 := by omega
 clear hc hf hm hcm hnc
 go_enter Tryz.func75, Tryz.ntmps75
 go_wp2
 go_loopw [8] (fun i wr => ∃ k : Nat, k ≤ n ∧ i = .int .i64 (k : Nat) ∧ Fl.anyG g k = false ∧ Old w wr) (fun i _ => n - (intOf i).toNat)
 case atStart => exact ⟨0, Nat.zero_le _, rfl, rfl, Old.refl _⟩
 case round =>
  obtain ⟨k, hk, rfl, h0, hu⟩ := hrel
  by_cases hlt : k < n
  ·obtain ⟨b, off, ha, c0, _⟩ := HC.out k hlt
   subst ha
   obtain ⟨x0, x1, x2, x3, x4, x5, x6⟩ := c0.old hu
   have HK := hid (HF.out k hlt)
   have l1 : (0 : Int) ≤ (k : Int) := by omega
   have l2 : (k : Int) < (n : Int) := by omega
   have H0 := hid h0
   clear c0 h0 HF HC
   generalize d k = X at *
   cases hg : g k
   ·rw [hg] at HK
    have HS := hid (Fl.anyG_step g k H0.out hg)
    clear hg
    go_wp2_with (go_at_call 76; refine (HK.out _ hu).mono ?_; rintro o w5 ⟨rfl, u5⟩)
    go_roundw
    case rel => exact ⟨k + 1, hlt, by go_num, HS.out, Old.trans hu u5⟩
    case measure => simp [intOf]; omega
   ·have HT := hid (Fl.anyG_true g n k hlt hg)
    rw [hg] at HK
    clear hg
    go_wp2_with (go_at_call 76; refine (HK.out _ hu).mono ?_; rintro o w5 ⟨rfl, u5⟩)
    go_ret
    exact ⟨_, rfl, by rw [HT.out]; simp, Old.trans hu u5⟩
  ·obtain rfl : k = n := by omega
   have H0 := hid h0
   clear h0
   go_wp2
   go_ret
   exact ⟨_, rfl, by rw [H0.out]; rfl, hu⟩
set_option maxHeartbeats 400000 in
theorem contains_eo (v : Value) (n : Nat) (d : Nat → Dn) (g : Nat → Bool) (tb : Nat) (w : World) (hv : DRow w v n d) (hf : ∀ i, i < n → ∀ W, Old w W → Calls Tryz.prog 76 #[.agg #[.int .i64 (d i).n, .int .i64 (d i).s.s1, .int .i64 (d i).s.s2, .int .i64 (d i).s.s3, .slice (d i).s.a1 (d i).s.n1 (d i).s.c1, .slice (d i).s.a2 (d i).s.n2 (d i).s.c2, .slice (d i).s.a3 (d i).s.n3 (d i).s.c3], .pointer (some ⟨tb, 0, none⟩)] W fun e w' => e = .returned (.bool (g i)) ∧ Old W w') :
    Calls Tryz.prog 41 #[v, .func (.func 76) #[] #[.pointer (some ⟨tb, 0, none⟩)]] w fun e w' => e = .returned (.bool (Fl.anyG g n)) ∧ Old w w' := by
 have HI := hid (index_eo v n d g tb w hv hf)
 clear hv hf
 go_enter Tryz.func41, Tryz.ntmps41
 go_wp2_with (go_at_call 75; refine HI.out.mono ?_; rintro o w5 ⟨r, rfl, hr, u5⟩; have HR := hid hr; clear hr)
 go_ret
 exact ⟨ret_b (by rw [← HR.out]), u5⟩
set_option maxHeartbeats 1000000 in
theorem eo1_any (b : Dn) (ob : Nat) (vo : Value) (L : List Int) (w : World) (ho : NRow w vo L) (h : w.cell? ⟨ob, 0, none⟩ = some vo) :
    Calls Tryz.prog 76 #[.agg #[.int .i64 b.n, .int .i64 b.s.s1, .int .i64 b.s.s2, .int .i64 b.s.s3, .slice b.s.a1 b.s.n1 b.s.c1, .slice b.s.a2 b.s.n2 b.s.c2, .slice b.s.a3 b.s.n3 b.s.c3], .pointer (some ⟨ob, 0, none⟩)] w fun e w' => e = .returned (.bool (!hasN L b.n)) ∧ Old w w' := by
 have HC := hid (fun (W : World) (u : Old w W) => containsN vo L b.n W (ho.old u))
 obtain ⟨hm, p, c, rfl, _⟩ := ho
 generalize hasN L b.n = r at *
 have HT := hid h
 clear h hm
 go_enter Tryz.func76, Tryz.ntmps76
 go_upto_region 1 with fail
 generalize hw1 : w.alloc (.cells #[.int .i64 b.n, .int .i64 b.s.s1, .int .i64 b.s.s2, .int .i64 b.s.s3, .slice b.s.a1 b.s.n1 b.s.c1, .slice b.s.a2 b.s.n2 b.s.c2, .slice b.s.a3 b.s.n3 b.s.c3] 44) = w1 at *
 obtain ⟨hb1, hu1⟩ := dn_new w b w1 hw1 _ rfl
 generalize w.heap.size = m at *
 have t0 := hu1.keep HT.out
 obtain ⟨u0, _⟩ := hb1
 have U1 := hid hu1
 clear hw1 hu1 HT
 go_wp2_with (go_at_call 77; refine (HC.out _ U1.out).mono ?_; rintro e w2 ⟨rfl, v2⟩; have V2 := hid (U1.out.trans v2); clear v2)
 go_ret
 exact ⟨rfl, V2.out⟩
set_option maxHeartbeats 1000000 in
theorem eachOnce_any (v vo : Value) (n : Nat) (d : Nat → Dn) (L : List Int) (w : World) (hv : DRow w v n d) (ho : NRow w vo L) :
    Calls Tryz.prog 42 #[v, vo] w fun e w' => e = .returned (.bool (eoB d n L)) ∧ Old w w' := by
 have hmf : ∀ (fn : Fn) (first cap : Array Value) (w : World), (Instr.makeFunc fn first cap).run Tryz.prog w = .ok (.func fn first cap) w := fun _ _ _ _ => rfl
 have HCo := hid (fun (W : World) (ob : Nat) (u : Old w W) (h : W.cell? ⟨ob, 0, none⟩ = some vo) => contains_eo v n d (fun i => !hasN L (d i).n) ob W (hv.old u) (fun i hi V k => eo1_any (d i) ob vo L V (ho.old (u.trans k)) (k.keep h)))
 have HR : Hid (eoB d n L = (decide (L.length = n) && !Fl.anyG (fun i => !hasN L (d i).n) n)) := rfl
 obtain ⟨hm, p, c, rfl, _, _, _⟩ := hv
 obtain ⟨hm2, p2, c2, rfl, _⟩ := ho
 generalize eoB d n L = r at *
 generalize Fl.anyG (fun i => !hasN L (d i).n) n = q at *
 generalize L.length = ll at *
 go_enter Tryz.func42, Tryz.ntmps42
 go_upto_region 1 with fail
 generalize hw1 : w.alloc (.cells #[.slice p2 ll c2] 45) = w1 at *
 have t0 : w1.cell? ⟨w.heap.size, 0, none⟩ = some (.slice p2 ll c2) := by rw [← hw1]; simp
 have U1 := hid (show Old w w1 from by rw [← hw1]; exact (Old.refl w).alloc _)
 have HC1 := hid (HCo.out w1 w.heap.size U1.out t0)
 generalize w.heap.size = m at *
 clear hw1 HCo
 by_cases hl : ll = n
 ·rw [decide_eq_true hl, Bool.true_and] at HR
  have e0 : ((ll : Int) == (n : Int)) = true := by rw [beq_iff_eq]; omega
  clear hl
  go_wp2_with (go_at_call 41; refine HC1.out.mono ?_; rintro e w2 ⟨rfl, v2⟩; have V2 := hid (U1.out.trans v2); clear v2)
  go_ret
  exact ⟨ret_b (by rw [HR.out]), V2.out⟩
 ·rw [decide_eq_false hl, Bool.false_and] at HR
  have e0 : ((ll : Int) == (n : Int)) = false := by rw [beq_eq_false_iff_ne]; omega
  go_wp2
  go_ret
  exact ⟨ret_b (by rw [HR.out]), U1.out⟩
set_option maxHeartbeats 2000000 in
theorem versions_any (v : Value) (n : Nat) (d : Nat → Dn) (key : Nat) (hk : Fl.W key) (hn : n ≤ 64) (w : World) (hv : DRow w v n d) :
    Calls Tryz.prog 78 #[v, .float .f64 key] w fun e w' => ∃ (g : Nat) (W : List Int), e = .returned (.slice (some ⟨g, 0, none⟩) (n + 1) (n + 1)) ∧ w.heap.size ≤ g ∧ WRow w' g W 2 ∧ W.length = n + 1 ∧ (∀ i, i ≤ n → W.getD i 0 = ver d key i) ∧ Old w w' := by
 obtain ⟨hm, p, c, rfl, hnc, hcm, hc⟩ := hv
 have HC := hid hc
 have l0 : (n : Int) ≤ 64 := by omega
 have hmk : ∀ W, (Instr.makeSlice 45 (.int .i64 ((n : Int) + 1)) (.int .i64 ((n : Int) + 1))).run Tryz.prog W = .ok (.slice (some ⟨W.heap.size, 0, none⟩) (n + 1) (n + 1)) (W.alloc (.cells (madeCells #[.int .i64 0] (n + 1)) 2)) := fun W => by
  have q := mkL (n + 1) (by omega) W
  rw [show (((n + 1 : Nat) : Int)) = (n : Int) + 1 from rfl] at q
  exact q
 clear hc hm hcm hnc
 go_enter Tryz.func78, Tryz.ntmps78
 go_upto_region 2 with fail
 clear hmk
 generalize hw1 : w.alloc (.cells (madeCells #[.int .i64 0] (n + 1)) 2) = w1 at *
 obtain ⟨hR, hU⟩ := WRow.new w (n + 1) 2 w1 hw1 _ rfl
 have R1 := hid hR
 have U1 := hid hU
 have HG := hid (Nat.le_refl w.heap.size)
 clear hw1 hR hU
 generalize hg : w.heap.size = g at *
 have HGW := hid hg
 clear hg HG
 go_wp2
 go_loopw [14] (fun i wr => ∃ (k : Nat) (W : List Int), k ≤ n ∧ i = .int .i64 (k : Nat) ∧ W.length = n + 1 ∧ (∀ i, i ≤ k → W.getD i 0 = ver d key i) ∧ WRow wr g W 2 ∧ Old w wr) (fun i _ => n - (intOf i).toNat)
 case atStart => exact ⟨0, _, Nat.zero_le _, rfl, List.length_replicate, (fun i hi => by (have e : i = 0 := by omega); subst e; simp [ver, List.getD_eq_getElem?_getD]), R1.out, U1.out⟩
 case round =>
  obtain ⟨k, W, hkn, rfl, hWl, hW, hR, hu⟩ := hrel
  have RR := hid hR
  have UU := hid hu
  have HW := hid hW
  have HWl := hid hWl
  clear hR hW hWl R1 U1
  by_cases hlt : k < n
  ·obtain ⟨gd, off, ha, c0, hs⟩ := HC.out k hlt
   subst ha
   obtain ⟨x0, x1, x2, x3, x4, x5, x6⟩ := c0.old hu
   have l1 : (0 : Int) ≤ (k : Int) := by omega
   have l2 : (k : Int) < (n : Int) := by omega
   have l3 : (k : Int) < (n : Int) + 1 := by omega
   have l4 : (k : Int) + 1 < (n : Int) + 1 := by omega
   have l5 : (0 : Int) ≤ (k : Int) + 1 := by omega
   have wk : IntKind.i64.wrap ((k : Int) + 1) = (k : Int) + 1 := wrap_small _ (by omega)
   have HWr := hid (fun (W' : World) (u : Old w W') => writes_any (d k).s key hk W' (hs.old u))
   have hWk := HW.out k (Nat.le_refl _)
   have HVs : Hid (ver d key (k + 1) = if writeB (d k).s key = true then (d k).n else ver d key k) := rfl
   clear c0 hs hu
   go_upto_region 5 with fail
   generalize hw2 : wr.alloc (.cells #[.int .i64 (d k).n, .int .i64 (d k).s.s1, .int .i64 (d k).s.s2, .int .i64 (d k).s.s3, .slice (d k).s.a1 (d k).s.n1 (d k).s.c1, .slice (d k).s.a2 (d k).s.n2 (d k).s.c2, .slice (d k).s.a3 (d k).s.n3 (d k).s.c3] 44) = w2 at *
   obtain ⟨hb2, hu2⟩ := dn_new wr (d k) w2 hw2 _ rfl
   have hltw := RR.out.lt
   generalize hmb : wr.heap.size = mb at *
   have gne : g ≠ mb := by omega
   have B2 := hid hb2
   have R2 := hid (RR.out.old hu2)
   have U2 := hid (UU.out.trans hu2)
   clear hw2 hb2 hu2 x0 x1 x2 x3 x4 x5 x6 RR UU hmb hltw
   obtain ⟨y0, _⟩ := R2.out.cell k (by have := HWl.out; omega)
   obtain ⟨z0, z1⟩ := R2.out.cell (k + 1) (by have := HWl.out; omega)
   rw [hWk] at y0
   generalize ver d key k = vk at *
   go_upto_region 6 with fail
   have R3 := hid (R2.out.set (k + 1) vk)
   have U3 := hid (U2.out.setCell (p := ⟨g, k + 1, none⟩) (by show w.heap.size ≤ g; have := HGW.out; omega) (.int .i64 vk))
   have B3 := hid (show DnBox mb (d k) (w2.setCell ⟨g, k + 1, none⟩ (.int .i64 vk)) from by
    have F : ∀ j, (w2.setCell ⟨g, k + 1, none⟩ (.int .i64 vk)).cell? ⟨mb, j, none⟩ = w2.cell? ⟨mb, j, none⟩ := fun j => World.cell?_setCell_other _ _ _ _ (fun q => gne (by cases q; rfl))
    have b := B2.out
    exact ⟨by rw [F]; exact b.1, by rw [F]; exact b.2.1, by rw [F]; exact b.2.2.1, by rw [F]; exact b.2.2.2.1, by rw [F]; exact b.2.2.2.2.1, by rw [F]; exact b.2.2.2.2.2.1, by rw [F]; exact b.2.2.2.2.2.2⟩)
   have HW3 := hid (show (∀ i, i ≤ k → (W.set (k + 1) vk).getD i 0 = ver d key i) ∧ (W.set (k + 1) vk).getD (k + 1) 0 = vk from ⟨fun i hi => by
    rw [List.getD_eq_getElem?_getD, List.getElem?_set_ne (by omega), ← List.getD_eq_getElem?_getD]; exact HW.out i hi, by
    rw [List.getD_eq_getElem?_getD, List.getElem?_set_self (by have := HWl.out; omega)]; rfl⟩)
   have HWl3 := hid (show (W.set (k + 1) vk).length = n + 1 by rw [List.length_set]; exact HWl.out)
   generalize hw3 : w2.setCell ⟨g, k + 1, none⟩ (.int .i64 vk) = w3 at *
   generalize W.set (k + 1) vk = W3 at *
   clear hw3 R2 U2 B2 y0 z0 z1 HW HWl
   obtain ⟨t0, t1, t2, t3, t4, t5, t6⟩ := B3.out
   cases hwb : writeB (d k).s key
   ·rw [hwb] at HWr HVs
    simp only [Bool.false_eq_true, if_false] at HVs
    clear hwb
    go_wp2_with (go_at_call 68; refine (HWr.out _ U3.out).mono ?_; rintro e w4 ⟨rfl, v4⟩; have U4 := hid (U3.out.trans v4); have R4 := hid (R3.out.old v4); clear v4)
    go_roundw
    case rel => exact ⟨k + 1, W3, hlt, by go_num, HWl3.out, fun i hi => by (by_cases e : i = k + 1); (subst e; rw [HW3.out.2, HVs.out]); exact HW3.out.1 i (by omega), R4.out, U4.out⟩
    case measure => simp [intOf]; omega
   ·rw [hwb] at HWr HVs
    simp only [if_true] at HVs
    clear hwb
    go_upto_region 7 with (go_at_call 68; refine (HWr.out _ U3.out).mono ?_; rintro e w4 ⟨rfl, v4⟩; have U4 := hid (U3.out.trans v4); have R4 := hid (R3.out.old v4); have B4 := hid (DnBox.old v4 B3.out); clear v4)
    clear t0 t1 t2 t3 t4 t5 t6
    obtain ⟨t0, _⟩ := B4.out
    obtain ⟨z0, z1⟩ := R4.out.cell (k + 1) (by have := HWl3.out; omega)
    go_wp2
    go_roundw
    case rel => exact ⟨k + 1, W3.set (k + 1) (d k).n, hlt, by go_num, by rw [List.length_set]; exact HWl3.out, fun i hi => by (by_cases e : i = k + 1); (subst e; rw [List.getD_eq_getElem?_getD, List.getElem?_set_self (by have := HWl3.out; omega), HVs.out]; rfl); (rw [List.getD_eq_getElem?_getD, List.getElem?_set_ne (by omega), ← List.getD_eq_getElem?_getD]; exact HW3.out.1 i (by omega)), R4.out.set (k + 1) _, U4.out.setCell (p := ⟨g, k + 1, none⟩) (by show w.heap.size ≤ g; have := HGW.out; omega) _⟩
    case measure => simp [intOf]; omega
  ·obtain rfl : k = n := by omega
   go_wp2
   go_ret
   exact ⟨g, W, rfl, by have := HGW.out; omega, RR.out, HWl.out, HW.out, UU.out⟩
end Go.Proofs.YtgeinnaljlajoaaGreat
