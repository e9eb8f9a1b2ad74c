/- The document's Reads (layer 12) at every right history and order; conditions: the rows lie in memory. -/
import Derived.Test.YtbkbnfgjkefcmaaGreatTQ
import Derived.Test.YtbkbnfgjkefcmaaGreatTH
namespace Go.Proofs.YtbkbnfgjkefcmaaGreat
open Go.RowKit Go.Lib
set_option linter.unusedVariables false
set_option linter.unusedSimpArgs false
set_option maxRecDepth 20000
/-- Who has written a key last, of the first so many of an order. -/
def rlF (d : Nat → Dn) (key : Nat) (L : List Int) : Nat → Int | 0 => 0 | i + 1 => if writeB (d (L.getD i 0 - 1).toNat).s key = true then L.getD i 0 else rlF d key L i
/-- Is a key read otherwise by the one at a place of an order? -/
def rbB (d : Nat → Dn) (n : Nat) (L : List Int) (K : List Nat) (i t : Nat) : Bool := readB (d (L.getD i 0 - 1).toNat).s (K.getD t 0) && !decide (rlF d (K.getD t 0) L i = rvF d (K.getD t 0) (d (L.getD i 0 - 1).toNat).s.s3 n)
theorem raF_from {d : Nat → Dn} {key : Nat} {L : List Int} : ∀ (m k : Nat), k + m = L.length → (raF d key (L.drop k) (rlF d key L k) = true ↔ ∀ i, k ≤ i → i < L.length → (readB (d (L.getD i 0 - 1).toNat).s key && decide (ver d key (d (L.getD i 0 - 1).toNat).s.s3.toNat ≠ rlF d key L i)) = false)
  | 0, k, h => by
    rw [List.drop_eq_nil_of_le (by omega)]
    exact ⟨fun _ i h1 h2 => by omega, fun _ => rfl⟩
  | m + 1, k, h => by
    have e : L.drop k = L.getD k 0 :: L.drop (k + 1) := drop_get L k (by omega)
    rw [e]
    show (if (readB (d (L.getD k 0 - 1).toNat).s key && decide (ver d key (d (L.getD k 0 - 1).toNat).s.s3.toNat ≠ rlF d key L k)) = true then false else raF d key (L.drop (k + 1)) (rlF d key L (k + 1))) = true ↔ _
    by_cases q : (readB (d (L.getD k 0 - 1).toNat).s key && decide (ver d key (d (L.getD k 0 - 1).toNat).s.s3.toNat ≠ rlF d key L k)) = true
    · rw [if_pos q]
      constructor
      · intro z; cases z
      · intro z
        have := z k (Nat.le_refl _) (by omega)
        rw [q] at this
        cases this
    · rw [if_neg q, raF_from m (k + 1) (by omega)]
      constructor
      · intro z i h1 h2
        by_cases e : i = k
        · subst e; simpa using q
        · exact z i (by omega) h2
      · intro z i h1 h2
        exact z i (by omega) h2
theorem rd_doc {d : Nat → Dn} {n : Nat} {L : List Int} (hr : rtB d n = true) (he : eoB d n L = true) : rdB d n L = true ↔ ∀ i, i < L.length → Fl.anyG (rbB d n L (kyU d n) i) (kyU d n).length = false := by
  have hn := okU_num (rt_okU hr)
  have hs := okU_snap (rt_okU hr)
  have hm := eoB_mem hr he
  unfold rdB
  rw [hr, he, Bool.true_and, Bool.true_and, Bool.not_eq_true']
  have key : ∀ k : Nat, raF d k L 0 = true ↔ ∀ i, i < L.length → (readB (d (L.getD i 0 - 1).toNat).s k && !decide (rlF d k L i = rvF d k (d (L.getD i 0 - 1).toNat).s.s3 n)) = false := fun k => by
    have a := raF_from (d := d) (key := k) (L := L) L.length 0 (by omega)
    rw [List.drop_zero] at a
    rw [show raF d k L 0 = raF d k L (rlF d k L 0) from rfl, a]
    constructor
    · intro z i hi
      have q := z i (Nat.zero_le _) hi
      have hx := hm.2 _ (mem_getN L i hi)
      obtain ⟨x, hx2⟩ : ∃ x : Nat, (L.getD i 0 - 1).toNat = x ∧ x < n := ⟨_, rfl, by omega⟩
      rw [hx2.1] at q ⊢
      have s := hs x hx2.2
      have e := hn x hx2.2
      have v := rvF_ver (d := d) (key := k) (m := (d x).s.s3.toNat) hn (by omega)
      rw [show (((d x).s.s3.toNat : Nat) : Int) = (d x).s.s3 by omega] at v
      rw [v]
      rw [← q]
      congr 1
      by_cases e : ver d k (d x).s.s3.toNat = rlF d k L i
      · simp [e]
      · simp [e, Ne.symm e]
    · intro z i _ hi
      have q := z i hi
      have hx := hm.2 _ (mem_getN L i hi)
      obtain ⟨x, hx2⟩ : ∃ x : Nat, (L.getD i 0 - 1).toNat = x ∧ x < n := ⟨_, rfl, by omega⟩
      rw [hx2.1] at q ⊢
      have s := hs x hx2.2
      have e := hn x hx2.2
      have v := rvF_ver (d := d) (key := k) (m := (d x).s.s3.toNat) hn (by omega)
      rw [show (((d x).s.s3.toNat : Nat) : Int) = (d x).s.s3 by omega] at v
      rw [v] at q
      rw [← q]
      congr 1
      by_cases e : ver d k (d x).s.s3.toNat = rlF d k L i
      · simp [e]
      · simp [e, Ne.symm e]
  constructor
  · intro z i hi
    cases e : Fl.anyG (rbB d n L (kyU d n) i) (kyU d n).length
    · rfl
    · exfalso
      obtain ⟨t, ht, e2⟩ := anyG_iff.1 e
      have em : (kyU d n).getD t 0 ∈ kyU d n := by
        have : (kyU d n).getD t 0 = (kyU d n)[t] := by simp [List.getD_eq_getElem?_getD, ht]
        rw [this]
        exact List.getElem_mem ht
      obtain ⟨x, j, hx, hj, ex⟩ := kyU_mem.1 em
      have h1 : mrB d L x = false := by
        cases q : mrB d L x
        · rfl
        · have := Fl.anyG_true (mrB d L) n x hx q
          rw [z] at this
          cases this
      have h2 : raF d ((d x).s.x3 j) L 0 = true := by
        cases q : raF d ((d x).s.x3 j) L 0
        · have := Fl.anyG_true (fun j => !raF d ((d x).s.x3 j) L 0) (d x).s.n3 j hj (by rw [q]; rfl)
          unfold mrB at h1
          rw [h1] at this
          cases this
        · rfl
      have h3 := (key _).1 h2 i hi
      unfold rbB at e2
      rw [ex, h3] at e2
      cases e2
  · intro z
    cases e : Fl.anyG (mrB d L) n
    · rfl
    · exfalso
      obtain ⟨x, hx, e2⟩ := anyG_iff.1 e
      obtain ⟨j, hj, e3⟩ := anyG_iff.1 e2
      have em : (d x).s.x3 j ∈ kyU d n := kyU_mem.2 ⟨x, j, hx, hj, rfl⟩
      obtain ⟨t, ht, e4⟩ := List.getElem_of_mem em
      have e5 : (kyU d n).getD t 0 = (d x).s.x3 j := by rw [← e4]; simp [List.getD_eq_getElem?_getD, ht]
      have : raF d ((d x).s.x3 j) L 0 = true := (key _).2 fun i hi => by
        cases q : (readB (d (L.getD i 0 - 1).toNat).s ((d x).s.x3 j) && !decide (rlF d ((d x).s.x3 j) L i = rvF d ((d x).s.x3 j) (d (L.getD i 0 - 1).toNat).s.s3 n))
        · rfl
        · have a := Fl.anyG_true (rbB d n L (kyU d n) i) (kyU d n).length t ht (by unfold rbB; rw [e5]; exact q)
          rw [z i hi] at a
          cases a
      rw [this] at e3
      cases e3
/-- A variable of a transaction, and a key of a row. -/
abbrev KB1 (m : Nat) (a : Dn) (gk t X : Nat) (w : World) : Prop := (w.cell? ⟨m, 0, none⟩ = some (.int .i64 a.n) ∧ w.cell? ⟨m, 1, none⟩ = some (.int .i64 a.s.s1) ∧ w.cell? ⟨m, 2, none⟩ = some (.int .i64 a.s.s2) ∧ w.cell? ⟨m, 3, none⟩ = some (.int .i64 a.s.s3) ∧ w.cell? ⟨m, 4, none⟩ = some (.slice a.s.a1 a.s.n1 a.s.c1) ∧ w.cell? ⟨m, 5, none⟩ = some (.slice a.s.a2 a.s.n2 a.s.c2) ∧ w.cell? ⟨m, 6, none⟩ = some (.slice a.s.a3 a.s.n3 a.s.c3)) ∧ w.cell? ⟨gk, t, none⟩ = some (.float .f64 X)
theorem KB1.old {m : Nat} {a : Dn} {gk t X : Nat} {w w' : World} (u : Old w w') (h : KB1 m a gk t X w) : KB1 m a gk t X w' := ⟨DnBox.old u h.1, u.keep h.2⟩
/-- A place of a row of transactions, a number of an order, a key of a row. -/
abbrev KB2 (g o : Nat) (a : Dn) (go oo m : Nat) (y : Int) (gk t X : Nat) (w : World) : Prop := (w.cell? ⟨g, o, none⟩ = some (.int .i64 a.n) ∧ w.cell? ⟨g, o + 1, none⟩ = some (.int .i64 a.s.s1) ∧ w.cell? ⟨g, o + 2, none⟩ = some (.int .i64 a.s.s2) ∧ w.cell? ⟨g, o + 3, none⟩ = some (.int .i64 a.s.s3) ∧ w.cell? ⟨g, o + 4, none⟩ = some (.slice a.s.a1 a.s.n1 a.s.c1) ∧ w.cell? ⟨g, o + 5, none⟩ = some (.slice a.s.a2 a.s.n2 a.s.c2) ∧ w.cell? ⟨g, o + 6, none⟩ = some (.slice a.s.a3 a.s.n3 a.s.c3)) ∧ w.cell? ⟨go, oo + m, none⟩ = some (.int .i64 y) ∧ w.cell? ⟨gk, t, none⟩ = some (.float .f64 X)
theorem KB2.old {g o : Nat} {a : Dn} {go oo m : Nat} {y : Int} {gk t X : Nat} {w w' : World} (u : Old w w') (h : KB2 g o a go oo m y gk t X w) : KB2 g o a go oo m y gk t X w' := ⟨DnIn.old h.1 u, u.keep h.2.1, u.keep h.2.2⟩
attribute [local go_sem] run_bits run_frombits run_store_float eqF
set_option maxHeartbeats 8000000 in
set_option maxRecDepth 20000 in
theorem rreadsH_any (v vo : Value) (n : Nat) (d : Nat → Dn) (L : List Int) (w : World) (hv : DRow w v n d) (ho : NRow w vo L) (hr : rtB d n = true) : Calls Tryz.prog 18 #[v, vo] w fun e w' => e = .returned (.bool (rdB d n L)) ∧ Old w w' := by
  have hn64 := rtB_64 hr
  have h1B := okU_iff.1 (rt_okU hr)
  have h16 : ∀ i, i < n → (d i).s.n3 ≤ 16 := fun i hi => o1_16 (by have q := h1B i hi; rw [okB_o1, Bool.and_eq_true] at q; exact q.1)
  have HKk := hid (fun (W : World) (u : Old w W) => rkeys_any v n d W (hv.old u) hn64 h16)
  have HLn := hid (kyU_len (d := d) (n := n) h16)
  have HHas := hid (fun (W : World) (u : Old w W) (x : Int) => rhasN_any vo L x W (ho.old u))
  have HVe := hid (fun (W : World) (u : Old w W) (k : Nat) (hk : Fl.W k) (s : Int) => rversion_any v n d k s hk W (hv.old u))
  have HDoc := hid (fun he => rd_doc (L := L) hr he)
  have HMem := hid (fun he => eoB_mem (L := L) hr he)
  have HEo : Hid (eoB d n L = (decide (L.length = n) && !Fl.anyG (fun i => !hasN L (d i).n) n)) := hid rfl
  have HRd : Hid (rdB d n L = (rtB d n && (eoB d n L && !Fl.anyG (mrB d L) n))) := hid rfl
  obtain ⟨hm, p, c, rfl, hnc, hcm, hc⟩ := hv
  obtain ⟨hm2, p2, c2, rfl, hc2⟩ := ho
  have HC := hid hc
  have HC2 := hid hc2
  have l0 : (n : Int) ≤ 64 := by omega
  have lL : (L.length : Int) ≤ 1099511627776 := by omega
  have HWk := hid (show ∀ t, t < (kyU d n).length → Fl.W ((kyU d n).getD t 0) from fun t ht => by
    have e : (kyU d n).getD t 0 = (kyU d n)[t] := by simp [List.getD_eq_getElem?_getD, ht]
    rw [e]
    obtain ⟨i, j, hi, hj, e2⟩ := kyU_mem.1 (List.getElem_mem ht)
    rw [e2]
    obtain ⟨_, _, _, _, hs⟩ := hc i hi
    exact hs.h3.ws j hj)
  clear hc hc2 hm hm2 hnc hcm hr h16 h1B
  generalize rdB d n L = rd at *
  by_cases hl : L.length = n
  · have HEl := hid (show eoB d n L = !Fl.anyG (fun i => !hasN L (d i).n) n from by rw [HEo.out, decide_eq_true hl, Bool.true_and])
    have HLL := hid hl
    rw [hl] at HC2 HDoc HHas
    rw [hl]
    clear hl HEo lL
    generalize eoB d n L = eo at *
    go_enter Tryz.func18, Tryz.ntmps18
    go_wp2
    go_loopw [5] (fun i wr => ∃ k : Nat, k ≤ n ∧ i = .int .i64 (k : Nat) ∧ Fl.anyG (fun i => !hasN L (d i).n) k = false ∧ Old w wr) (fun i _ => n - (intOf i).toNat)
    case atStart => exact ⟨0, Nat.zero_le _, rfl, rfl, Old.refl _⟩
    case round =>
      obtain ⟨k, hk, rfl, h0, hu⟩ := hrel
      have U := hid hu
      have H0 := hid h0
      clear h0
      by_cases hlt : k < n
      · obtain ⟨g, off, ha, c0, hs⟩ := HC.out k hlt
        subst ha
        obtain ⟨x0, x1, x2, x3, x4, x5, x6⟩ := c0.old hu
        have l1 : (0 : Int) ≤ (k : Int) := by omega
        have l2 : (k : Int) < (n : Int) := by omega
        have HH1 := hid (HHas.out wr U.out (d k).n)
        have HSt := hid (fun q => Fl.anyG_step (fun i => !hasN L (d i).n) k H0.out q)
        have HTr := hid (fun q => Fl.anyG_true (fun i => !hasN L (d i).n) n k hlt q)
        clear c0 hs hu HC HC2 HHas H0 HKk HVe HDoc HMem HWk
        generalize hasN L (d k).n = q at *
        cases q
        · have HF := hid (show rd = false from by rw [HRd.out, HEl.out, HTr.out rfl]; simp)
          clear HSt HTr
          go_wp2_with (go_at_call 31; refine HH1.out.mono ?_; rintro e w3 ⟨rfl, v3⟩; have V3 := hid (U.out.trans v3); clear v3)
          go_ret
          exact ⟨ret_b (by rw [HF.out]), V3.out⟩
        · have HS := hid (HSt.out rfl)
          clear HSt HTr
          go_wp2_with (go_at_call 31; refine HH1.out.mono ?_; rintro e w3 ⟨rfl, v3⟩; have V3 := hid (U.out.trans v3); clear v3)
          go_roundw
          case rel => exact ⟨k + 1, hlt, by go_num, HS.out, V3.out⟩
          case measure => simp [intOf]; omega
      · obtain rfl : n = k := by omega
        have HE1 := hid (show eo = true from by rw [HEl.out, H0.out]; rfl)
        have HIff := hid (HDoc.out HE1.out)
        have HNum := hid (show ∀ i, i < n → 1 ≤ L.getD i 0 ∧ L.getD i 0 ≤ n from fun i hi => (HMem.out HE1.out).2 _ (mem_getN L i (by have := HLL.out; omega)))
        clear HDoc HMem HEl H0 HHas hu hlt HRd
        generalize kyU d n = K at *
        go_upto_region 9 with (go_at_call 21; refine (HKk.out _ U.out).mono ?_; rintro e wk ⟨vk, rfl, ok, uk⟩; obtain ⟨pk, ck, ek, hck⟩ := ok.cells; subst ek; have HCk := hid hck; have UK := hid (U.out.trans uk); clear ok hck uk)
        have lkn := HLn.out
        have lk0 : (K.length : Int) ≤ 1024 := by omega
        clear lkn HKk U
        generalize hKL : K.length = KL at *
        have HKL := hid hKL
        clear hKL
        go_wp2
        go_loopw [7] (fun i wr => ∃ k : Nat, k ≤ n ∧ i = .int .i64 (k : Nat) ∧ (∀ i, i < k → Fl.anyG (rbB d n L K i) KL = false) ∧ Old wk wr) (fun i _ => n - (intOf i).toNat)
        case atStart => exact ⟨0, Nat.zero_le _, rfl, fun i hi => by omega, Old.refl _⟩
        case round =>
          obtain ⟨i, hi, rfl, h0, hu⟩ := hrel
          have HI := hid h0
          have U := hid hu
          clear h0
          by_cases hit : i < n
          · have hx := HNum.out i hit
            obtain ⟨x, ex⟩ : ∃ x : Nat, L.getD i 0 = (x : Int) + 1 := ⟨(L.getD i 0 - 1).toNat, by omega⟩
            have xn : x < n := by omega
            obtain ⟨go, oo, hao, co⟩ := HC2.out i hit
            subst hao
            have xo := (UK.out.trans hu).keep co
            rw [ex] at xo
            obtain ⟨g, off, ha, c0, hs⟩ := HC.out x xn
            subst ha
            obtain ⟨x0, x1, x2, x3, x4, x5, x6⟩ := c0.old (UK.out.trans hu)
            have l1 : (0 : Int) ≤ (i : Int) := by omega
            have l2 : (i : Int) < (n : Int) := by omega
            have l3 : (0 : Int) ≤ (x : Int) := by omega
            have l4 : (x : Int) < (n : Int) := by omega
            have HSi := hid (show Fl.anyG (rbB d n L K i) KL = false → ∀ i', i' < i + 1 → Fl.anyG (rbB d n L K i') KL = false from fun h i' hi' => by by_cases e : i' = i; exact e ▸ h; exact HI.out i' (by omega))
            have HNo := hid (show Fl.anyG (rbB d n L K i) KL = true → rd = false from fun h => by cases e : rd; rfl; (have q := HIff.out.1 e i hit; rw [h] at q; cases q))
            have HBad := hid (show ∀ t, rbB d n L K i t = (readB (d x).s (K.getD t 0) && !decide (rlF d (K.getD t 0) L i = rvF d (K.getD t 0) (d x).s.s3 n)) from fun t => by unfold rbB; rw [ex, show ((x : Int) + 1 - 1).toNat = x by omega])
            have HRx := hid (fun (t : Nat) (ht : t < KL) (W : World) (u : Old wk W) => rreads_any (d x).s (K.getD t 0) (HWk.out t ht) W (hs.old (UK.out.trans u)))
            clear hx co ex c0 hs hu HI HIff
            go_upto_region 13 with fail
            generalize hw1 : wr.alloc (.cells #[.int .i64 (d x).n, .int .i64 (d x).s.s1, .int .i64 (d x).s.s2, .int .i64 (d x).s.s3, .slice (d x).s.a1 (d x).s.n1 (d x).s.c1, .slice (d x).s.a2 (d x).s.n2 (d x).s.c2, .slice (d x).s.a3 (d x).s.n3 (d x).s.c3] 33) = w1 at *
            obtain ⟨hb1, hu1⟩ := dn_new wr (d x) w1 hw1 _ rfl
            generalize wr.heap.size = mb at *
            have B1 := hid hb1
            have U1 := hid (U.out.trans hu1)
            clear hw1 hb1 hu1 x0 x1 x2 x3 x4 x5 x6 xo U
            go_wp2
            go_loopw [9] (fun z wr => ∃ t : Nat, t ≤ KL ∧ z = .int .i64 (t : Nat) ∧ Fl.anyG (rbB d n L K i) t = false ∧ Old w1 wr) (fun z _ => KL - (intOf z).toNat)
            case atStart => exact ⟨0, Nat.zero_le _, rfl, rfl, Old.refl _⟩
            case round =>
              obtain ⟨t, ht, rfl, h0, hu⟩ := hrel
              have HT0 := hid h0
              have V := hid hu
              clear h0
              by_cases htt : t < KL
              · obtain ⟨gk, ek, cK⟩ := HCk.out t htt
                subst ek
                have HR1 := hid (fun (W : World) (u : Old wr W) => HRx.out t htt W (U1.out.trans (V.out.trans u)))
                have HSt := hid (fun q => Fl.anyG_step (rbB d n L K i) t HT0.out q)
                have HTr := hid (fun q => Fl.anyG_true (rbB d n L K i) KL t htt q)
                rw [HBad.out t] at HSt HTr
                have HWt := hid (HWk.out t htt)
                have y0 := (U1.out.trans V.out).keep cK
                have HYk := hid (fun (W : World) (u : Old wk W) => u.keep cK)
                generalize K.getD t 0 = X at *
                have HD := hid (show KB1 mb (d x) gk t X wr from ⟨DnBox.old hu B1.out, y0⟩)
                have n1 : (0 : Int) ≤ (t : Int) := by omega
                have n2 : (t : Int) < (KL : Int) := by omega
                have HRb : Hid (readB (d x).s X = readB (d x).s X) := hid rfl
                clear cK y0 hu HRx HT0 HBad HRb
                generalize readB (d x).s X = rb at *
                cases rb
                · have HS := hid (HSt.out (by simp))
                  clear HSt HTr HC HC2 HCk
                  go_upto_region 16 with fail
                  go_region_held3 (KB1 mb (d x) gk t X) (first | assumption | exact HD.out | (refine KB1.old ?_ HD.out; assumption)) (first | (go_at_call 29; refine (HR1.out _ ((Old.refl _).drew)).mono ?_; rintro e w5 ⟨rfl, v5⟩; have U5 : Old wr w5 := ((Old.refl _).drew).trans v5))
                  go_wp2
                  go_roundw
                  case rel => exact ⟨t + 1, htt, by go_num, HS.out, V.out.trans U5⟩
                  case measure => simp [intOf]; omega
                · skip
                  go_upto_region 16 with fail
                  go_region_held3 (KB1 mb (d x) gk t X) (first | assumption | exact HD.out | (refine KB1.old ?_ HD.out; assumption)) (first | (go_at_call 29; refine (HR1.out _ ((Old.refl _).drew)).mono ?_; rintro e w5 ⟨rfl, v5⟩; have U5 : Old wr w5 := ((Old.refl _).drew).trans v5))
                  have V5 := hid (V.out.trans U5)
                  clear U5 HD HR1 V
                  generalize wr = wj at *
                  go_wp2
                  go_loopw [10, 11] (fun la z wr => ∃ m : Nat, m ≤ i ∧ la = .int .i64 (rlF d X L m) ∧ z = .int .i64 (m : Nat) ∧ Old w1 wr) (fun _ z _ => i - (intOf z).toNat)
                  case atStart => exact ⟨0, Nat.zero_le _, rfl, rfl, V5.out⟩
                  case round =>
                    obtain ⟨m, hm, rfl, rfl, hu⟩ := hrel
                    have V := hid hu
                    clear V5
                    by_cases hmt : m < i
                    · have hy := HNum.out m (by omega)
                      obtain ⟨y, ey⟩ : ∃ y : Nat, L.getD m 0 = (y : Int) + 1 := ⟨(L.getD m 0 - 1).toNat, by omega⟩
                      have yn : y < n := by omega
                      obtain ⟨go', oo', hao', co⟩ := HC2.out m (by omega)
                      cases hao'
                      have yo := ((UK.out.trans U1.out).trans hu).keep co
                      rw [ey] at yo
                      obtain ⟨g', off', ha', c0, hs⟩ := HC.out y yn
                      cases ha'
                      have HWy := hid (fun (W : World) (u : Old wr W) => rwrites_any (d y).s X HWt.out W (hs.old ((UK.out.trans U1.out).trans (hu.trans u))))
                      have HD := hid (show KB2 g (off + y * 7) (d y) go oo m ((y : Int) + 1) gk t X wr from ⟨c0.old ((UK.out.trans U1.out).trans hu), yo, HYk.out _ (U1.out.trans hu)⟩)
                      have HRs : Hid (rlF d X L (m + 1) = if writeB (d y).s X = true then (y : Int) + 1 else rlF d X L m) := hid (by show (if writeB (d (L.getD m 0 - 1).toNat).s X = true then L.getD m 0 else rlF d X L m) = _; rw [ey, show ((y : Int) + 1 - 1).toNat = y by omega])
                      have a1 : (0 : Int) ≤ (m : Int) := by omega
                      have a2 : (m : Int) < (n : Int) := by omega
                      have a3 : (0 : Int) ≤ (y : Int) := by omega
                      have a4 : (y : Int) < (n : Int) := by omega
                      have a5 : (m : Int) < (i : Int) := by omega
                      have a6 : IntKind.i64.wrap ((y : Int) + 1 - 1) = (y : Int) := by rw [show (y : Int) + 1 - 1 = (y : Int) by omega]; exact IntWalk.i64_in _ (by omega)
                      have a7 : IntKind.i64.wrap (y : Int) = (y : Int) := IntWalk.i64_in _ (by omega)
                      clear hy ey co c0 hs hu HC HC2 HNum HVe HCk HSt HTr
                      generalize rlF d X L m = rl at *
                      generalize writeB (d y).s X = wy at *
                      generalize d y = b at *
                      cases wy
                      · have HE := hid (show rlF d X L (m + 1) = rl from by rw [HRs.out]; simp)
                        clear HRs
                        clear yo
                        go_upto_region 21 with fail
                        go_region_held3 (KB2 g (off + y * 7) b go oo m ((y : Int) + 1) gk t X) (first | assumption | exact HD.out | (refine KB2.old ?_ HD.out; assumption)) (first | (go_at_call 22; refine (HWy.out _ ((Old.refl _).drew)).mono ?_; rintro e w6 ⟨rfl, v5⟩; have U6 : Old wr w6 := ((Old.refl _).drew).trans v5))
                        go_wp2
                        go_roundw
                        case rel => exact ⟨m + 1, hmt, by rw [HE.out], by go_num, V.out.trans U6⟩
                        case measure => simp [intOf]; omega
                      · have HE := hid (show rlF d X L (m + 1) = (y : Int) + 1 from by rw [HRs.out]; simp)
                        clear HRs
                        go_upto_region 21 with fail
                        go_region_held3 (KB2 g (off + y * 7) b go oo m ((y : Int) + 1) gk t X) (first | assumption | exact HD.out | (refine KB2.old ?_ HD.out; assumption)) (first | (go_at_call 22; refine (HWy.out _ ((Old.refl _).drew)).mono ?_; rintro e w6 ⟨rfl, v5⟩; have U6 : Old wr w6 := ((Old.refl _).drew).trans v5))
                        clear yo
                        have yo := U6.keep HD.out.2.1
                        go_wp2
                        go_roundw
                        case rel => exact ⟨m + 1, hmt, by rw [HE.out], by go_num, V.out.trans U6⟩
                        case measure => simp [intOf]; omega
                    · obtain rfl : i = m := by omega
                      have HVx := hid (fun (W : World) (u : Old wr W) => HVe.out W ((UK.out.trans U1.out).trans (hu.trans u)) X HWt.out (d x).s.s3)
                      have HD := hid (show KB1 mb (d x) gk t X wr from ⟨DnBox.old hu B1.out, HYk.out _ (U1.out.trans hu)⟩)
                      have a5 : ¬ (i : Int) < (i : Int) := by omega
                      clear HC HC2 HNum HVe HCk hu
                      generalize rvF d X (d x).s.s3 n = rv at *
                      generalize rlF d X L i = rl at *
                      by_cases hq : rl = rv
                      · have HS := hid (HSt.out (by simp [hq]))
                        have q1 : (rl == rv) = true := by rw [beq_iff_eq]; exact hq
                        have q2 : (rl != rv) = false := by rw [bne_eq_false_iff_eq]; exact hq
                        clear hq HSt HTr
                        go_upto_region 23 with fail
                        go_region_held3 (KB1 mb (d x) gk t X) (first | assumption | exact HD.out | (refine KB1.old ?_ HD.out; assumption)) (first | (go_at_call 36; refine (HVx.out _ ((Old.refl _).drew)).mono ?_; rintro e w6 ⟨rfl, v5⟩; have U6 : Old wr w6 := ((Old.refl _).drew).trans v5))
                        go_wp2
                        go_roundw
                        case rel => exact ⟨t + 1, htt, by go_num, HS.out, V.out.trans U6⟩
                        case measure => simp [intOf]; omega
                      · have HF := hid (HNo.out (HTr.out (by simp [hq])))
                        have q1 : (rl == rv) = false := by rw [beq_eq_false_iff_ne]; exact hq
                        have q2 : (rl != rv) = true := by rw [bne_iff_ne]; exact hq
                        clear hq HSt HTr
                        go_upto_region 23 with fail
                        go_region_held3 (KB1 mb (d x) gk t X) (first | assumption | exact HD.out | (refine KB1.old ?_ HD.out; assumption)) (first | (go_at_call 36; refine (HVx.out _ ((Old.refl _).drew)).mono ?_; rintro e w6 ⟨rfl, v5⟩; have U6 : Old wr w6 := ((Old.refl _).drew).trans v5))
                        go_wp2
                        go_ret
                        exact ⟨ret_b (by rw [HF.out]), UK.out.trans (U1.out.trans (V.out.trans U6))⟩
              · obtain rfl : KL = t := by omega
                have HS := hid (HSi.out HT0.out)
                clear HC HC2 HCk hu HNum HVe HT0 HBad HRx
                go_wp2
                go_roundw
                case rel => exact ⟨i + 1, hit, by go_num, HS.out, U1.out.trans V.out⟩
                case measure => simp [intOf]; omega
          · obtain rfl : n = i := by omega
            have HF := hid (show rd = true from HIff.out.2 HI.out)
            clear HC HC2 HCk HIff HI HNum HVe hu
            go_wp2
            go_ret
            exact ⟨ret_b (by rw [HF.out]), UK.out.trans U.out⟩
  · have HF := hid (show rd = false from by rw [HRd.out, HEo.out, decide_eq_false hl]; simp)
    have l3 : ¬ (L.length : Int) = (n : Int) := by omega
    have l4 : ((L.length : Int) == (n : Int)) = false := by rw [beq_eq_false_iff_ne]; exact l3
    have l5 : ((L.length : Int) != (n : Int)) = true := by rw [bne_iff_ne]; exact l3
    clear hl HRd HEo HDoc HMem HKk HHas HVe HC HC2 HWk HLn
    generalize L.length = LL at *
    go_enter Tryz.func18, Tryz.ntmps18
    go_wp2
    go_ret
    exact ⟨ret_b (by rw [HF.out]), Old.refl _⟩
end Go.Proofs.YtbkbnfgjkefcmaaGreat
namespace Go.Proofs.YtbkbnfgjkefcmaaGreat
open Go.ChangeShapes Go.WideShapes Go.RowKit Go.Joins Go.Lib
set_option linter.unusedVariables false
set_option linter.unusedSimpArgs false
set_option maxRecDepth 20000
/-- A row of int64, as long as may come in. -/
def NRowL (w : World) (v : Value) (n : Nat) (f : Nat → Int) : Prop := n ≤ 17592186044000 ∧ ∃ (p : Option Addr) (c : Nat), v = .slice p n c ∧ n ≤ c ∧ c ≤ 9223372036854775807 ∧ ∀ i, i < n → ∃ g off, p = some ⟨g, off, none⟩ ∧ w.cell? ⟨g, off + i, none⟩ = some (.int .i64 (f i))
theorem NRowL.old {w w' : World} {v : Value} {n : Nat} {f : Nat → Int} (h : NRowL w v n f) (u : Old w w') : NRowL w' v n f := by
  obtain ⟨hm, p, c, e, h1, h2, hc⟩ := h
  exact ⟨hm, p, c, e, h1, h2, fun i hi => by obtain ⟨g, off, e2, h3⟩ := hc i hi; exact ⟨g, off, e2, u.keep h3⟩⟩
def lsI (f : Nat → Int) : Nat → List Int | 0 => [] | k + 1 => lsI f k ++ [f k]
theorem lsI_len (f : Nat → Int) : ∀ k, (lsI f k).length = k
  | 0 => rfl
  | k + 1 => by show (lsI f k ++ [f k]).length = k + 1; rw [List.length_append, lsI_len f k]; rfl
theorem lsI_get (f : Nat → Int) : ∀ k i, i < k → (lsI f k).getD i 0 = f i
  | 0, i, h => by omega
  | k + 1, i, h => by
    show (lsI f k ++ [f k]).getD i 0 = f i
    by_cases e : i = k
    · subst e
      rw [List.getD_eq_getElem?_getD, List.getElem?_append_right (by rw [lsI_len]; exact Nat.le_refl _), lsI_len, Nat.sub_self]
      rfl
    · rw [List.getD_eq_getElem?_getD, List.getElem?_append_left (by rw [lsI_len]; omega), ← List.getD_eq_getElem?_getD]
      exact lsI_get f k i (by omega)
theorem NRowL.few {w : World} {p : Option Addr} {n c : Nat} {f : Nat → Int} (h : NRowL w (.slice p n c) n f) (k : Nat) (hk : k ≤ n) (h1 : k ≤ 1000) : NRow w (.slice p k c) (lsI f k) := by
  obtain ⟨hm, p', c', e, h2, h3, hc⟩ := h
  cases e
  refine ⟨by rw [lsI_len]; omega, p, c, by rw [lsI_len], fun i hi => ?_⟩
  rw [lsI_len] at hi
  obtain ⟨g, off, e, hc⟩ := hc i (by omega)
  exact ⟨g, off, e, by rw [lsI_get f k i hi]; exact hc⟩
theorem bytesI64 : Tryz.prog.bytesOf 2 = 8 := by kernel_rfl
theorem open_nums {H : Type} {enc : TypeId × Value → H} {w : World} {base : Nat} {v : Value} {d : DataW H} {ps : List MemPlace} (hv : Value.okWide Tryz.prog w .any base 37 v) (h : DataW.Trod enc Tryz.prog w 0 (fun _ => true) true 37 v d ps) (hz : ∀ k ∈ d.weights Tryz.prog 37, k ≤ reachBytes) : ∃ (n : Nat) (f : Nat → Int), NRowL w v n f := by
  obtain ⟨a0, len0, cap0, rfl⟩ := okWide_slice Tryz.underlying37 hv
  obtain ⟨fuel, hf⟩ := h
  have hlr := len_row Tryz.underlying37 hf
  have hfit := row_fits Tryz.underlying37 bytesI64 hlr hz
  simp only [reachBytes] at hfit
  rcases DataW.trod_slice Tryz.underlying37 hf with ⟨hcs, _⟩ | ⟨a, len, cap, elems, rest, m, _, hcs, hx, hb, hl, hm, hlen, hel, _, _⟩
  · simp [Value.cells] at hcs
    obtain ⟨rfl, rfl, rfl⟩ := hcs
    exact ⟨0, fun _ => 0, by omega, none, 0, rfl, by omega, by omega, fun i hi => by omega⟩
  · simp [Value.cells] at hcs
    obtain ⟨rfl, rfl, rfl⟩ := hcs
    have hcm : cap0 ≤ 9223372036854775807 := by unfold maxLen at hm; omega
    by_cases hzz : len0 = 0
    · subst hzz
      exact ⟨0, fun _ => 0, by omega, _, cap0, rfl, by omega, hcm, fun i hi => by omega⟩
    · have each : ∀ i, i < len0 → ∃ x : Int, w.cell? ((a.add (i * 1)).add 0) = some (.int .i64 x) := by
        intro i hi
        have h1 := hel i hi
        have h2 : elems[i]? = some (elems[i]'(by omega)) := List.getElem?_eq_getElem (by omega)
        rw [h2, cellsI.1, Option.bind_eq_some_iff] at h1
        obtain ⟨cs', hcs, hy'⟩ := h1
        obtain ⟨x, e0, _, _⟩ := DataW.trod_int Tryz.underlying2 hy'
        have q := cellsEach hcs 0 (by omega)
        rw [e0] at q
        exact ⟨x, q⟩
      obtain ⟨b, off, spot⟩ := a
      obtain ⟨x0, h0⟩ := each 0 (by omega)
      have hspot : spot = none := by simpa [Addr.add] using World.cell?_spot h0
      subst hspot
      have each2 : ∀ i, ∃ x : Int, i < len0 → w.cell? ⟨b, off + i, none⟩ = some (.int .i64 x) := by
        intro i
        by_cases hi : i < len0
        · obtain ⟨x, q⟩ := each i hi
          simp only [Go.WideShapes.add_plain, Nat.mul_one, Nat.add_zero] at q
          exact ⟨x, fun _ => q⟩
        · exact ⟨0, fun h => absurd h hi⟩
      exact ⟨len0, fun i => Classical.choose (each2 i), by omega, _, cap0, rfl, hl, hcm, fun i hi => ⟨b, off, rfl, Classical.choose_spec (each2 i) hi⟩⟩
attribute [local go_sem] run_bits run_frombits run_store_float eqF
set_option maxHeartbeats 8000000 in
set_option maxRecDepth 20000 in
theorem readsLaw (v vo : Value) (n0 m0 : Nat) (d : Nat → Dn) (f : Nat → Int) (w : World) (hv : DRowL w v n0 d) (ho : NRowL w vo m0 f) :
    Calls Tryz.prog 5 #[v, vo] w fun e w' => e = .returned (.bool true) ∧ Old w w' := by
  have HF := hid (fun (W : World) (u : Old w W) => few_any v n0 d W (hv.old u))
  have HN := hid (fun (W : World) (u : Old w W) => ho.old u)
  obtain ⟨hmo, po, co, rfl, hno, hco, _⟩ := ho
  clear hv
  obtain ⟨mm, hmm, hm70, hcase⟩ : ∃ mm, mm ≤ m0 ∧ mm ≤ 70 ∧ ((70 < m0 ∧ mm = 70) ∨ (¬ 70 < m0 ∧ mm = m0)) := by
    by_cases q : 70 < m0
    · exact ⟨70, by omega, by omega, Or.inl ⟨q, rfl⟩⟩
    · exact ⟨m0, by omega, by omega, Or.inr ⟨q, rfl⟩⟩
  have HN2 := hid (fun (W : World) (u : Old w W) => (HN.out W u).few mm hmm (by omega))
  have HL := hid (show (lsI f mm).length = mm from lsI_len f mm)
  generalize lsI f mm = L at *
  clear HN
  go_enter Tryz.func5, Tryz.ntmps5
  go_upto_region 4 with (first | (go_at_call 7; refine (alive_any _).mono ?_; rintro e w0 ⟨rfl, u1⟩; have U1 := hid u1; clear u1) | (go_at_call 8; refine (HF.out _ U1.out).mono ?_; rintro e w1 ⟨v1, n, hn, rfl, hd, rfl⟩; have D1 := hid hd; clear hd))
  clear HF
  have HO1 := hid (HN2.out _ U1.out)
  clear HN2
  have HP := hid (readsH_any v1 _ n d L w1 D1.out HO1.out)
  have HR := hid (fun (W : World) (u : Old w1 W) => rright_any v1 n d W (D1.out.old u))
  have HRr := hid (fun (hr : rtB d n = true) (W : World) (u : Old w1 W) => rreadsH_any v1 _ n d L W (D1.out.old u) (HO1.out.old u) hr)
  obtain ⟨_, p, c, rfl, hnc, hcm, _⟩ := D1.out
  clear D1 HO1 HL
  have HRd : Hid (rtB d n = false → rdB d n L = false) := hid (fun h => by unfold rdB; rw [h]; rfl)
  cases hrt : rtB d n
  · have hrd := HRd.out hrt
    rw [hrt] at HR
    rw [hrd] at HP
    clear hrd hrt HRd HRr
    rcases hcase with ⟨q, rfl⟩ | ⟨q, rfl⟩
    · have l1 : (70 : Int) < (m0 : Int) := by omega
      have l2 : (70 : Int) ≤ (co : Int) := by omega
      go_wp2_with (first | (go_at_call 17; refine HP.out.mono ?_; rintro e w2 ⟨rfl, u2⟩; have V2 := hid u2; clear u2) | (go_at_call 9; refine (HR.out _ V2.out).mono ?_; rintro e w3 ⟨rfl, u3⟩; have V3 := hid (V2.out.trans u3); clear u3))
      go_ret
      exact ⟨rfl, U1.out.trans V3.out⟩
    · have l1 : ¬ (70 : Int) < (mm : Int) := by omega
      go_wp2_with (first | (go_at_call 17; refine HP.out.mono ?_; rintro e w2 ⟨rfl, u2⟩; have V2 := hid u2; clear u2) | (go_at_call 9; refine (HR.out _ V2.out).mono ?_; rintro e w3 ⟨rfl, u3⟩; have V3 := hid (V2.out.trans u3); clear u3))
      go_ret
      exact ⟨rfl, U1.out.trans V3.out⟩
  · have HRr2 := hid (HRr.out hrt)
    rw [hrt] at HR
    clear hrt HRd HRr
    generalize rdB d n L = rd at *
    rcases hcase with ⟨q, rfl⟩ | ⟨q, rfl⟩
    · have l1 : (70 : Int) < (m0 : Int) := by omega
      have l2 : (70 : Int) ≤ (co : Int) := by omega
      go_wp2_with (first | (go_at_call 17; refine HP.out.mono ?_; rintro e w2 ⟨rfl, u2⟩; have V2 := hid u2; clear u2) | (go_at_call 9; refine (HR.out _ V2.out).mono ?_; rintro e w3 ⟨rfl, u3⟩; have V3 := hid (V2.out.trans u3); clear u3) | (go_at_call 18; refine (HRr2.out _ V3.out).mono ?_; rintro e w4 ⟨rfl, u4⟩; have V4 := hid (V3.out.trans u4); clear u4))
      go_ret
      exact ⟨ret_b (by simp), U1.out.trans V4.out⟩
    · have l1 : ¬ (70 : Int) < (mm : Int) := by omega
      go_wp2_with (first | (go_at_call 17; refine HP.out.mono ?_; rintro e w2 ⟨rfl, u2⟩; have V2 := hid u2; clear u2) | (go_at_call 9; refine (HR.out _ V2.out).mono ?_; rintro e w3 ⟨rfl, u3⟩; have V3 := hid (V2.out.trans u3); clear u3) | (go_at_call 18; refine (HRr2.out _ V3.out).mono ?_; rintro e w4 ⟨rfl, u4⟩; have V4 := hid (V3.out.trans u4); clear u4))
      go_ret
      exact ⟨ret_b (by simp), U1.out.trans V4.out⟩
end Go.Proofs.YtbkbnfgjkefcmaaGreat
