/- The document's has, of layer 12. -/
import Derived.Test.YtbkbnfgjkefcmaaGreatTH
import Derived.Test.YtbkbnfgjkefcmaaGreatTJ
namespace Go.Proofs.YtbkbnfgjkefcmaaGreat
open Go.RowKit Go.Lib
set_option linter.unusedVariables false
set_option linter.unusedSimpArgs false
set_option maxRecDepth 20000
theorem hasN_no {L : List Int} {x : Int} (h : ∀ i, i < L.length → L.getD i 0 ≠ x) : hasN L x = false := by
  by_cases q : hasN L x = true
  · obtain ⟨i, hi, e⟩ := List.getElem_of_mem (hasN_iff.1 q)
    exact absurd (by simp [List.getD_eq_getElem?_getD, hi, e]) (h i hi)
  · simpa using q
set_option maxHeartbeats 1000000 in
set_option maxRecDepth 20000 in
theorem rhasN_any (v : Value) (L : List Int) (x : Int) (w : World) (hv : NRow w v L) :
    Calls Tryz.prog 31 #[v, .int .i64 x] w fun e w' => e = .returned (.bool (hasN L x)) ∧ Old w w' := by
  obtain ⟨hm, p, c, rfl, hc⟩ := hv
  have HC := hid hc
  have hmm : (L.length : Int) ≤ 1099511627776 := by omega
  have HY := hid (fun (i : Nat) (hi : i < L.length) (e : L.getD i 0 = x) => (hasN_iff (L := L) (x := x)).2 (by rw [← e]; exact mem_getN L i hi))
  have HNo := hid (fun (h : ∀ i, i < L.length → L.getD i 0 ≠ x) => hasN_no h)
  generalize hasN L x = r at *
  generalize L.length = n at *
  clear hc hm
  go_enter Tryz.func31, Tryz.ntmps31
  go_wp2
  go_loopw [5] (fun i wr => ∃ k : Nat, k ≤ n ∧ i = .int .i64 (k : Nat) ∧ (∀ i, i < k → L.getD i 0 ≠ x) ∧ Old w wr) (fun i _ => n - (intOf i).toNat)
  case atStart => exact ⟨0, Nat.zero_le _, rfl, fun i hi => by omega, Old.refl _⟩
  case round =>
    obtain ⟨k, hk, rfl, h0, hu⟩ := hrel
    have H0 := hid h0
    clear h0
    by_cases hlt : k < n
    · obtain ⟨g, off, e1, c0⟩ := HC.out k hlt
      subst e1
      have x0 := hu.keep c0
      have l1 : (0 : Int) ≤ (k : Int) := by omega
      have l2 : (k : Int) < (n : Int) := by omega
      clear c0 HC
      by_cases q : L.getD k 0 = x
      · have HR := hid (HY.out k hlt q)
        have t : (L.getD k 0 == x) = true := by rw [beq_iff_eq]; exact q
        generalize L.getD k 0 = y at *
        clear q HY HNo H0
        go_wp2
        go_ret
        exact ⟨ret_b (by rw [HR.out]), hu⟩
      · have HS := hid (show ∀ i, i < k + 1 → L.getD i 0 ≠ x from fun i hi => by
          by_cases e : i = k
          · rw [e]; exact q
          · exact H0.out i (by omega))
        have t : (L.getD k 0 == x) = false := by rw [beq_eq_false_iff_ne]; exact q
        generalize L.getD k 0 = y at *
        clear q HY HNo H0
        go_wp2
        go_roundw
        case rel => exact ⟨k + 1, hlt, by go_num, HS.out, hu⟩
        case measure => simp [intOf]; omega
    · obtain rfl : n = k := by omega
      have HR := hid (HNo.out H0.out)
      clear HC HY HNo H0
      go_wp2
      go_ret
      exact ⟨ret_b (by rw [HR.out]), hu⟩
end Go.Proofs.YtbkbnfgjkefcmaaGreat
namespace Go.Proofs.YtbkbnfgjkefcmaaGreat
open Go.RowKit Go.Lib
set_option linter.unusedVariables false
set_option linter.unusedSimpArgs false
set_option maxRecDepth 20000
theorem ent_rrd (args : Array Value) (w : World) : (callFunc 29 args).run Tryz.prog w = .ok (.enter 29 args) w := by kernel_rfl
def l1B (a b : Dn) (i : Nat) : Bool := (writeB b.s (a.s.x3 i) && decide (a.n < b.n)) || (readB b.s (a.s.x3 i) && decide (a.n ≤ b.s.s3))
def l2B (a b : Dn) (i : Nat) : Bool := readB a.s (b.s.x3 i) && decide (a.s.s3 < b.n)
theorem ld_by (a b : Dn) : ldB a b = (!decide (a.n = b.n) && (Fl.anyG (l1B a b) a.s.n3 || Fl.anyG (l2B a b) b.s.n3)) := by
  unfold ldB
  congr 1
  rw [Bool.eq_iff_iff]
  simp only [Bool.or_eq_true, Bool.and_eq_true, decide_eq_true_eq]
  unfold bwB meetB
  rw [anyG_iff, anyG_iff, anyG_iff, anyG_iff, anyG_iff]
  unfold l1B l2B
  simp only [Bool.or_eq_true, Bool.and_eq_true, decide_eq_true_eq]
  constructor
  · rintro ((⟨h, i, hi, e⟩ | ⟨h, i, hi, e⟩) | ⟨h, i, hi, e⟩)
    · exact Or.inl ⟨i, hi, Or.inl ⟨e, h⟩⟩
    · exact Or.inl ⟨i, hi, Or.inr ⟨e, h⟩⟩
    · exact Or.inr ⟨i, hi, e, h⟩
  · rintro (⟨i, hi, ⟨e, h⟩ | ⟨e, h⟩⟩ | ⟨i, hi, e, h⟩)
    · exact Or.inl (Or.inl ⟨h, i, hi, e⟩)
    · exact Or.inl (Or.inr ⟨h, i, hi, e⟩)
    · exact Or.inr ⟨h, i, hi, e⟩
/-- Two transactions in boxes, and a key that the second writes. -/
abbrev DL3 (m : Nat) (a b : Dn) (g off j y : Nat) (w : World) : Prop := (w.cell? ⟨m, 0, none⟩ = some (.int .i64 a.n) ∧ w.cell? ⟨m, 1, none⟩ = some (.int .i64 a.s.s1) ∧ w.cell? ⟨m, 2, none⟩ = some (.int .i64 a.s.s2) ∧ w.cell? ⟨m, 3, none⟩ = some (.int .i64 a.s.s3) ∧ w.cell? ⟨m, 4, none⟩ = some (.slice a.s.a1 a.s.n1 a.s.c1) ∧ w.cell? ⟨m, 5, none⟩ = some (.slice a.s.a2 a.s.n2 a.s.c2) ∧ w.cell? ⟨m, 6, none⟩ = some (.slice a.s.a3 a.s.n3 a.s.c3)) ∧ (w.cell? ⟨m + 1, 0, none⟩ = some (.int .i64 b.n) ∧ w.cell? ⟨m + 1, 6, none⟩ = some (.slice (some ⟨g, off, none⟩) b.s.n3 b.s.c3)) ∧ w.cell? ⟨g, off + j, none⟩ = some (.float .f64 y)
theorem DL3.old {m : Nat} {a b : Dn} {g off j y : Nat} {w w' : World} (u : Old w w') (h : DL3 m a b g off j y w) : DL3 m a b g off j y w' := ⟨DnBox.old u h.1, ⟨u.keep h.2.1.1, u.keep h.2.1.2⟩, u.keep h.2.2⟩
attribute [local go_sem] run_bits run_frombits run_store_float eqF
set_option maxHeartbeats 8000000 in
set_option maxRecDepth 20000 in
theorem rleads_any (a b : Dn) (w : World) (ha : a.s.Ok w) (hb : b.s.Ok w) : Calls Tryz.prog 12 #[.agg #[.int .i64 a.n, .int .i64 a.s.s1, .int .i64 a.s.s2, .int .i64 a.s.s3, .slice a.s.a1 a.s.n1 a.s.c1, .slice a.s.a2 a.s.n2 a.s.c2, .slice a.s.a3 a.s.n3 a.s.c3], .agg #[.int .i64 b.n, .int .i64 b.s.s1, .int .i64 b.s.s2, .int .i64 b.s.s3, .slice b.s.a1 b.s.n1 b.s.c1, .slice b.s.a2 b.s.n2 b.s.c2, .slice b.s.a3 b.s.n3 b.s.c3]] w fun e w' => e = .returned (.bool (ldB a b)) ∧ Old w w' := by
  have HWb := hid (fun (W : World) (u : Old w W) (k : Nat) (hk : Fl.W k) => rwrites_any b.s k hk W (hb.old u))
  have HRb := hid (fun (W : World) (u : Old w W) (k : Nat) (hk : Fl.W k) => rreads_any b.s k hk W (hb.old u))
  have HRa := hid (fun (W : World) (u : Old w W) (k : Nat) (hk : Fl.W k) => rreads_any a.s k hk W (ha.old u))
  have hca := ha.h3
  obtain ⟨_, pa, ca, hva, hca⟩ := hca
  cases hva
  have HCa := hid hca
  have hb3a := ha.b3
  have lna : (a.s.n3 : Int) ≤ 17592186044000 := by omega
  have hcb := hb.h3
  obtain ⟨_, pb, cb, hvb, hcb⟩ := hcb
  cases hvb
  have HCb := hid hcb
  have hb3b := hb.b3
  have lnb : (b.s.n3 : Int) ≤ 17592186044000 := by omega
  have HLd := hid (ld_by a b)
  generalize ldB a b = ld at *
  clear hca hcb ha hb hb3a hb3b
  go_enter Tryz.func12, Tryz.ntmps12
  go_upto_region 1 with fail
  generalize hw1 : (w.alloc (.cells #[.int .i64 a.n, .int .i64 a.s.s1, .int .i64 a.s.s2, .int .i64 a.s.s3, .slice a.s.a1 a.s.n1 a.s.c1, .slice a.s.a2 a.s.n2 a.s.c2, .slice a.s.a3 a.s.n3 a.s.c3] 33)).alloc (.cells #[.int .i64 b.n, .int .i64 b.s.s1, .int .i64 b.s.s2, .int .i64 b.s.s3, .slice b.s.a1 b.s.n1 b.s.c1, .slice b.s.a2 b.s.n2 b.s.c2, .slice b.s.a3 b.s.n3 b.s.c3] 33) = w1 at *
  have HW := hid (dn_two w a b w1 hw1 _ rfl)
  generalize w.heap.size = m at *
  clear hw1
  have V0 := hid HW.out.2.2
  obtain ⟨t0, t1, t2, t3, t4, t5, t6⟩ := DnBox.old (Old.refl w1) HW.out.1
  obtain ⟨r0, r1, r2, r3, r4, r5, r6⟩ := DnBox.old (Old.refl w1) HW.out.2.1
  by_cases h0 : a.n = b.n
  · have e0 : (a.n == b.n) = true := by rw [beq_iff_eq]; exact h0
    rw [decide_eq_true h0] at HLd
    clear h0
    go_wp2
    go_ret
    exact ⟨ret_b (by rw [HLd.out]; rfl), V0.out⟩
  · have e0 : (a.n == b.n) = false := by rw [beq_eq_false_iff_ne]; exact h0
    rw [decide_eq_false h0] at HLd
    clear h0
    go_wp2
    go_loopw [5] (fun i wr => ∃ j : Nat, j ≤ a.s.n3 ∧ i = .int .i64 (j : Nat) ∧ Fl.anyG (l1B a b) j = false ∧ Old w1 wr) (fun i _ => a.s.n3 - (intOf i).toNat)
    case atStart => exact ⟨0, Nat.zero_le _, rfl, rfl, Old.refl _⟩
    case round =>
      obtain ⟨j, hj, rfl, h0, hu⟩ := hrel
      have H0 := hid h0
      clear h0 t0 t1 t2 t3 t4 t5 t6 r0 r1 r2 r3 r4 r5 r6
      obtain ⟨t0, t1, t2, t3, t4, t5, t6⟩ := DnBox.old hu HW.out.1
      obtain ⟨r0, r1, r2, r3, r4, r5, r6⟩ := DnBox.old hu HW.out.2.1
      have U := hid hu
      clear hu
      by_cases hlt : j < a.s.n3
      · obtain ⟨gb, off, hga, hWx, c0⟩ := HCa.out j hlt
        rw [hga] at t6
        have x0 := (V0.out.trans U.out).keep c0
        have HWj := hid (fun (W : World) (u : Old w1 W) => HWb.out W (V0.out.trans u) _ hWx)
        have HRj := hid (fun (W : World) (u : Old w1 W) => HRb.out W (V0.out.trans u) _ hWx)
        have HL1 : Hid (l1B a b j = ((writeB b.s (a.s.x3 j) && decide (a.n < b.n)) || (readB b.s (a.s.x3 j) && decide (a.n ≤ b.s.s3)))) := hid rfl
        have HSt := hid (fun q => Fl.anyG_step (l1B a b) j H0.out q)
        have HTr := hid (fun q => Fl.anyG_true (l1B a b) a.s.n3 j hlt q)
        generalize l1B a b j = lj at *
        generalize writeB b.s (a.s.x3 j) = p at *
        generalize readB b.s (a.s.x3 j) = q at *
        generalize a.s.x3 j = X at *
        have l1 : (0 : Int) ≤ (j : Int) := by omega
        have l2 : (j : Int) < (a.s.n3 : Int) := by omega
        clear c0 hWx HCa HCb HRa HWb HRb hga H0
        cases p
        · skip
          cases q
          · skip
            have HS := hid (HSt.out (by rw [HL1.out]; simp []))
            clear HSt HTr HL1 HLd
            go_wp2_with (first | (go_at_call 22; refine (HWj.out _ U.out).mono ?_; rintro e y1 ⟨rfl, v1⟩; have V1 := hid (U.out.trans v1); clear v1; clear t0 t1 t2 t3 t4 t5 t6 r0 r1 r2 r3 r4 r5 r6; obtain ⟨t0, t1, t2, t3, t4, t5, t6⟩ := DnBox.old V1.out HW.out.1; obtain ⟨r0, r1, r2, r3, r4, r5, r6⟩ := DnBox.old V1.out HW.out.2.1) | (go_at_call 29; refine (HRj.out _ V1.out).mono ?_; rintro e y2 ⟨rfl, v2⟩; have V2 := hid (V1.out.trans v2); clear v2; clear t0 t1 t2 t3 t4 t5 t6 r0 r1 r2 r3 r4 r5 r6; obtain ⟨t0, t1, t2, t3, t4, t5, t6⟩ := DnBox.old V2.out HW.out.1; obtain ⟨r0, r1, r2, r3, r4, r5, r6⟩ := DnBox.old V2.out HW.out.2.1))
            go_roundw
            case rel => exact ⟨j + 1, hlt, by go_num, HS.out, V2.out⟩
            case measure => simp [intOf]; omega
          · by_cases h2 : a.n ≤ b.s.s3
            · skip
              have HT := hid (HTr.out (by rw [HL1.out]; simp [h2]))
              clear HSt HTr HL1
              go_wp2_with (first | (go_at_call 22; refine (HWj.out _ U.out).mono ?_; rintro e y1 ⟨rfl, v1⟩; have V1 := hid (U.out.trans v1); clear v1; clear t0 t1 t2 t3 t4 t5 t6 r0 r1 r2 r3 r4 r5 r6; obtain ⟨t0, t1, t2, t3, t4, t5, t6⟩ := DnBox.old V1.out HW.out.1; obtain ⟨r0, r1, r2, r3, r4, r5, r6⟩ := DnBox.old V1.out HW.out.2.1) | (go_at_call 29; refine (HRj.out _ V1.out).mono ?_; rintro e y2 ⟨rfl, v2⟩; have V2 := hid (V1.out.trans v2); clear v2; clear t0 t1 t2 t3 t4 t5 t6 r0 r1 r2 r3 r4 r5 r6; obtain ⟨t0, t1, t2, t3, t4, t5, t6⟩ := DnBox.old V2.out HW.out.1; obtain ⟨r0, r1, r2, r3, r4, r5, r6⟩ := DnBox.old V2.out HW.out.2.1))
              go_ret
              exact ⟨ret_b (by rw [HLd.out, HT.out]; rfl), V0.out.trans V2.out⟩
            · skip
              have HS := hid (HSt.out (by rw [HL1.out]; simp [h2]))
              clear HSt HTr HL1 HLd
              go_wp2_with (first | (go_at_call 22; refine (HWj.out _ U.out).mono ?_; rintro e y1 ⟨rfl, v1⟩; have V1 := hid (U.out.trans v1); clear v1; clear t0 t1 t2 t3 t4 t5 t6 r0 r1 r2 r3 r4 r5 r6; obtain ⟨t0, t1, t2, t3, t4, t5, t6⟩ := DnBox.old V1.out HW.out.1; obtain ⟨r0, r1, r2, r3, r4, r5, r6⟩ := DnBox.old V1.out HW.out.2.1) | (go_at_call 29; refine (HRj.out _ V1.out).mono ?_; rintro e y2 ⟨rfl, v2⟩; have V2 := hid (V1.out.trans v2); clear v2; clear t0 t1 t2 t3 t4 t5 t6 r0 r1 r2 r3 r4 r5 r6; obtain ⟨t0, t1, t2, t3, t4, t5, t6⟩ := DnBox.old V2.out HW.out.1; obtain ⟨r0, r1, r2, r3, r4, r5, r6⟩ := DnBox.old V2.out HW.out.2.1))
              go_roundw
              case rel => exact ⟨j + 1, hlt, by go_num, HS.out, V2.out⟩
              case measure => simp [intOf]; omega
        · by_cases h1 : a.n < b.n
          · skip
            have HT := hid (HTr.out (by rw [HL1.out]; simp [h1]))
            clear HSt HTr HL1
            go_wp2_with (first | (go_at_call 22; refine (HWj.out _ U.out).mono ?_; rintro e y1 ⟨rfl, v1⟩; have V1 := hid (U.out.trans v1); clear v1; clear t0 t1 t2 t3 t4 t5 t6 r0 r1 r2 r3 r4 r5 r6; obtain ⟨t0, t1, t2, t3, t4, t5, t6⟩ := DnBox.old V1.out HW.out.1; obtain ⟨r0, r1, r2, r3, r4, r5, r6⟩ := DnBox.old V1.out HW.out.2.1))
            go_ret
            exact ⟨ret_b (by rw [HLd.out, HT.out]; rfl), V0.out.trans V1.out⟩
          · skip
            cases q
            · skip
              have HS := hid (HSt.out (by rw [HL1.out]; simp [h1]))
              clear HSt HTr HL1 HLd
              go_wp2_with (first | (go_at_call 22; refine (HWj.out _ U.out).mono ?_; rintro e y1 ⟨rfl, v1⟩; have V1 := hid (U.out.trans v1); clear v1; clear t0 t1 t2 t3 t4 t5 t6 r0 r1 r2 r3 r4 r5 r6; obtain ⟨t0, t1, t2, t3, t4, t5, t6⟩ := DnBox.old V1.out HW.out.1; obtain ⟨r0, r1, r2, r3, r4, r5, r6⟩ := DnBox.old V1.out HW.out.2.1) | (go_at_call 29; refine (HRj.out _ V1.out).mono ?_; rintro e y2 ⟨rfl, v2⟩; have V2 := hid (V1.out.trans v2); clear v2; clear t0 t1 t2 t3 t4 t5 t6 r0 r1 r2 r3 r4 r5 r6; obtain ⟨t0, t1, t2, t3, t4, t5, t6⟩ := DnBox.old V2.out HW.out.1; obtain ⟨r0, r1, r2, r3, r4, r5, r6⟩ := DnBox.old V2.out HW.out.2.1))
              go_roundw
              case rel => exact ⟨j + 1, hlt, by go_num, HS.out, V2.out⟩
              case measure => simp [intOf]; omega
            · by_cases h2 : a.n ≤ b.s.s3
              · skip
                have HT := hid (HTr.out (by rw [HL1.out]; simp [h1, h2]))
                clear HSt HTr HL1
                go_wp2_with (first | (go_at_call 22; refine (HWj.out _ U.out).mono ?_; rintro e y1 ⟨rfl, v1⟩; have V1 := hid (U.out.trans v1); clear v1; clear t0 t1 t2 t3 t4 t5 t6 r0 r1 r2 r3 r4 r5 r6; obtain ⟨t0, t1, t2, t3, t4, t5, t6⟩ := DnBox.old V1.out HW.out.1; obtain ⟨r0, r1, r2, r3, r4, r5, r6⟩ := DnBox.old V1.out HW.out.2.1) | (go_at_call 29; refine (HRj.out _ V1.out).mono ?_; rintro e y2 ⟨rfl, v2⟩; have V2 := hid (V1.out.trans v2); clear v2; clear t0 t1 t2 t3 t4 t5 t6 r0 r1 r2 r3 r4 r5 r6; obtain ⟨t0, t1, t2, t3, t4, t5, t6⟩ := DnBox.old V2.out HW.out.1; obtain ⟨r0, r1, r2, r3, r4, r5, r6⟩ := DnBox.old V2.out HW.out.2.1))
                go_ret
                exact ⟨ret_b (by rw [HLd.out, HT.out]; rfl), V0.out.trans V2.out⟩
              · skip
                have HS := hid (HSt.out (by rw [HL1.out]; simp [h1, h2]))
                clear HSt HTr HL1 HLd
                go_wp2_with (first | (go_at_call 22; refine (HWj.out _ U.out).mono ?_; rintro e y1 ⟨rfl, v1⟩; have V1 := hid (U.out.trans v1); clear v1; clear t0 t1 t2 t3 t4 t5 t6 r0 r1 r2 r3 r4 r5 r6; obtain ⟨t0, t1, t2, t3, t4, t5, t6⟩ := DnBox.old V1.out HW.out.1; obtain ⟨r0, r1, r2, r3, r4, r5, r6⟩ := DnBox.old V1.out HW.out.2.1) | (go_at_call 29; refine (HRj.out _ V1.out).mono ?_; rintro e y2 ⟨rfl, v2⟩; have V2 := hid (V1.out.trans v2); clear v2; clear t0 t1 t2 t3 t4 t5 t6 r0 r1 r2 r3 r4 r5 r6; obtain ⟨t0, t1, t2, t3, t4, t5, t6⟩ := DnBox.old V2.out HW.out.1; obtain ⟨r0, r1, r2, r3, r4, r5, r6⟩ := DnBox.old V2.out HW.out.2.1))
                go_roundw
                case rel => exact ⟨j + 1, hlt, by go_num, HS.out, V2.out⟩
                case measure => simp [intOf]; omega
      · obtain rfl : j = a.s.n3 := by omega
        have HN := hid (show ld = Fl.anyG (l2B a b) b.s.n3 from by rw [HLd.out, H0.out]; simp)
        clear HCa HWb HRb HLd H0
        go_wp2
        go_loopw [7] (fun i wr => ∃ j : Nat, j ≤ b.s.n3 ∧ i = .int .i64 (j : Nat) ∧ Fl.anyG (l2B a b) j = false ∧ Old w1 wr) (fun i _ => b.s.n3 - (intOf i).toNat)
        case atStart => exact ⟨0, Nat.zero_le _, rfl, rfl, U.out⟩
        case round =>
          obtain ⟨k, hk, rfl, h0, hu⟩ := hrel
          have H0 := hid h0
          clear h0 U t0 t1 t2 t3 t4 t5 t6 r0 r1 r2 r3 r4 r5 r6
          obtain ⟨t0, t1, t2, t3, t4, t5, t6⟩ := DnBox.old hu HW.out.1
          obtain ⟨r0, r1, r2, r3, r4, r5, r6⟩ := DnBox.old hu HW.out.2.1
          have U := hid hu
          clear hu
          by_cases hlt2 : k < b.s.n3
          · obtain ⟨gb, off, hga, hWx, c0⟩ := HCb.out k hlt2
            rw [hga] at r6
            have x0 := (V0.out.trans U.out).keep c0
            have HRj := hid (fun (W : World) (u : Old wr W) => HRa.out W (V0.out.trans (U.out.trans u)) _ hWx)
            have HL2 : Hid (l2B a b k = (readB a.s (b.s.x3 k) && decide (a.s.s3 < b.n))) := hid rfl
            have HSt := hid (fun q => Fl.anyG_step (l2B a b) k H0.out q)
            have HTr := hid (fun q => Fl.anyG_true (l2B a b) b.s.n3 k hlt2 q)
            generalize l2B a b k = lj at *
            generalize readB a.s (b.s.x3 k) = q at *
            generalize b.s.x3 k = X at *
            have l1 : (0 : Int) ≤ (k : Int) := by omega
            have l2 : (k : Int) < (b.s.n3 : Int) := by omega
            have HD := hid (show DL3 m a b gb off k X wr from ⟨DnBox.old U.out HW.out.1, ⟨r0, r6⟩, x0⟩)
            clear c0 hWx HCb HRa hga H0
            cases q
            · have HS := hid (HSt.out (by rw [HL2.out]; simp))
              clear HSt HTr HL2 HN
              go_upto_region 14 with fail
              clear t0 t1 t2 t3 t4 t5 t6 r0 r1 r2 r3 r4 r5 r6 x0
              refine wp_region_noPanic ?_
              refine wp_region_held_drew (S := DL3 m a b gb off k X) (by kernel_rfl) ?_ (fun hHeld => ?_)
              · exact DL3.old ((Old.refl _).drew) HD.out
              (try simp only [Act.put]); (try simp only [List.setIfInBounds_toArray]); (try simp only [List.set_cons_succ]); (try simp only [List.set_cons_zero])
              clear hHeld
              refine wpAnyH_take (i := 0) (oi := { dst := some 58, op := Op.fieldAddr 33 (Operand.tmp 2) 1, type := 0, pos := "ref.go:66", after := #[], guard := none }) (v := ?vk1) rfl (by kernel_rfl) (by kernel_rfl) (by kernel_rfl) (fun _ _ _ h => h) (Or.inl ⟨by rfl, ?hk1⟩) (DL3.old ((Old.refl wr).drew) HD.out) ?rk1
              case hk1 => (intro wz hSw; (try dsimp only at hSw); go_simp; try with_reducible rfl)
              (try simp only [Act.put]); (try simp only [List.setIfInBounds_toArray]); (try simp only [List.set_cons_succ]); (try simp only [List.set_cons_zero])
              refine wpAnyH_take (i := 1) (oi := { dst := some 59, op := Op.load 31 (Operand.tmp 58), type := 31, pos := "ref.go:66", after := #[{ on := 0, ground := Ground.data }], guard := none }) (v := ?vk2) rfl (by kernel_rfl) (by kernel_rfl) (by kernel_rfl) (fun _ _ _ h => h) (Or.inl ⟨by rfl, ?hk2⟩) (DL3.old ((Old.refl wr).drew) HD.out) ?rk2
              case hk2 => (intro wz hSw; (try dsimp only at hSw); go_simp; try with_reducible rfl)
              (try simp only [Act.put]); (try simp only [List.setIfInBounds_toArray]); (try simp only [List.set_cons_succ]); (try simp only [List.set_cons_zero])
              refine wpAnyH_take (i := 2) (oi := { dst := some 60, op := Op.fieldAddr 33 (Operand.tmp 3) 1, type := 0, pos := "ref.go:66", after := #[], guard := none }) (v := ?vk3) rfl (by kernel_rfl) (by kernel_rfl) (by kernel_rfl) (fun _ _ _ h => h) (Or.inl ⟨by rfl, ?hk3⟩) (DL3.old ((Old.refl wr).drew) HD.out) ?rk3
              case hk3 => (intro wz hSw; (try dsimp only at hSw); go_simp; try with_reducible rfl)
              (try simp only [Act.put]); (try simp only [List.setIfInBounds_toArray]); (try simp only [List.set_cons_succ]); (try simp only [List.set_cons_zero])
              refine wpAnyH_take (i := 3) (oi := { dst := some 61, op := Op.fieldAddr 31 (Operand.tmp 60) 5, type := 0, pos := "ref.go:66", after := #[{ on := 2, ground := Ground.data }], guard := none }) (v := ?vk4) rfl (by kernel_rfl) (by kernel_rfl) (by kernel_rfl) (fun _ _ _ h => h) (Or.inl ⟨by rfl, ?hk4⟩) (DL3.old ((Old.refl wr).drew) HD.out) ?rk4
              case hk4 => (intro wz hSw; (try dsimp only at hSw); go_simp; try with_reducible rfl)
              (try simp only [Act.put]); (try simp only [List.setIfInBounds_toArray]); (try simp only [List.set_cons_succ]); (try simp only [List.set_cons_zero])
              refine wpAnyH_take (i := 4) (oi := { dst := some 62, op := Op.load 28 (Operand.tmp 61), type := 28, pos := "ref.go:66", after := #[{ on := 3, ground := Ground.data }], guard := none }) (v := ?vk5) rfl (by kernel_rfl) (by kernel_rfl) (by kernel_rfl) (fun _ _ _ h => h) (Or.inl ⟨by rfl, ?hk5⟩) (DL3.old ((Old.refl wr).drew) HD.out) ?rk5
              case hk5 => (intro wz hSw; (try dsimp only at hSw); go_simp; try with_reducible rfl)
              (try simp only [Act.put]); (try simp only [List.setIfInBounds_toArray]); (try simp only [List.set_cons_succ]); (try simp only [List.set_cons_zero])
              refine wpAnyH_take (i := 5) (oi := { dst := some 63, op := Op.move (Operand.tmp 7), type := 3, pos := "ref.go:66", after := #[], guard := none }) (v := ?vk6) rfl (by kernel_rfl) (by kernel_rfl) (by kernel_rfl) (fun _ _ _ h => h) (Or.inl ⟨by rfl, ?hk6⟩) (DL3.old ((Old.refl wr).drew) HD.out) ?rk6
              case hk6 => (intro wz hSw; (try dsimp only at hSw); go_simp; try with_reducible rfl)
              (try simp only [Act.put]); (try simp only [List.setIfInBounds_toArray]); (try simp only [List.set_cons_succ]); (try simp only [List.set_cons_zero])
              refine wpAnyH_take (i := 6) (oi := { dst := some 64, op := Op.indexAddr 28 (Operand.tmp 62) (Operand.tmp 63), type := 0, pos := "ref.go:66", after := #[{ on := 4, ground := Ground.data }, { on := 5, ground := Ground.data }], guard := none }) (v := ?vk7) rfl (by kernel_rfl) (by kernel_rfl) (by kernel_rfl) (fun _ _ _ h => h) (Or.inl ⟨by rfl, ?hk7⟩) (DL3.old ((Old.refl wr).drew) HD.out) ?rk7
              case hk7 => (intro wz hSw; (try dsimp only at hSw); go_simp; try with_reducible rfl)
              (try simp only [Act.put]); (try simp only [List.setIfInBounds_toArray]); (try simp only [List.set_cons_succ]); (try simp only [List.set_cons_zero])
              refine wpAnyH_take (i := 7) (oi := { dst := some 65, op := Op.load 43 (Operand.tmp 64), type := 43, pos := "ref.go:66", after := #[{ on := 6, ground := Ground.data }], guard := none }) (v := ?vk8) rfl (by kernel_rfl) (by kernel_rfl) (by kernel_rfl) (fun _ _ _ h => h) (Or.inl ⟨by rfl, ?hk8⟩) (DL3.old ((Old.refl wr).drew) HD.out) ?rk8
              case hk8 => (intro wz hSw; (try dsimp only at hSw); go_simp; try with_reducible rfl)
              (try simp only [Act.put]); (try simp only [List.setIfInBounds_toArray]); (try simp only [List.set_cons_succ]); (try simp only [List.set_cons_zero])
              refine wpAnyH_ready (rs := [8]) (by kernel_rfl) (by simp) ?_
              refine AllReadyH.cons (o := { dst := some 66, op := Op.call { callee := Callee.value (Operand.func 29), args := #[Operand.tmp 59, Operand.tmp 65], argTypes := #[31, 43] }, type := 4, pos := "ref.go:66", after := #[{ on := 1, ground := Ground.data }, { on := 7, ground := Ground.data }], guard := none }) rfl (fun K hK => ?_) AllReadyH.nil
              refine wantCall2 ?_ 29 (.tmp 59) (.tmp 65) #[31, 43] ?_ (.agg #[.int .i64 a.s.s1, .int .i64 a.s.s2, .int .i64 a.s.s3, .slice a.s.a1 a.s.n1 a.s.c1, .slice a.s.a2 a.s.n2 a.s.c2, .slice a.s.a3 a.s.n3 a.s.c3]) (.float .f64 X) ?_ ?_ ?_ (ent_rrd _ _) ?_
              · rfl
              · rfl
              · rfl
              · rfl
              · rfl
              refine (HRj.out _ ((Old.refl wr).drew)).mono ?_
              rintro o x9 ⟨rfl, b9⟩
              refine ⟨_, rfl, ?_⟩
              have U9 := ((Old.refl wr).drew).trans b9
              refine hK.out _ _ (DL3.old U9 HD.out) (fun _ => ?_)
              clear hK K
              (try simp only [Act.put]); (try simp only [List.setIfInBounds_toArray]); (try simp only [List.set_cons_succ]); (try simp only [List.set_cons_zero])
              refine wpAnyH_take (i := 9) (oi := { dst := some 67, op := Op.move (Operand.tmp 66), type := 4, pos := "ref.go:66", after := #[{ on := 8, ground := Ground.data }, { on := 8, ground := Ground.chain }], guard := none }) (v := ?vk10) rfl (by kernel_rfl) (by kernel_rfl) (by kernel_rfl) (fun _ _ _ h => h) (Or.inl ⟨by rfl, ?hk10⟩) (DL3.old U9 HD.out) ?rk10
              case hk10 => (intro wz hSw; (try dsimp only at hSw); go_simp; try with_reducible rfl)
              (try simp only [Act.put]); (try simp only [List.setIfInBounds_toArray]); (try simp only [List.set_cons_succ]); (try simp only [List.set_cons_zero])
              refine wpAnyH_take (i := 10) (oi := { dst := some 68, op := Op.fieldAddr 33 (Operand.tmp 2) 1, type := 0, pos := "ref.go:66", after := #[{ on := 9, ground := Ground.guard }], guard := some (9, true) }) (v := undef) rfl (by kernel_rfl) (by kernel_rfl) (by kernel_rfl) (fun _ _ _ h => h) (Or.inr ⟨by rfl, rfl⟩) (DL3.old U9 HD.out) ?_
              (try simp only [Act.put]); (try simp only [List.setIfInBounds_toArray]); (try simp only [List.set_cons_succ]); (try simp only [List.set_cons_zero])
              refine wpAnyH_take (i := 11) (oi := { dst := some 69, op := Op.fieldAddr 31 (Operand.tmp 68) 2, type := 0, pos := "ref.go:66", after := #[{ on := 10, ground := Ground.data }, { on := 9, ground := Ground.guard }], guard := some (9, true) }) (v := undef) rfl (by kernel_rfl) (by kernel_rfl) (by kernel_rfl) (fun _ _ _ h => h) (Or.inr ⟨by rfl, rfl⟩) (DL3.old U9 HD.out) ?_
              (try simp only [Act.put]); (try simp only [List.setIfInBounds_toArray]); (try simp only [List.set_cons_succ]); (try simp only [List.set_cons_zero])
              refine wpAnyH_take (i := 12) (oi := { dst := some 70, op := Op.load 2 (Operand.tmp 69), type := 2, pos := "ref.go:66", after := #[{ on := 11, ground := Ground.data }, { on := 9, ground := Ground.guard }], guard := some (9, true) }) (v := undef) rfl (by kernel_rfl) (by kernel_rfl) (by kernel_rfl) (fun _ _ _ h => h) (Or.inr ⟨by rfl, rfl⟩) (DL3.old U9 HD.out) ?_
              (try simp only [Act.put]); (try simp only [List.setIfInBounds_toArray]); (try simp only [List.set_cons_succ]); (try simp only [List.set_cons_zero])
              refine wpAnyH_take (i := 13) (oi := { dst := some 71, op := Op.fieldAddr 33 (Operand.tmp 3) 0, type := 0, pos := "ref.go:66", after := #[{ on := 9, ground := Ground.guard }], guard := some (9, true) }) (v := undef) rfl (by kernel_rfl) (by kernel_rfl) (by kernel_rfl) (fun _ _ _ h => h) (Or.inr ⟨by rfl, rfl⟩) (DL3.old U9 HD.out) ?_
              (try simp only [Act.put]); (try simp only [List.setIfInBounds_toArray]); (try simp only [List.set_cons_succ]); (try simp only [List.set_cons_zero])
              refine wpAnyH_take (i := 14) (oi := { dst := some 72, op := Op.load 2 (Operand.tmp 71), type := 2, pos := "ref.go:66", after := #[{ on := 13, ground := Ground.data }, { on := 9, ground := Ground.guard }], guard := some (9, true) }) (v := undef) rfl (by kernel_rfl) (by kernel_rfl) (by kernel_rfl) (fun _ _ _ h => h) (Or.inr ⟨by rfl, rfl⟩) (DL3.old U9 HD.out) ?_
              (try simp only [Act.put]); (try simp only [List.setIfInBounds_toArray]); (try simp only [List.set_cons_succ]); (try simp only [List.set_cons_zero])
              refine wpAnyH_take (i := 15) (oi := { dst := some 73, op := Op.binOp BinOp.lss 2 (Operand.tmp 70) (Operand.tmp 72) 2, type := 4, pos := "ref.go:66", after := #[{ on := 12, ground := Ground.data }, { on := 14, ground := Ground.data }, { on := 9, ground := Ground.guard }], guard := some (9, true) }) (v := undef) rfl (by kernel_rfl) (by kernel_rfl) (by kernel_rfl) (fun _ _ _ h => h) (Or.inr ⟨by rfl, rfl⟩) (DL3.old U9 HD.out) ?_
              (try simp only [Act.put]); (try simp only [List.setIfInBounds_toArray]); (try simp only [List.set_cons_succ]); (try simp only [List.set_cons_zero])
              refine wpAnyH_take (i := 16) (oi := { dst := some 74, op := Op.pick (Operand.tmp 67) (Operand.tmp 73) (Operand.const (Value.bool false)), type := 4, pos := "ref.go:66", after := #[{ on := 9, ground := Ground.data }, { on := 15, ground := Ground.data }], guard := none }) (v := ?vk11) rfl (by kernel_rfl) (by kernel_rfl) (by kernel_rfl) (fun _ _ _ h => h) (Or.inl ⟨by rfl, ?hk11⟩) (DL3.old U9 HD.out) ?rk11
              case hk11 => (intro wz hSw; (try dsimp only at hSw); go_simp; try with_reducible rfl)
              (try simp only [Act.put]); (try simp only [List.setIfInBounds_toArray]); (try simp only [List.set_cons_succ]); (try simp only [List.set_cons_zero])
              refine wpAnyH_done (by kernel_rfl) ?_ _
              refine NoPanic.normal ?_
              have V5 := hid U9
              go_wp2
              go_roundw
              case rel => exact ⟨k + 1, hlt2, by go_num, HS.out, U.out.trans V5.out⟩
              case measure => simp [intOf]; omega

            · by_cases h2 : a.s.s3 < b.n
              · skip
                have HT := hid (HTr.out (by rw [HL2.out]; simp [h2]))
                clear HSt HTr HL2
                go_upto_region 14 with fail
                go_region_held3 (DL3 m a b gb off k X) (first | assumption | exact HD.out | (refine DL3.old ?_ HD.out; assumption)) (first | (go_at_call 29; refine (HRj.out _ ((Old.refl _).drew)).mono ?_; rintro e w5 ⟨rfl, v5⟩; have U5 : Old wr w5 := ((Old.refl _).drew).trans v5))
                go_wp2
                go_ret
                exact ⟨ret_b (by rw [HN.out, HT.out]), V0.out.trans (U.out.trans U5)⟩
              · skip
                have HS := hid (HSt.out (by rw [HL2.out]; simp [h2]))
                clear HSt HTr HL2
                go_upto_region 14 with fail
                go_region_held3 (DL3 m a b gb off k X) (first | assumption | exact HD.out | (refine DL3.old ?_ HD.out; assumption)) (first | (go_at_call 29; refine (HRj.out _ ((Old.refl _).drew)).mono ?_; rintro e w5 ⟨rfl, v5⟩; have U5 : Old wr w5 := ((Old.refl _).drew).trans v5))
                go_wp2
                go_roundw
                case rel => exact ⟨k + 1, hlt2, by go_num, HS.out, U.out.trans U5⟩
                case measure => simp [intOf]; omega
          · obtain rfl : k = b.s.n3 := by omega
            have HF := hid (show ld = false from by rw [HN.out, H0.out])
            clear HCb HRa HN H0
            go_wp2
            go_ret
            exact ⟨ret_b (by rw [HF.out]), V0.out.trans U.out⟩
end Go.Proofs.YtbkbnfgjkefcmaaGreat
namespace Go.Proofs.YtbkbnfgjkefcmaaGreat
open Go.RowKit Go.Lib
set_option linter.unusedVariables false
set_option linter.unusedSimpArgs false
set_option maxRecDepth 20000
/-- What Version answers. -/
def rvF (d : Nat → Dn) (key : Nat) (snap : Int) : Nat → Int | 0 => 0 | i + 1 => if (decide ((d i).n ≤ snap) && writeB (d i).s key) = true then (d i).n else rvF d key snap i
theorem rvF_ver {d : Nat → Dn} {key : Nat} {m : Nat} : ∀ {n : Nat}, (∀ i, i < n → (d i).n = (i : Int) + 1) → m ≤ n → rvF d key (m : Int) n = ver d key m
  | 0, _, hm => by obtain rfl : m = 0 := by omega
                   rfl
  | n + 1, h, hm => by
    show (if (decide ((d n).n ≤ (m : Int)) && writeB (d n).s key) = true then (d n).n else rvF d key m n) = _
    by_cases e : m = n + 1
    · subst e
      have a : decide ((d n).n ≤ ((n + 1 : Nat) : Int)) = true := by rw [decide_eq_true_eq, h n (by omega)]; omega
      rw [a, Bool.true_and]
      show _ = if writeB (d n).s key = true then (d n).n else ver d key n
      congr 1
      have hx : ∀ k, k ≤ n → rvF d key ((n + 1 : Nat) : Int) k = ver d key k := fun k => by
        induction k with
        | zero => intro _; rfl
        | succ k ih =>
          intro hk
          show (if (decide ((d k).n ≤ ((n + 1 : Nat) : Int)) && writeB (d k).s key) = true then (d k).n else rvF d key _ k) = if writeB (d k).s key = true then (d k).n else ver d key k
          rw [decide_eq_true (by rw [h k (by omega)]; omega), Bool.true_and, ih (by omega)]
      exact hx n (Nat.le_refl _)
    · have a : decide ((d n).n ≤ (m : Int)) = false := by rw [decide_eq_false_iff_not, h n (by omega)]; omega
      rw [a, Bool.false_and]
      simp only [Bool.false_eq_true, if_false]
      exact rvF_ver (fun i hi => h i (by omega)) (by omega)
set_option maxHeartbeats 2000000 in
set_option maxRecDepth 20000 in
theorem rversion_any (v : Value) (n : Nat) (d : Nat → Dn) (key : Nat) (snap : Int) (hk : Fl.W key) (w : World) (hv : DRow w v n d) :
    Calls Tryz.prog 36 #[v, .float .f64 key, .int .i64 snap] w fun e w' => e = .returned (.int .i64 (rvF d key snap n)) ∧ Old w w' := by
  obtain ⟨hm, p, c, rfl, hnc, hcm, hc⟩ := hv
  have HC := hid hc
  have l0 : (n : Int) ≤ 1099511627776 := by omega
  clear hc hm hcm hnc
  go_enter Tryz.func36, Tryz.ntmps36
  go_wp2
  go_loopw [7, 8] (fun m i wr => ∃ k : Nat, k ≤ n ∧ m = .int .i64 (rvF d key snap k) ∧ i = .int .i64 (k : Nat) ∧ Old w wr) (fun _ i _ => n - (intOf i).toNat)
  case atStart => exact ⟨0, Nat.zero_le _, rfl, rfl, Old.refl _⟩
  case round =>
    obtain ⟨k, hkn, rfl, rfl, hu⟩ := hrel
    have U := hid hu
    by_cases hlt : k < n
    · obtain ⟨gd, off, ha, c0, hs⟩ := HC.out k hlt
      subst ha
      obtain ⟨x0, x1, x2, x3, x4, x5, x6⟩ := c0.old hu
      have l1 : (0 : Int) ≤ (k : Int) := by omega
      have l2 : (k : Int) < (n : Int) := by omega
      have HWr := hid (fun (W' : World) (u : Old w W') => rwrites_any (d k).s key hk W' (hs.old u))
      have HVs : Hid (rvF d key snap (k + 1) = if (decide ((d k).n ≤ snap) && writeB (d k).s key) = true then (d k).n else rvF d key snap k) := hid rfl
      have HO := hid (c0.old hu)
      clear hs hu HC
      generalize rvF d key snap k = vk at *
      generalize writeB (d k).s key = p at *
      by_cases h1 : (d k).n ≤ snap
      · cases p
        · have HE := hid (show rvF d key snap (k + 1) = vk from by rw [HVs.out]; simp)
          clear HVs
          go_wp2_with (first | (go_at_call 22; refine (HWr.out _ U.out).mono ?_; rintro e y1 ⟨rfl, v1⟩; have V1 := hid (U.out.trans v1); clear v1))
          go_roundw
          case rel => exact ⟨k + 1, hlt, by rw [HE.out], by go_num, V1.out⟩
          case measure => simp [intOf]; omega
        · have HE := hid (show rvF d key snap (k + 1) = (d k).n from by rw [HVs.out]; simp [h1])
          clear HVs
          go_wp2_with (first | (go_at_call 22; refine (HWr.out _ U.out).mono ?_; rintro e y1 ⟨rfl, v1⟩; have V1 := hid (U.out.trans v1); clear x0 x1 x2 x3 x4 x5 x6; obtain ⟨x0, x1, x2, x3, x4, x5, x6⟩ := HO.out.old v1; clear v1))
          go_roundw
          case rel => exact ⟨k + 1, hlt, by rw [HE.out], by go_num, V1.out⟩
          case measure => simp [intOf]; omega
      · have HE := hid (show rvF d key snap (k + 1) = vk from by rw [HVs.out]; simp [h1])
        clear HVs
        go_wp2
        go_roundw
        case rel => exact ⟨k + 1, hlt, by rw [HE.out], by go_num, U.out⟩
        case measure => simp [intOf]; omega
    · obtain rfl : n = k := by omega
      clear HC
      go_wp2
      go_ret
      exact ⟨rfl, U.out⟩
end Go.Proofs.YtbkbnfgjkefcmaaGreat
namespace Go.Proofs.YtbkbnfgjkefcmaaGreat
open Go.RowKit Go.Lib
set_option linter.unusedVariables false
set_option linter.unusedSimpArgs false
set_option maxRecDepth 20000
def kyR (s : Sb) : Nat → List Nat | 0 => [] | k + 1 => kyR s k ++ [s.x3 k]
def kyU (d : Nat → Dn) : Nat → List Nat | 0 => [] | k + 1 => kyU d k ++ kyR (d k).s (d k).s.n3
theorem kyR_len (s : Sb) : ∀ k, (kyR s k).length = k
  | 0 => rfl
  | k + 1 => by show (kyR s k ++ [s.x3 k]).length = k + 1; rw [List.length_append, kyR_len s k]; rfl
theorem kyU_len {d : Nat → Dn} : ∀ {n : Nat}, (∀ i, i < n → (d i).s.n3 ≤ 16) → (kyU d n).length ≤ n * 16
  | 0, _ => Nat.le_refl _
  | n + 1, h => by
    have a := kyU_len (d := d) (n := n) fun i hi => h i (by omega)
    have b := h n (by omega)
    show (kyU d n ++ kyR (d n).s (d n).s.n3).length ≤ _
    rw [List.length_append, kyR_len]
    omega
theorem kyR_mem {s : Sb} {x : Nat} : ∀ {k : Nat}, x ∈ kyR s k ↔ ∃ j, j < k ∧ x = s.x3 j
  | 0 => by simp [kyR]
  | k + 1 => by
    show x ∈ kyR s k ++ [s.x3 k] ↔ _
    rw [List.mem_append, kyR_mem, List.mem_singleton]
    constructor
    · rintro (⟨j, hj, e⟩ | e)
      · exact ⟨j, by omega, e⟩
      · exact ⟨k, by omega, e⟩
    · rintro ⟨j, hj, e⟩
      by_cases q : j = k
      · subst q; exact Or.inr e
      · exact Or.inl ⟨j, by omega, e⟩
theorem kyU_mem {d : Nat → Dn} {x : Nat} : ∀ {n : Nat}, x ∈ kyU d n ↔ ∃ i j, i < n ∧ j < (d i).s.n3 ∧ x = (d i).s.x3 j
  | 0 => by simp [kyU]
  | n + 1 => by
    show x ∈ kyU d n ++ kyR (d n).s (d n).s.n3 ↔ _
    rw [List.mem_append, kyU_mem, kyR_mem]
    constructor
    · rintro (⟨i, j, hi, hj, e⟩ | ⟨j, hj, e⟩)
      · exact ⟨i, j, by omega, hj, e⟩
      · exact ⟨n, j, by omega, hj, e⟩
    · rintro ⟨i, j, hi, hj, e⟩
      by_cases q : i = n
      · subst q; exact Or.inr ⟨j, hj, e⟩
      · exact Or.inl ⟨i, j, by omega, hj, e⟩
attribute [local go_sem] run_bits run_frombits run_store_float eqF
set_option maxHeartbeats 2000000 in
set_option maxRecDepth 20000 in
theorem rkeys_any (v : Value) (n : Nat) (d : Nat → Dn) (w : World) (hv : DRow w v n d) (hn : n ≤ 64) (h16 : ∀ i, i < n → (d i).s.n3 ≤ 16) :
    Calls Tryz.prog 21 #[v] w fun e w' => ∃ v', e = .returned v' ∧ OwnF w.heap.size w' v' (kyU d n) ∧ Old w w' := by
  obtain ⟨hm, p, c, rfl, hnc, hcm, hc⟩ := hv
  have HC := hid hc
  have l0 : (n : Int) ≤ 64 := by omega
  have H16 := hid h16
  have HKl := hid (fun (k : Nat) (hk : k ≤ n) => kyU_len (d := d) (n := k) fun i hi => h16 i (by omega))
  clear hc hm hcm hnc h16
  go_enter Tryz.func21, Tryz.ntmps21
  go_upto_region 2 with fail
  generalize hw1 : w.alloc (.cells #[] 43) = w1 at *
  have O1 := hid (show OwnF w.heap.size w1 (.slice (some ⟨w.heap.size, 0, none⟩) 0 0) [] from by rw [← hw1]; exact OwnF.empty (Nat.le_refl _) rfl)
  have U1 := hid (show Old w w1 from by rw [← hw1]; exact (Old.refl w).alloc _)
  clear hw1
  go_wp2
  go_loopw [3, 4] (fun o i wr => ∃ (k : Nat) (vo : Value), vo = o ∧ k ≤ n ∧ i = .int .i64 (k : Nat) ∧ OwnF w.heap.size wr vo (kyU d k) ∧ Old w wr) (fun _ i _ => n - (intOf i).toNat)
  case atStart => exact ⟨0, _, rfl, Nat.zero_le _, rfl, O1.out, U1.out⟩
  case round =>
    obtain ⟨k, vo, rfl, hk, rfl, hO, hu⟩ := hrel
    have HO := hid hO
    have HU := hid hu
    clear hO U1 O1
    by_cases hlt : k < n
    · obtain ⟨g, off, ha, c0, hs⟩ := HC.out k hlt
      subst ha
      have HD := hid (fun (W : World) (u : Old w W) => c0.old u)
      have h3 := hs.h3
      obtain ⟨_, pa, ca, hva, hca⟩ := h3
      cases hva
      have HCa := hid hca
      have hn3 := H16.out k hlt
      have ln3 : ((d k).s.n3 : Int) ≤ 16 := by omega
      have l1 : (0 : Int) ≤ (k : Int) := by omega
      have l2 : (k : Int) < (n : Int) := by omega
      have HSt : Hid (kyU d (k + 1) = kyU d k ++ kyR (d k).s (d k).s.n3) := hid rfl
      have HKb := hid (show (kyU d k).length ≤ 1024 from Nat.le_trans (HKl.out k hk) (by omega))
      clear c0 hs hca hu HC HKl
      go_wp2
      go_loopw [3, 5] (fun o i wr => ∃ (j : Nat) (vj : Value), vj = o ∧ j ≤ (d k).s.n3 ∧ i = .int .i64 (j : Nat) ∧ OwnF w.heap.size wr vj (kyU d k ++ kyR (d k).s j) ∧ Old w wr) (fun _ i _ => (d k).s.n3 - (intOf i).toNat)
      case atStart => exact ⟨0, _, rfl, Nat.zero_le _, rfl, by show OwnF _ _ _ (kyU d k ++ []); rw [List.append_nil]; exact HO.out, HU.out⟩
      case round =>
        obtain ⟨j, vj, rfl, hj, rfl, hO, hu⟩ := hrel
        clear HO HU
        have HO := hid hO
        have HU := hid hu
        obtain ⟨x0, x1, x2, x3, x4, x5, x6⟩ := HD.out _ hu
        clear hO
        by_cases hjt : j < (d k).s.n3
        · obtain ⟨gb, ob, hga, hWx, c0⟩ := HCa.out j hjt
          rw [hga] at x6
          have y0 := hu.keep c0
          have HSj : Hid (kyR (d k).s (j + 1) = kyR (d k).s j ++ [(d k).s.x3 j]) := hid rfl
          have HJl := hid (show (kyU d k ++ kyR (d k).s j).length + 1 ≤ 17592186044416 by rw [List.length_append, kyR_len]; have := HKb.out; omega)
          have m1 : (0 : Int) ≤ (j : Int) := by omega
          have m2 : (j : Int) < ((d k).s.n3 : Int) := by omega
          clear c0 hWx hga hu HCa
          generalize (d k).s.x3 j = X at *
          go_wp2_with (first | (at_builtin; refine wp_appF rfl (.tmp 24) (.tmp 34) rfl w.heap.size _ (kyU d k ++ kyR (d k).s j) _ 1 X rfl rfl (OwnF.up HO.out ((Old.refl _).alloc _)) (cell_one _ _ _ (by simp)) (by have := HJl.out; omega) (by have := HU.out.size; simp; omega) ?_; intro v8 w8 o8 u8; have O8 := hid o8; have V8 := hid (below_up' HU.out ((Old.refl _).alloc _) u8); clear o8 u8))
          go_roundw
          case rel => exact ⟨j + 1, _, rfl, hjt, by go_num, by rw [HSj.out, ← List.append_assoc]; exact O8.out, V8.out⟩
          case measure => simp [intOf]; omega
        · obtain rfl : j = (d k).s.n3 := by omega
          clear HCa
          go_wp2
          go_roundw
          case rel => exact ⟨k + 1, _, rfl, hlt, by go_num, by rw [HSt.out]; exact HO.out, HU.out⟩
          case measure => simp [intOf]; omega
    · obtain rfl : k = n := by omega
      clear HC
      go_wp2
      go_ret
      exact ⟨_, rfl, HO.out, HU.out⟩
end Go.Proofs.YtbkbnfgjkefcmaaGreat
namespace Go.Proofs.YtbkbnfgjkefcmaaGreat
open Go.RowKit Go.Lib
set_option linter.unusedVariables false
set_option linter.unusedSimpArgs false
set_option maxRecDepth 20000
theorem ent_rwr (args : Array Value) (w : World) : (callFunc 22 args).run Tryz.prog w = .ok (.enter 22 args) w := by kernel_rfl
theorem okU_iff {d : Nat → Dn} : ∀ {n : Nat}, okU d n = true ↔ ∀ i, i < n → okB d i = true
  | 0 => ⟨fun _ i hi => by omega, fun _ => rfl⟩
  | n + 1 => by
    show (okU d n && okB d n) = true ↔ _
    rw [Bool.and_eq_true, okU_iff]
    constructor
    · rintro ⟨a, b⟩ i hi
      by_cases e : i = n
      · subst e; exact b
      · exact a i (by omega)
    · intro h
      exact ⟨fun i hi => h i (by omega), h n (by omega)⟩
/-- Is the transaction at a place right by itself? -/
def o1B (d : Nat → Dn) (i : Nat) : Bool := decide ((d i).n = (i : Int) + 1) && (decide ((d i).s.chk = 0) && !decide ((d i).n ≤ (d i).s.s3))
theorem okB_o1 (d : Nat → Dn) (i : Nat) : okB d i = (o1B d i && !Fl.anyG (fun j => clB (d i) (d j)) i) := by
  unfold okB o1B
  simp only [Bool.and_assoc]
/-- Are both of two written at a place of a row of keys? -/
def kwB (a b : Dn) (L : List Nat) (t : Nat) : Bool := writeB a.s (L.getD t 0) && writeB b.s (L.getD t 0)
theorem o1_chk {d : Nat → Dn} {i : Nat} (h : o1B d i = true) : (d i).s.chk = 0 := by
  unfold o1B at h
  rw [Bool.and_eq_true, Bool.and_eq_true, decide_eq_true_eq, decide_eq_true_eq] at h
  exact h.2.1
theorem o1_16 {d : Nat → Dn} {i : Nat} (h : o1B d i = true) : (d i).s.n3 ≤ 16 := (crowd_rng (chk_parts (o1_chk h)).2.1).2.2
theorem chk_nan {s : Sb} (h : s.chk = 0) {j : Nat} (hj : j < s.n3) : Fl.nan (s.x3 j) = false := by
  have q := (chk_parts h).2.2.1
  rw [Bool.or_eq_false_iff] at q
  cases e : Fl.nan (s.x3 j)
  · rfl
  · have := Fl.anyG_true (fun i => Fl.nan (s.x3 i)) s.n3 j hj e
    rw [q.2] at this
    cases this
theorem wr_own {s : Sb} (h : s.chk = 0) {j : Nat} (hj : j < s.n3) : writeB s (s.x3 j) = true := by
  refine anyG_iff.2 ⟨j, hj, ?_⟩
  unfold keyEq
  rw [chk_nan h hj]
  simp
theorem cl_keys {d : Nat → Dn} {n i k : Nat} (ho : ∀ i, i < n → o1B d i = true) (hi : i < n) (hk : k < n) : clB (d i) (d k) = (bsB (d i) (d k) && Fl.anyG (kwB (d i) (d k) (kyU d n)) (kyU d n).length) := by
  unfold clB
  congr 1
  rw [Bool.eq_iff_iff, anyG_iff]
  constructor
  · intro h
    obtain ⟨j, hj, e⟩ := anyG_iff.1 h
    obtain ⟨t, ht, e2⟩ := List.getElem_of_mem (kyU_mem (d := d) (n := n).2 ⟨i, j, hi, hj, rfl⟩)
    refine ⟨t, ht, ?_⟩
    have e3 : (kyU d n).getD t 0 = (d i).s.x3 j := by rw [← e2]; simp [List.getD_eq_getElem?_getD, ht]
    unfold kwB
    rw [e3, wr_own (o1_chk (ho i hi)) hj, e]
    rfl
  · rintro ⟨t, ht, e⟩
    unfold kwB at e
    rw [Bool.and_eq_true] at e
    exact bw_of e.1 e.2
theorem Old.setCells {a : World} {b : Nat} (hb : a.heap.size ≤ b) : ∀ (vs : List Value) (o : Nat) {w : World}, Old a w → Old a (w.setCells b o vs)
  | [], _, _, h => h
  | v :: r, o, _, h => by rw [World.setCells]; exact Old.setCells hb r (o + 1) (h.setCell hb v)
abbrev dnRow (a : Dn) : List Value := [.int .i64 a.n, .int .i64 a.s.s1, .int .i64 a.s.s2, .int .i64 a.s.s3, .slice a.s.a1 a.s.n1 a.s.c1, .slice a.s.a2 a.s.n2 a.s.c2, .slice a.s.a3 a.s.n3 a.s.c3]
/-- A variable of a transaction, whatever it holds. -/
def ZBox (m : Nat) (w : World) : Prop := ∀ j, j < 7 → (w.cell? ⟨m, 0 + j, none⟩).isSome = true ∧ w.frozen? ⟨m, 0 + j, none⟩ = false
theorem ZBox.there {m : Nat} {w : World} (h : ZBox m w) : w.there m 0 7 := fun j hj => h j hj
theorem ZBox.lt {m : Nat} {w : World} (h : ZBox m w) : m < w.heap.size := by
  obtain ⟨v, hv⟩ := Option.isSome_iff_exists.1 (h 0 (by omega)).1
  exact World.block_lt_of_cell? w _ hv
theorem ZBox.old {m : Nat} {w w' : World} (h : ZBox m w) (u : Old w w') : ZBox m w' := fun j hj => by
  obtain ⟨a, b⟩ := h j hj
  obtain ⟨v, hv⟩ := Option.isSome_iff_exists.1 a
  exact ⟨by rw [u.keep hv]; rfl, u.keepF hv b⟩
theorem ZBox.new (w : World) : ZBox w.heap.size (w.alloc (.cells #[.int .i64 0, .int .i64 0, .int .i64 0, .int .i64 0, .slice none 0 0, .slice none 0 0, .slice none 0 0] 33)) := fun j hj => by
  match j, hj with
  | 0, _ | 1, _ | 2, _ | 3, _ | 4, _ | 5, _ | 6, _ => simp
theorem ZBox.far {m n : Nat} {w : World} (h : ZBox n w) (hn : n ≠ m) (vs : List Value) (o : Nat) : ZBox n (w.setCells m o vs) := fun j hj => by
  have q := h j hj
  rw [World.cell?_setCells_out m vs o w ⟨n, 0 + j, none⟩ (fun e => absurd e hn), World.frozen?_setCells]
  exact q
theorem DnBox.stored {m : Nat} {w : World} (h : ZBox m w) (a : Dn) : DnBox m a (w.setCells m 0 (dnRow a)) := by
  have H := World.cell?_setCells_in m (dnRow a) 0 w (fun j hj => (h j hj).1)
  exact ⟨by simpa using H 0 (by simp), by simpa using H 1 (by simp), by simpa using H 2 (by simp), by simpa using H 3 (by simp), by simpa using H 4 (by simp), by simpa using H 5 (by simp), by simpa using H 6 (by simp)⟩
theorem DnBox.far {m n : Nat} {a : Dn} {w : World} (h : DnBox n a w) (hn : n ≠ m) (vs : List Value) (o : Nat) : DnBox n a (w.setCells m o vs) := by
  have H : ∀ k, (w.setCells m o vs).cell? ⟨n, k, none⟩ = w.cell? ⟨n, k, none⟩ := fun k => World.cell?_setCells_out m vs o w ⟨n, k, none⟩ (fun e => absurd e hn)
  exact ⟨by rw [H]; exact h.1, by rw [H]; exact h.2.1, by rw [H]; exact h.2.2.1, by rw [H]; exact h.2.2.2.1, by rw [H]; exact h.2.2.2.2.1, by rw [H]; exact h.2.2.2.2.2.1, by rw [H]; exact h.2.2.2.2.2.2⟩
/-- Which of two new variables are there. -/
def J2d (w0 : World) (f g : Option Nat) (w : World) : Prop := Old w0 w ∧ (∀ m, f = some m → w0.heap.size ≤ m ∧ ZBox m w) ∧ (∀ m, g = some m → w0.heap.size ≤ m ∧ ZBox m w) ∧ (∀ m n, f = some m → g = some n → n ≠ m)
theorem J2d.start (w0 : World) : J2d w0 none none w0.drew := ⟨(Old.refl _).drew, fun _ h => (by cases h), fun _ h => (by cases h), fun _ _ h => (by cases h)⟩
theorem J2d.up {w0 : World} {f g : Option Nat} {w w' : World} (j : J2d w0 f g w) (u : Old w w') : J2d w0 f g w' :=
  ⟨j.1.trans u, fun m h => ⟨(j.2.1 m h).1, (j.2.1 m h).2.old u⟩, fun m h => ⟨(j.2.2.1 m h).1, (j.2.2.1 m h).2.old u⟩, j.2.2.2⟩
theorem J2d.nF {w0 : World} {g : Option Nat} {w w' : World} {m : Nat} (j : J2d w0 none g w) (hm : m = w.heap.size) (hw : w' = w.alloc (.cells #[.int .i64 0, .int .i64 0, .int .i64 0, .int .i64 0, .slice none 0 0, .slice none 0 0, .slice none 0 0] 33)) : J2d w0 (some m) g w' := by
  subst hm hw
  have k := j.up ((Old.refl w).alloc (.cells #[.int .i64 0, .int .i64 0, .int .i64 0, .int .i64 0, .slice none 0 0, .slice none 0 0, .slice none 0 0] 33))
  refine ⟨k.1, ?_, k.2.2.1, ?_⟩
  · rintro m h; cases h; exact ⟨j.1.size, ZBox.new w⟩
  · rintro m n h h' e; cases h; subst e; exact absurd (j.2.2.1 _ h').2.lt (Nat.lt_irrefl _)
theorem J2d.nG {w0 : World} {f : Option Nat} {w w' : World} {m : Nat} (j : J2d w0 f none w) (hm : m = w.heap.size) (hw : w' = w.alloc (.cells #[.int .i64 0, .int .i64 0, .int .i64 0, .int .i64 0, .slice none 0 0, .slice none 0 0, .slice none 0 0] 33)) : J2d w0 f (some m) w' := by
  subst hm hw
  have k := j.up ((Old.refl w).alloc (.cells #[.int .i64 0, .int .i64 0, .int .i64 0, .int .i64 0, .slice none 0 0, .slice none 0 0, .slice none 0 0] 33))
  refine ⟨k.1, k.2.1, ?_, ?_⟩
  · rintro m h; cases h; exact ⟨j.1.size, ZBox.new w⟩
  · rintro m n h h' e; cases h'; subst e; exact absurd (j.2.1 _ h).2.lt (Nat.lt_irrefl _)
theorem J2d.thereF {w0 : World} {m : Nat} {g : Option Nat} {w : World} (j : J2d w0 (some m) g w) : w.there m 0 7 := (j.2.1 m rfl).2.there
theorem J2d.upF {w0 : World} {m : Nat} {g : Option Nat} {w : World} (j : J2d w0 (some m) g w) (vs : List Value) : Old w0 (w.setCells m 0 vs) := Old.setCells (j.2.1 m rfl).1 _ _ j.1
theorem J2d.thereG {w0 : World} {m n : Nat} {w : World} (j : J2d w0 (some m) (some n) w) (vs : List Value) : (w.setCells m 0 vs).there n 0 7 := ((j.2.2.1 n rfl).2.far (j.2.2.2 m n rfl rfl) vs 0).there
theorem J2d.fin {w0 : World} {m n : Nat} {w : World} (j : J2d w0 (some m) (some n) w) (a b : Dn) (W : World) (e : (w.setCells m 0 (dnRow a)).setCells n 0 (dnRow b) = W) : DnBox m a W ∧ DnBox n b W ∧ Old w0 W := by
  subst e
  exact ⟨(DnBox.stored (j.2.1 m rfl).2 a).far (fun e => j.2.2.2 m n rfl rfl e.symm) _ _, DnBox.stored ((j.2.2.1 n rfl).2.far (j.2.2.2 m n rfl rfl) _ _) b, Old.setCells (j.2.2.1 n rfl).1 _ _ (j.upF _)⟩
/-- One of two new variables is written. -/
def J1d (w0 : World) (m n : Nat) (a : Dn) (w : World) : Prop := Old w0 w ∧ DnBox m a w ∧ w0.heap.size ≤ n ∧ ZBox n w ∧ n ≠ m
theorem J2d.one {w0 : World} {m n : Nat} {w : World} (j : J2d w0 (some m) (some n) w) (a : Dn) (W : World) (e : w.setCells m 0 (dnRow a) = W) : J1d w0 m n a W := by
  subst e
  exact ⟨j.upF _, DnBox.stored (j.2.1 m rfl).2 a, (j.2.2.1 n rfl).1, (j.2.2.1 n rfl).2.far (j.2.2.2 m n rfl rfl) _ _, j.2.2.2 m n rfl rfl⟩
theorem J1d.fin {w0 : World} {m n : Nat} {a : Dn} {w : World} (j : J1d w0 m n a w) (b : Dn) (W : World) (e : w.setCells n 0 (dnRow b) = W) : DnBox m a W ∧ DnBox n b W ∧ Old w0 W := by
  subst e
  exact ⟨j.2.1.far (fun e => j.2.2.2.2 e.symm) _ _, DnBox.stored j.2.2.2.1 b, Old.setCells j.2.2.1 _ _ j.1⟩
theorem infoDone : (Tryz.prog.info? 33).map (·.size) = some 7 := by kernel_rfl
/-- A new variable of a transaction, as a step of a region that draws. -/
theorem stepAllocD {ops : Array Oper} {o : Oper} {a : Act} {w : World} {K : Act → World → Prop} {Q : Exit → Act → World → Prop} {E : Prop} (hg : o.guard = none) (hop : o.op = Op.alloc 33)
    (hK : ∀ m w', m = w.heap.size → w' = w.alloc (.cells #[.int .i64 0, .int .i64 0, .int .i64 0, .int .i64 0, .slice none 0 0, .slice none 0 0, .slice none 0 0] 33) → K (a.put o.dst (.pointer (some ⟨m, 0, none⟩))) w') :
    if Region.wanted o (yielded ops a.tmps) = true then Oper.wp Tryz.prog o a w K Q else E := by
  have hw : Region.wanted o (yielded ops a.tmps) = true := by simp [Region.wanted, hg]
  rw [if_pos hw]
  obtain ⟨d, p, t, ps, af, gd⟩ := o
  subst hop
  go_simp
  exact hK _ _ rfl rfl
theorem stepStoreD {ops : Array Oper} {o : Oper} {a : Act} {w : World} {K : Act → World → Prop} {Q : Exit → Act → World → Prop} {E : Prop} (hg : o.guard = none) (x y : Operand) (hop : o.op = Op.store 33 x y) (m : Nat) (b : Dn)
    (hx : a.eval x = .pointer (some ⟨m, 0, none⟩)) (hy : a.eval y = .agg #[.int .i64 b.n, .int .i64 b.s.s1, .int .i64 b.s.s2, .int .i64 b.s.s3, .slice b.s.a1 b.s.n1 b.s.c1, .slice b.s.a2 b.s.n2 b.s.c2, .slice b.s.a3 b.s.n3 b.s.c3]) (ht : w.there m 0 7)
    (hK : K (a.put o.dst undef) (w.setCells m 0 (dnRow b))) :
    if Region.wanted o (yielded ops a.tmps) = true then Oper.wp Tryz.prog o a w K Q else E := by
  have hw : Region.wanted o (yielded ops a.tmps) = true := by simp [Region.wanted, hg]
  rw [if_pos hw]
  exact wp_store_mid _ x y hop m 0 _ hx hy ht infoDone (by simp [Value.oneCell']) hK
/-- Two places of a row of transactions. -/
abbrev DD3 (g o p : Nat) (a b : Dn) (w : World) : Prop := (w.cell? ⟨g, o, none⟩ = some (.int .i64 a.n) ∧ w.cell? ⟨g, o + 1, none⟩ = some (.int .i64 a.s.s1) ∧ w.cell? ⟨g, o + 2, none⟩ = some (.int .i64 a.s.s2) ∧ w.cell? ⟨g, o + 3, none⟩ = some (.int .i64 a.s.s3) ∧ w.cell? ⟨g, o + 4, none⟩ = some (.slice a.s.a1 a.s.n1 a.s.c1) ∧ w.cell? ⟨g, o + 5, none⟩ = some (.slice a.s.a2 a.s.n2 a.s.c2) ∧ w.cell? ⟨g, o + 6, none⟩ = some (.slice a.s.a3 a.s.n3 a.s.c3)) ∧ (w.cell? ⟨g, p, none⟩ = some (.int .i64 b.n) ∧ w.cell? ⟨g, p + 1, none⟩ = some (.int .i64 b.s.s1) ∧ w.cell? ⟨g, p + 2, none⟩ = some (.int .i64 b.s.s2) ∧ w.cell? ⟨g, p + 3, none⟩ = some (.int .i64 b.s.s3) ∧ w.cell? ⟨g, p + 4, none⟩ = some (.slice b.s.a1 b.s.n1 b.s.c1) ∧ w.cell? ⟨g, p + 5, none⟩ = some (.slice b.s.a2 b.s.n2 b.s.c2) ∧ w.cell? ⟨g, p + 6, none⟩ = some (.slice b.s.a3 b.s.n3 b.s.c3))
theorem DD3.old {g o p : Nat} {a b : Dn} {w w' : World} (u : Old w w') (h : DD3 g o p a b w) : DD3 g o p a b w' := ⟨DnIn.old h.1 u, DnIn.old h.2 u⟩
/-- Two variables of transactions, and a key of a row. -/
abbrev KB3 (m n : Nat) (a b : Dn) (gk t X : Nat) (w : World) : Prop := (w.cell? ⟨m, 0, none⟩ = some (.int .i64 a.n) ∧ w.cell? ⟨m, 1, none⟩ = some (.int .i64 a.s.s1) ∧ w.cell? ⟨m, 2, none⟩ = some (.int .i64 a.s.s2) ∧ w.cell? ⟨m, 3, none⟩ = some (.int .i64 a.s.s3) ∧ w.cell? ⟨m, 4, none⟩ = some (.slice a.s.a1 a.s.n1 a.s.c1) ∧ w.cell? ⟨m, 5, none⟩ = some (.slice a.s.a2 a.s.n2 a.s.c2) ∧ w.cell? ⟨m, 6, none⟩ = some (.slice a.s.a3 a.s.n3 a.s.c3)) ∧ (w.cell? ⟨n, 0, none⟩ = some (.int .i64 b.n) ∧ w.cell? ⟨n, 1, none⟩ = some (.int .i64 b.s.s1) ∧ w.cell? ⟨n, 2, none⟩ = some (.int .i64 b.s.s2) ∧ w.cell? ⟨n, 3, none⟩ = some (.int .i64 b.s.s3) ∧ w.cell? ⟨n, 4, none⟩ = some (.slice b.s.a1 b.s.n1 b.s.c1) ∧ w.cell? ⟨n, 5, none⟩ = some (.slice b.s.a2 b.s.n2 b.s.c2) ∧ w.cell? ⟨n, 6, none⟩ = some (.slice b.s.a3 b.s.n3 b.s.c3)) ∧ w.cell? ⟨gk, t, none⟩ = some (.float .f64 X)
theorem KB3.old {m n : Nat} {a b : Dn} {gk t X : Nat} {w w' : World} (u : Old w w') (h : KB3 m n a b gk t X w) : KB3 m n a b gk t X w' := ⟨DnBox.old u h.1, DnBox.old u h.2.1, u.keep h.2.2⟩
theorem OwnF.cells {base : Nat} {w : World} {v : Value} {L : List Nat} (h : OwnF base w v L) : ∃ p c, v = .slice p L.length c ∧ ∀ i, i < L.length → ∃ g, p = some ⟨g, 0, none⟩ ∧ w.cell? ⟨g, i, none⟩ = some (.float .f64 (L.getD i 0)) := by
  by_cases hz : 0 < L.length
  · obtain ⟨g, cap, e, _, _, hc⟩ := h.shape hz
    exact ⟨_, cap, e, fun i hi => ⟨g, rfl, by rw [hc i hi]; simp [List.getD_eq_getElem?_getD, hi]⟩⟩
  · obtain ⟨a, c, e⟩ := h.len
    exact ⟨a, c, e, fun i hi => by omega⟩
end Go.Proofs.YtbkbnfgjkefcmaaGreat
namespace Go.Proofs.YtbkbnfgjkefcmaaGreat
open Go.RowKit Go.Lib
set_option linter.unusedVariables false
set_option linter.unusedSimpArgs false
set_option maxRecDepth 20000
attribute [local go_sem] run_bits run_frombits run_store_float eqF
set_option maxHeartbeats 8000000 in
set_option maxRecDepth 20000 in
theorem rright_any (v : Value) (n : Nat) (d : Nat → Dn) (w : World) (hv : DRow w v n d) : Calls Tryz.prog 9 #[v] w fun e w' => e = .returned (.bool (rtB d n)) ∧ Old w w' := by
  have HKy := hid (fun (W : World) (u : Old w W) (hn : n ≤ 64) (h16 : ∀ i, i < n → (d i).s.n3 ≤ 16) => rkeys_any v n d W (hv.old u) hn h16)
  obtain ⟨hm, p, c, rfl, hnc, hcm, hc⟩ := hv
  have HC := hid hc
  have HRt : Hid (rtB d n = (decide (n ≤ 64) && okU d n)) := hid rfl
  clear hc hm hnc hcm
  generalize rtB d n = rt at *
  by_cases h64 : n ≤ 64
  · have l0 : (n : Int) ≤ 64 := by omega
    rw [decide_eq_true h64, Bool.true_and] at HRt
    have l3 : ¬ ((64 : Int) < (n : Int)) := by omega
    have H64 := hid h64
    clear h64
    go_enter Tryz.func9, Tryz.ntmps9
    go_wp2
    go_loopw [3] (fun i wr => ∃ k : Nat, k ≤ n ∧ i = .int .i64 (k : Nat) ∧ (∀ i, i < k → o1B d i = true) ∧ Old w wr) (fun i _ => n - (intOf i).toNat)
    case atStart => exact ⟨0, Nat.zero_le _, rfl, fun i hi => by omega, Old.refl _⟩
    case round =>
      obtain ⟨k, hk, rfl, h0, hu⟩ := hrel
      have HU := hid hu
      have HO1 := hid h0
      clear h0
      by_cases hlt : k < n
      · obtain ⟨g, off, ha, c0, hs⟩ := HC.out k hlt
        subst ha
        obtain ⟨x0, x1, x2, x3, x4, x5, x6⟩ := c0.old hu
        have l1 : (0 : Int) ≤ (k : Int) := by omega
        have l2 : (k : Int) < (n : Int) := by omega
        have HCk := hid (show ∀ W, Old wr W → Calls Tryz.prog 20 #[.agg #[.int .i64 (d k).s.s1, .int .i64 (d k).s.s2, .int .i64 (d k).s.s3, .slice (d k).s.a1 (d k).s.n1 (d k).s.c1, .slice (d k).s.a2 (d k).s.n2 (d k).s.c2, .slice (d k).s.a3 (d k).s.n3 (d k).s.c3]] W fun e w' => e = .returned (.int .i64 (d k).s.chk) ∧ Old W w' from fun W u => refChk_any _ _ _ _ _ _ _ _ _ _ _ _ _ _ _ W (hs.h1.old (hu.trans u)) (hs.h2.old (hu.trans u)) (hs.h3.old (hu.trans u)))
        have HNo := hid (fun (h : o1B d k = false) => okU_no d k (by rw [okB_o1, h]; rfl) n hlt)
        have HOb : Hid (o1B d k = (decide ((d k).n = (k : Int) + 1) && (decide ((d k).s.chk = 0) && !decide ((d k).n ≤ (d k).s.s3)))) := hid rfl
        have HSt := hid (show o1B d k = true → ∀ i, i < k + 1 → o1B d i = true from fun h i hi => by by_cases e : i = k; exact e ▸ h; exact HO1.out i (by omega))
        clear c0 hs HC hu HO1 HKy
        generalize hck : (d k).s.chk = ck at *
        clear hck
        generalize o1B d k = ob at *
        go_upto_region 7 with fail
        generalize hw1 : wr.alloc (.cells #[.int .i64 (d k).n, .int .i64 (d k).s.s1, .int .i64 (d k).s.s2, .int .i64 (d k).s.s3, .slice (d k).s.a1 (d k).s.n1 (d k).s.c1, .slice (d k).s.a2 (d k).s.n2 (d k).s.c2, .slice (d k).s.a3 (d k).s.n3 (d k).s.c3] 33) = w1 at *
        obtain ⟨hb1, hu1⟩ := dn_new wr (d k) w1 hw1 _ rfl
        generalize wr.heap.size = m at *
        have B1 := hid hb1
        have U1 := hid hu1
        clear hw1 hb1 hu1 x0 x1 x2 x3 x4 x5 x6
        obtain ⟨t0, t1, t2, t3, t4, t5, t6⟩ := B1.out
        by_cases q1 : (d k).n = (k : Int) + 1
        · by_cases q2 : ck = 0
          · subst q2
            by_cases q3 : (d k).n ≤ (d k).s.s3
            · have HF := hid (show rt = false from by rw [HRt.out]; exact HNo.out (by rw [HOb.out, decide_eq_true q3]; simp))
              clear HNo HOb HSt
              go_wp2_with (first | (go_at_call 20; refine (HCk.out _ U1.out).mono ?_; rintro e w2 ⟨rfl, v2⟩; have U2 := hid (U1.out.trans v2); clear t0 t1 t2 t3 t4 t5 t6; obtain ⟨t0, t1, t2, t3, t4, t5, t6⟩ := DnBox.old v2 B1.out; clear v2))
              go_ret
              exact ⟨ret_b (by rw [HF.out]), HU.out.trans U2.out⟩
            · have q3' : ¬ ((d k).s.s3 ≥ (d k).n) := q3
              have HN := hid (HSt.out (by rw [HOb.out, decide_eq_true q1, decide_eq_false q3]; rfl))
              clear HNo HOb HSt
              go_wp2_with (first | (go_at_call 20; refine (HCk.out _ U1.out).mono ?_; rintro e w2 ⟨rfl, v2⟩; have U2 := hid (U1.out.trans v2); clear t0 t1 t2 t3 t4 t5 t6; obtain ⟨t0, t1, t2, t3, t4, t5, t6⟩ := DnBox.old v2 B1.out; clear v2))
              go_roundw
              case rel => exact ⟨k + 1, hlt, by go_num, HN.out, HU.out.trans U2.out⟩
              case measure => simp [intOf]; omega
          · have HF := hid (show rt = false from by rw [HRt.out]; exact HNo.out (by rw [HOb.out, decide_eq_false q2]; simp))
            have q2' : (ck == 0) = false := by rw [beq_eq_false_iff_ne]; exact q2
            have q2'' : (ck != 0) = true := by rw [bne_iff_ne]; exact q2
            clear HNo HOb HSt
            go_wp2_with (first | (go_at_call 20; refine (HCk.out _ U1.out).mono ?_; rintro e w2 ⟨rfl, v2⟩; have U2 := hid (U1.out.trans v2); clear t0 t1 t2 t3 t4 t5 t6; obtain ⟨t0, t1, t2, t3, t4, t5, t6⟩ := DnBox.old v2 B1.out; clear v2))
            go_ret
            exact ⟨ret_b (by rw [HF.out]), HU.out.trans U2.out⟩
        · have HF := hid (show rt = false from by rw [HRt.out]; exact HNo.out (by rw [HOb.out, decide_eq_false q1]; simp))
          have q1' : ((d k).n == (k : Int) + 1) = false := by rw [beq_eq_false_iff_ne]; exact q1
          clear HNo HOb HSt HCk
          go_wp2
          go_ret
          exact ⟨ret_b (by rw [HF.out]), HU.out.trans U1.out⟩
      · obtain rfl : n = k := by omega
        have HKk := hid (HKy.out wr HU.out H64.out (fun i hi => o1_16 (HO1.out i hi)))
        have HCl := hid (fun (i k : Nat) (hi : i < n) (hk : k < n) => cl_keys (i := i) (k := k) HO1.out hi hk)
        have HNo := hid (fun (i k : Nat) (hi : i < n) (hk : k < i) (h : clB (d i) (d k) = true) => okU_no d i (by rw [okB_o1, Fl.anyG_true (fun j => clB (d i) (d j)) i k hk h]; simp) n hi)
        have HYes := hid (fun (h : ∀ i, i < n → Fl.anyG (fun j => clB (d i) (d j)) i = false) => (okU_iff (d := d) (n := n)).2 (fun i hi => by rw [okB_o1, HO1.out i hi, h i hi]; rfl))
        have HLn := hid (kyU_len (d := d) (n := n) (fun i hi => o1_16 (HO1.out i hi)))
        have HWk := hid (show ∀ t, t < (kyU d n).length → Fl.W ((kyU d n).getD t 0) from fun t ht => by
          have e : (kyU d n).getD t 0 = (kyU d n)[t] := by simp [List.getD_eq_getElem?_getD, ht]
          rw [e]
          obtain ⟨i, j, hi, hj, e2⟩ := kyU_mem.1 (List.getElem_mem ht)
          rw [e2]
          obtain ⟨_, _, _, _, hs⟩ := HC.out i hi
          exact hs.h3.ws j hj)
        clear HKy HO1 hlt hu
        generalize kyU d n = L at *
        go_upto_region 10 with (go_at_call 21; refine HKk.out.mono ?_; rintro e wk ⟨vk, rfl, ok, uk⟩; obtain ⟨pk, ck, ek, hck⟩ := ok.cells; subst ek; have HCk := hid hck; have UK := hid (HU.out.trans uk); clear ok hck uk)
        have lkn := HLn.out
        have h64' := H64.out
        have lk0 : (L.length : Int) ≤ 1024 := by omega
        clear lkn h64' HKk HU
        generalize hKL : L.length = KL at *
        have HKL := hid hKL
        clear hKL
        go_wp2
        go_loopw [6] (fun i wr => ∃ k : Nat, k ≤ n ∧ i = .int .i64 (k : Nat) ∧ (∀ i, i < k → Fl.anyG (fun j => clB (d i) (d j)) i = false) ∧ Old wk wr) (fun i _ => n - (intOf i).toNat)
        case atStart => exact ⟨0, Nat.zero_le _, rfl, fun i hi => by omega, Old.refl _⟩
        case round =>
          obtain ⟨i, hi, rfl, h0, hu⟩ := hrel
          have HI := hid h0
          have U := hid hu
          clear h0 hu
          by_cases hit : i < n
          · have l1 : (0 : Int) ≤ (i : Int) := by omega
            have l2 : (i : Int) < (n : Int) := by omega
            have HSi := hid (show Fl.anyG (fun j => clB (d i) (d j)) i = false → ∀ i', i' < i + 1 → Fl.anyG (fun j => clB (d i') (d j)) i' = false from fun h i' hi' => by by_cases e : i' = i; exact e ▸ h; exact HI.out i' (by omega))
            clear HI HYes
            go_wp2
            go_loopw [7] (fun j wr => ∃ k : Nat, k ≤ i ∧ j = .int .i64 (k : Nat) ∧ Fl.anyG (fun j => clB (d i) (d j)) k = false ∧ Old wk wr) (fun j _ => i - (intOf j).toNat)
            case atStart => exact ⟨0, Nat.zero_le _, rfl, rfl, U.out⟩
            case round =>
              obtain ⟨k, hk2, rfl, h0, hu⟩ := hrel
              have HK0 := hid h0
              clear h0 U
              have U := hid hu
              clear hu
              by_cases hkt : k < i
              · obtain ⟨g, off, ha, c0, hsa⟩ := HC.out i hit
                subst ha
                obtain ⟨g', off', ha', c1, hsb⟩ := HC.out k (by omega)
                cases ha'
                have HD := hid (show DD3 g (off + i * 7) (off + k * 7) (d i) (d k) wr from ⟨c0.old (UK.out.trans U.out), c1.old (UK.out.trans U.out)⟩)
                have m1 : (0 : Int) ≤ (k : Int) := by omega
                have m2 : (k : Int) < (n : Int) := by omega
                have HWa := hid (fun (t : Nat) (ht : t < KL) (W : World) (u : Old wk W) => rwrites_any (d i).s (L.getD t 0) (HWk.out t ht) W (hsa.old (UK.out.trans u)))
                have HWb := hid (fun (t : Nat) (ht : t < KL) (W : World) (u : Old wk W) => rwrites_any (d k).s (L.getD t 0) (HWk.out t ht) W (hsb.old (UK.out.trans u)))
                have HCk2 := hid (HCl.out i k hit (by omega))
                have HNk := hid (HNo.out i k hit hkt)
                have HSk := hid (fun q => Fl.anyG_step (fun j => clB (d i) (d j)) k HK0.out q)
                have HBs : Hid (bsB (d i) (d k) = (decide ((d i).s.s3 < (d k).n) && decide ((d k).s.s3 < (d i).n))) := hid rfl
                rw [HBs.out] at HCk2
                have HKw : Hid (∀ t, kwB (d i) (d k) L t = (writeB (d i).s (L.getD t 0) && writeB (d k).s (L.getD t 0))) := hid (fun _ => rfl)
                clear c0 c1 hsa hsb HC HCl HNo HWk HK0 HBs
                generalize clB (d i) (d k) = cl at *
                generalize d i = a at *
                generalize d k = b at *
                generalize writeB a.s = wa at *
                generalize writeB b.s = wb at *
                go_upto_region 16 with fail
                refine wp_region_noPanic ?_
                refine wp_region_held_drew (S := DD3 g (off + i * 7) (off + k * 7) a b) (by kernel_rfl) ?_ (fun hHeld => ?_)
                · exact DD3.old ((Old.refl _).drew) HD.out
                (try simp only [Act.put]); (try simp only [List.setIfInBounds_toArray]); (try simp only [List.set_cons_succ]); (try simp only [List.set_cons_zero])
                clear hHeld
                refine wpAnyH_take (i := 0) (oi := { dst := some 56, op := Op.move (Operand.tmp 0), type := 22, pos := "ref.go:37", after := #[], guard := none }) (v := ?vk1) rfl (by kernel_rfl) (by kernel_rfl) (by kernel_rfl) (fun _ _ _ h => h) (Or.inl ⟨by rfl, ?hk1⟩) (DD3.old (J2d.start wr).1 HD.out) ?rk1
                case hk1 => (intro wz hSw; (try dsimp only at hSw); go_simp; try with_reducible rfl)
                (try simp only [Act.put]); (try simp only [List.setIfInBounds_toArray]); (try simp only [List.set_cons_succ]); (try simp only [List.set_cons_zero])
                refine wpAnyH_take (i := 1) (oi := { dst := some 57, op := Op.move (Operand.tmp 6), type := 3, pos := "ref.go:37", after := #[], guard := none }) (v := ?vk2) rfl (by kernel_rfl) (by kernel_rfl) (by kernel_rfl) (fun _ _ _ h => h) (Or.inl ⟨by rfl, ?hk2⟩) (DD3.old (J2d.start wr).1 HD.out) ?rk2
                case hk2 => (intro wz hSw; (try dsimp only at hSw); go_simp; try with_reducible rfl)
                (try simp only [Act.put]); (try simp only [List.setIfInBounds_toArray]); (try simp only [List.set_cons_succ]); (try simp only [List.set_cons_zero])
                refine wpAnyH_take (i := 2) (oi := { dst := some 58, op := Op.indexAddr 22 (Operand.tmp 56) (Operand.tmp 57), type := 0, pos := "ref.go:37", after := #[{ on := 0, ground := Ground.data }, { on := 1, ground := Ground.data }], guard := none }) (v := ?vk3) rfl (by kernel_rfl) (by kernel_rfl) (by kernel_rfl) (fun _ _ _ h => h) (Or.inl ⟨by rfl, ?hk3⟩) (DD3.old (J2d.start wr).1 HD.out) ?rk3
                case hk3 => (intro wz hSw; (try dsimp only at hSw); go_simp; try with_reducible rfl)
                (try simp only [Act.put]); (try simp only [List.setIfInBounds_toArray]); (try simp only [List.set_cons_succ]); (try simp only [List.set_cons_zero])
                refine wpAnyH_take (i := 3) (oi := { dst := some 59, op := Op.load 33 (Operand.tmp 58), type := 33, pos := "ref.go:37", after := #[{ on := 2, ground := Ground.data }], guard := none }) (v := ?vk4) rfl (by kernel_rfl) (by kernel_rfl) (by kernel_rfl) (fun _ _ _ h => h) (Or.inl ⟨by rfl, ?hk4⟩) (DD3.old (J2d.start wr).1 HD.out) ?rk4
                case hk4 => (intro wz hSw; (try dsimp only at hSw); go_simp; try with_reducible rfl)
                (try simp only [Act.put]); (try simp only [List.setIfInBounds_toArray]); (try simp only [List.set_cons_succ]); (try simp only [List.set_cons_zero])
                refine wpAnyH_take (i := 4) (oi := { dst := some 60, op := Op.move (Operand.tmp 0), type := 22, pos := "ref.go:37", after := #[{ on := 10, ground := Ground.gcOnly Departure.lateStores }], guard := none }) (v := ?vk5) rfl (by kernel_rfl) (by kernel_rfl) (by kernel_rfl) (fun _ _ _ h => h) (Or.inl ⟨by rfl, ?hk5⟩) (DD3.old (J2d.start wr).1 HD.out) ?rk5
                case hk5 => (intro wz hSw; (try dsimp only at hSw); go_simp; try with_reducible rfl)
                (try simp only [Act.put]); (try simp only [List.setIfInBounds_toArray]); (try simp only [List.set_cons_succ]); (try simp only [List.set_cons_zero])
                refine wpAnyH_take (i := 5) (oi := { dst := some 61, op := Op.move (Operand.tmp 7), type := 3, pos := "ref.go:37", after := #[{ on := 10, ground := Ground.gcOnly Departure.lateStores }], guard := none }) (v := ?vk6) rfl (by kernel_rfl) (by kernel_rfl) (by kernel_rfl) (fun _ _ _ h => h) (Or.inl ⟨by rfl, ?hk6⟩) (DD3.old (J2d.start wr).1 HD.out) ?rk6
                case hk6 => (intro wz hSw; (try dsimp only at hSw); go_simp; try with_reducible rfl)
                (try simp only [Act.put]); (try simp only [List.setIfInBounds_toArray]); (try simp only [List.set_cons_succ]); (try simp only [List.set_cons_zero])
                refine wpAnyH_take (i := 6) (oi := { dst := some 62, op := Op.indexAddr 22 (Operand.tmp 60) (Operand.tmp 61), type := 0, pos := "ref.go:37", after := #[{ on := 4, ground := Ground.data }, { on := 5, ground := Ground.data }, { on := 10, ground := Ground.gcOnly Departure.lateStores }], guard := none }) (v := ?vk7) rfl (by kernel_rfl) (by kernel_rfl) (by kernel_rfl) (fun _ _ _ h => h) (Or.inl ⟨by rfl, ?hk7⟩) (DD3.old (J2d.start wr).1 HD.out) ?rk7
                case hk7 => (intro wz hSw; (try dsimp only at hSw); go_simp; try with_reducible rfl)
                (try simp only [Act.put]); (try simp only [List.setIfInBounds_toArray]); (try simp only [List.set_cons_succ]); (try simp only [List.set_cons_zero])
                refine wpAnyH_take (i := 7) (oi := { dst := some 63, op := Op.load 33 (Operand.tmp 62), type := 33, pos := "ref.go:37", after := #[{ on := 6, ground := Ground.data }, { on := 10, ground := Ground.gcOnly Departure.lateStores }], guard := none }) (v := ?vk8) rfl (by kernel_rfl) (by kernel_rfl) (by kernel_rfl) (fun _ _ _ h => h) (Or.inl ⟨by rfl, ?hk8⟩) (DD3.old (J2d.start wr).1 HD.out) ?rk8
                case hk8 => (intro wz hSw; (try dsimp only at hSw); go_simp; try with_reducible rfl)
                (try simp only [Act.put]); (try simp only [List.setIfInBounds_toArray]); (try simp only [List.set_cons_succ]); (try simp only [List.set_cons_zero])
                refine wpAnyH_ready (rs := [8, 9]) (by kernel_rfl) (by simp) ?_
                refine AllReadyH.cons (o := { dst := some 8, op := Op.alloc 33, type := 0, pos := "ref.go:37", after := #[], guard := none }) rfl (fun K hK => ?_) (AllReadyH.cons (o := { dst := some 9, op := Op.alloc 33, type := 0, pos := "ref.go:37", after := #[], guard := none }) rfl (fun K hK => ?_) AllReadyH.nil)
                · skip
                  refine stepAllocD ?_ ?_ ?_
                  · rfl
                  · rfl
                  intro m9 x9 hm9 hx9
                  have j9 := (J2d.start wr).nF hm9 hx9
                  clear hm9 hx9
                  refine hK.out _ _ (DD3.old j9.1 HD.out) (fun _ => ?_)
                  clear hK K
                  (try simp only [Act.put]); (try simp only [List.setIfInBounds_toArray]); (try simp only [List.set_cons_succ]); (try simp only [List.set_cons_zero])
                  refine wpAnyH_ready (rs := [9]) (by kernel_rfl) (by simp) ?_
                  refine AllReadyH.cons (o := { dst := some 9, op := Op.alloc 33, type := 0, pos := "ref.go:37", after := #[], guard := none }) rfl (fun K hK => ?_) AllReadyH.nil
                  · skip
                    refine stepAllocD ?_ ?_ ?_
                    · rfl
                    · rfl
                    intro m10 x10 hm10 hx10
                    have j10 := j9.nG hm10 hx10
                    clear hm10 hx10
                    refine hK.out _ _ (DD3.old j10.1 HD.out) (fun _ => ?_)
                    clear hK K
                    (try simp only [Act.put]); (try simp only [List.setIfInBounds_toArray]); (try simp only [List.set_cons_succ]); (try simp only [List.set_cons_zero])
                    refine wpAnyH_ready (rs := [10]) (by kernel_rfl) (by simp) ?_
                    refine AllReadyH.cons (o := { dst := none, op := Op.store 33 (Operand.tmp 8) (Operand.tmp 59), type := 0, pos := "ref.go:37", after := #[{ on := 8, ground := Ground.data }, { on := 3, ground := Ground.data }, { on := 0, ground := Ground.phase }, { on := 1, ground := Ground.phase }, { on := 2, ground := Ground.phase }, { on := 3, ground := Ground.phase }, { on := 4, ground := Ground.textOnly Departure.lateStores }, { on := 5, ground := Ground.textOnly Departure.lateStores }, { on := 6, ground := Ground.textOnly Departure.lateStores }, { on := 7, ground := Ground.textOnly Departure.lateStores }, { on := 8, ground := Ground.phase }, { on := 9, ground := Ground.phase }], guard := none }) rfl (fun K hK => ?_) AllReadyH.nil
                    · skip
                      refine stepStoreD ?_ (.tmp 8) (.tmp 59) ?_ m9 a ?_ ?_ j10.thereF ?_
                      · rfl
                      · rfl
                      · rfl
                      · rfl
                      refine hK.out _ _ (DD3.old (j10.upF _) HD.out) (fun _ => ?_)
                      clear hK K
                      (try simp only [Act.put]); (try simp only [List.setIfInBounds_toArray]); (try simp only [List.set_cons_succ]); (try simp only [List.set_cons_zero])
                      have j11 := j10.one a _ rfl
                      generalize x10.setCells m9 0 (dnRow a) = x11 at *
                      refine wpAnyH_ready (rs := [11]) (by kernel_rfl) (by simp) ?_
                      refine AllReadyH.cons (o := { dst := none, op := Op.store 33 (Operand.tmp 9) (Operand.tmp 63), type := 0, pos := "ref.go:37", after := #[{ on := 9, ground := Ground.data }, { on := 7, ground := Ground.data }, { on := 10, ground := Ground.chain }, { on := 0, ground := Ground.phase }, { on := 1, ground := Ground.phase }, { on := 2, ground := Ground.phase }, { on := 3, ground := Ground.phase }, { on := 4, ground := Ground.phase }, { on := 5, ground := Ground.phase }, { on := 6, ground := Ground.phase }, { on := 7, ground := Ground.phase }, { on := 8, ground := Ground.phase }, { on := 9, ground := Ground.phase }, { on := 10, ground := Ground.phase }], guard := none }) rfl (fun K hK => ?_) AllReadyH.nil
                      · skip
                        refine stepStoreD ?_ (.tmp 9) (.tmp 63) ?_ m10 b ?_ ?_ j11.2.2.2.1.there ?_
                        · rfl
                        · rfl
                        · rfl
                        · rfl
                        refine hK.out _ _ (DD3.old (Old.setCells j11.2.2.1 _ _ j11.1) HD.out) (fun _ => ?_)
                        clear hK K
                        (try simp only [Act.put]); (try simp only [List.setIfInBounds_toArray]); (try simp only [List.set_cons_succ]); (try simp only [List.set_cons_zero])
                        refine wpAnyH_done (by kernel_rfl) ?_ _
                        refine NoPanic.normal ?_
                        obtain ⟨hA, hB, hUn⟩ := j11.fin b _ rfl
                        generalize x11.setCells m10 0 (dnRow b) = wz at *
                        have A := hid hA
                        have B := hid hB
                        have UZ := hid (U.out.trans hUn)
                        obtain ⟨t0, t1, t2, t3, t4, t5, t6⟩ := DnBox.old (Old.refl wz) hA
                        obtain ⟨r0, r1, r2, r3, r4, r5, r6⟩ := DnBox.old (Old.refl wz) hB
                        clear hA hB hUn HD j11 U
                        generalize m9 = ma at *
                        generalize m10 = mb at *
                        by_cases h1 : a.s.s3 < b.n
                        · by_cases h2 : b.s.s3 < a.n
                          · have q1 : ¬ b.n ≤ a.s.s3 := by omega
                            have q2 : ¬ a.n ≤ b.s.s3 := by omega
                            rw [decide_eq_true h1, decide_eq_true h2, Bool.true_and, Bool.true_and] at HCk2
                            clear h1 h2
                            go_wp2
                            go_loopw [10] (fun z wr => ∃ t : Nat, t ≤ KL ∧ z = .int .i64 (t : Nat) ∧ Fl.anyG (kwB a b L) t = false ∧ Old wz wr) (fun z _ => KL - (intOf z).toNat)
                            case atStart => exact ⟨0, Nat.zero_le _, rfl, rfl, Old.refl _⟩
                            case round =>
                              obtain ⟨t, ht, rfl, h0, hu⟩ := hrel
                              have HT0 := hid h0
                              have V := hid hu
                              clear h0 t0 t1 t2 t3 t4 t5 t6 r0 r1 r2 r3 r4 r5 r6
                              by_cases htt : t < KL
                              · obtain ⟨gk, ek, c2⟩ := HCk.out t htt
                                subst ek
                                have HWa1 := hid (fun (W : World) (u : Old wr W) => HWa.out t htt W (UZ.out.trans (V.out.trans u)))
                                have HWb1 := hid (fun (W : World) (u : Old wr W) => HWb.out t htt W (UZ.out.trans (V.out.trans u)))
                                have HSt := hid (fun q => Fl.anyG_step (kwB a b L) t HT0.out q)
                                have HTr := hid (fun q => Fl.anyG_true (kwB a b L) KL t htt q)
                                rw [HKw.out t] at HSt HTr
                                have y0 := (UZ.out.trans V.out).keep c2
                                generalize wa (L.getD t 0) = ra at *
                                generalize wb (L.getD t 0) = rb at *
                                generalize L.getD t 0 = X at *
                                have HD := hid (show KB3 ma mb a b gk t X wr from ⟨DnBox.old hu A.out, DnBox.old hu B.out, y0⟩)
                                have n1 : (0 : Int) ≤ (t : Int) := by omega
                                have n2 : (t : Int) < (KL : Int) := by omega
                                clear c2 y0 hu HCk HWa HWb HT0
                                cases ra
                                · have HS := hid (HSt.out (by simp))
                                  clear HSt HTr
                                  go_upto_region 21 with fail
                                  refine wp_region_noPanic ?_
                                  refine wp_region_held_drew (S := KB3 ma mb a b gk t X) (by kernel_rfl) ?_ (fun hHeld => ?_)
                                  · exact KB3.old ((Old.refl _).drew) HD.out
                                  (try simp only [Act.put]); (try simp only [List.setIfInBounds_toArray]); (try simp only [List.set_cons_succ]); (try simp only [List.set_cons_zero])
                                  clear hHeld
                                  refine wpAnyH_take (i := 0) (oi := { dst := some 84, op := Op.fieldAddr 33 (Operand.tmp 8) 1, type := 0, pos := "ref.go:42", after := #[], guard := none }) (v := ?vk13) rfl (by kernel_rfl) (by kernel_rfl) (by kernel_rfl) (fun _ _ _ h => h) (Or.inl ⟨by rfl, ?hk13⟩) (KB3.old ((Old.refl wr).drew) HD.out) ?rk13
                                  case hk13 => (intro wz hSw; (try dsimp only at hSw); go_simp; try with_reducible rfl)
                                  (try simp only [Act.put]); (try simp only [List.setIfInBounds_toArray]); (try simp only [List.set_cons_succ]); (try simp only [List.set_cons_zero])
                                  refine wpAnyH_take (i := 1) (oi := { dst := some 85, op := Op.load 31 (Operand.tmp 84), type := 31, pos := "ref.go:42", after := #[{ on := 0, ground := Ground.data }], guard := none }) (v := ?vk14) rfl (by kernel_rfl) (by kernel_rfl) (by kernel_rfl) (fun _ _ _ h => h) (Or.inl ⟨by rfl, ?hk14⟩) (KB3.old ((Old.refl wr).drew) HD.out) ?rk14
                                  case hk14 => (intro wz hSw; (try dsimp only at hSw); go_simp; try with_reducible rfl)
                                  (try simp only [Act.put]); (try simp only [List.setIfInBounds_toArray]); (try simp only [List.set_cons_succ]); (try simp only [List.set_cons_zero])
                                  refine wpAnyH_take (i := 2) (oi := { dst := some 86, op := Op.move (Operand.tmp 5), type := 28, pos := "ref.go:42", after := #[], guard := none }) (v := ?vk15) rfl (by kernel_rfl) (by kernel_rfl) (by kernel_rfl) (fun _ _ _ h => h) (Or.inl ⟨by rfl, ?hk15⟩) (KB3.old ((Old.refl wr).drew) HD.out) ?rk15
                                  case hk15 => (intro wz hSw; (try dsimp only at hSw); go_simp; try with_reducible rfl)
                                  (try simp only [Act.put]); (try simp only [List.setIfInBounds_toArray]); (try simp only [List.set_cons_succ]); (try simp only [List.set_cons_zero])
                                  refine wpAnyH_take (i := 3) (oi := { dst := some 87, op := Op.move (Operand.tmp 10), type := 3, pos := "ref.go:42", after := #[], guard := none }) (v := ?vk16) rfl (by kernel_rfl) (by kernel_rfl) (by kernel_rfl) (fun _ _ _ h => h) (Or.inl ⟨by rfl, ?hk16⟩) (KB3.old ((Old.refl wr).drew) HD.out) ?rk16
                                  case hk16 => (intro wz hSw; (try dsimp only at hSw); go_simp; try with_reducible rfl)
                                  (try simp only [Act.put]); (try simp only [List.setIfInBounds_toArray]); (try simp only [List.set_cons_succ]); (try simp only [List.set_cons_zero])
                                  refine wpAnyH_take (i := 4) (oi := { dst := some 88, op := Op.indexAddr 28 (Operand.tmp 86) (Operand.tmp 87), type := 0, pos := "ref.go:42", after := #[{ on := 2, ground := Ground.data }, { on := 3, ground := Ground.data }], guard := none }) (v := ?vk17) rfl (by kernel_rfl) (by kernel_rfl) (by kernel_rfl) (fun _ _ _ h => h) (Or.inl ⟨by rfl, ?hk17⟩) (KB3.old ((Old.refl wr).drew) HD.out) ?rk17
                                  case hk17 => (intro wz hSw; (try dsimp only at hSw); go_simp; try with_reducible rfl)
                                  (try simp only [Act.put]); (try simp only [List.setIfInBounds_toArray]); (try simp only [List.set_cons_succ]); (try simp only [List.set_cons_zero])
                                  refine wpAnyH_take (i := 5) (oi := { dst := some 89, op := Op.load 43 (Operand.tmp 88), type := 43, pos := "ref.go:42", after := #[{ on := 4, ground := Ground.data }], guard := none }) (v := ?vk18) rfl (by kernel_rfl) (by kernel_rfl) (by kernel_rfl) (fun _ _ _ h => h) (Or.inl ⟨by rfl, ?hk18⟩) (KB3.old ((Old.refl wr).drew) HD.out) ?rk18
                                  case hk18 => (intro wz hSw; (try dsimp only at hSw); go_simp; try with_reducible rfl)
                                  (try simp only [Act.put]); (try simp only [List.setIfInBounds_toArray]); (try simp only [List.set_cons_succ]); (try simp only [List.set_cons_zero])
                                  refine wpAnyH_ready (rs := [6]) (by kernel_rfl) (by simp) ?_
                                  refine AllReadyH.cons (o := { dst := some 90, op := Op.call { callee := Callee.value (Operand.func 22), args := #[Operand.tmp 85, Operand.tmp 89], argTypes := #[31, 43] }, type := 4, pos := "ref.go:42", after := #[{ on := 1, ground := Ground.data }, { on := 5, ground := Ground.data }], guard := none }) rfl (fun K hK => ?_) AllReadyH.nil
                                  refine wantCall2 ?_ 22 (.tmp 85) (.tmp 89) #[31, 43] ?_ (.agg #[.int .i64 a.s.s1, .int .i64 a.s.s2, .int .i64 a.s.s3, .slice a.s.a1 a.s.n1 a.s.c1, .slice a.s.a2 a.s.n2 a.s.c2, .slice a.s.a3 a.s.n3 a.s.c3]) (.float .f64 X) ?_ ?_ ?_ (ent_rwr _ _) ?_
                                  · rfl
                                  · rfl
                                  · rfl
                                  · rfl
                                  · rfl
                                  refine (HWa1.out _ ((Old.refl wr).drew)).mono ?_
                                  rintro o x19 ⟨rfl, b19⟩
                                  refine ⟨_, rfl, ?_⟩
                                  have U19 := ((Old.refl wr).drew).trans b19
                                  refine hK.out _ _ (KB3.old U19 HD.out) (fun _ => ?_)
                                  clear hK K
                                  (try simp only [Act.put]); (try simp only [List.setIfInBounds_toArray]); (try simp only [List.set_cons_succ]); (try simp only [List.set_cons_zero])
                                  refine wpAnyH_take (i := 7) (oi := { dst := some 91, op := Op.move (Operand.tmp 90), type := 4, pos := "ref.go:42", after := #[{ on := 6, ground := Ground.data }, { on := 6, ground := Ground.chain }], guard := none }) (v := ?vk20) rfl (by kernel_rfl) (by kernel_rfl) (by kernel_rfl) (fun _ _ _ h => h) (Or.inl ⟨by rfl, ?hk20⟩) (KB3.old U19 HD.out) ?rk20
                                  case hk20 => (intro wz hSw; (try dsimp only at hSw); go_simp; try with_reducible rfl)
                                  (try simp only [Act.put]); (try simp only [List.setIfInBounds_toArray]); (try simp only [List.set_cons_succ]); (try simp only [List.set_cons_zero])
                                  refine wpAnyH_take (i := 8) (oi := { dst := some 92, op := Op.fieldAddr 33 (Operand.tmp 9) 1, type := 0, pos := "ref.go:42", after := #[{ on := 7, ground := Ground.guard }], guard := some (7, true) }) (v := undef) rfl (by kernel_rfl) (by kernel_rfl) (by kernel_rfl) (fun _ _ _ h => h) (Or.inr ⟨by rfl, rfl⟩) (KB3.old U19 HD.out) ?_
                                  (try simp only [Act.put]); (try simp only [List.setIfInBounds_toArray]); (try simp only [List.set_cons_succ]); (try simp only [List.set_cons_zero])
                                  refine wpAnyH_take (i := 9) (oi := { dst := some 93, op := Op.load 31 (Operand.tmp 92), type := 31, pos := "ref.go:42", after := #[{ on := 8, ground := Ground.data }, { on := 7, ground := Ground.guard }], guard := some (7, true) }) (v := undef) rfl (by kernel_rfl) (by kernel_rfl) (by kernel_rfl) (fun _ _ _ h => h) (Or.inr ⟨by rfl, rfl⟩) (KB3.old U19 HD.out) ?_
                                  (try simp only [Act.put]); (try simp only [List.setIfInBounds_toArray]); (try simp only [List.set_cons_succ]); (try simp only [List.set_cons_zero])
                                  refine wpAnyH_take (i := 10) (oi := { dst := some 94, op := Op.move (Operand.tmp 5), type := 28, pos := "ref.go:42", after := #[{ on := 7, ground := Ground.guard }], guard := some (7, true) }) (v := undef) rfl (by kernel_rfl) (by kernel_rfl) (by kernel_rfl) (fun _ _ _ h => h) (Or.inr ⟨by rfl, rfl⟩) (KB3.old U19 HD.out) ?_
                                  (try simp only [Act.put]); (try simp only [List.setIfInBounds_toArray]); (try simp only [List.set_cons_succ]); (try simp only [List.set_cons_zero])
                                  refine wpAnyH_take (i := 11) (oi := { dst := some 95, op := Op.move (Operand.tmp 10), type := 3, pos := "ref.go:42", after := #[{ on := 7, ground := Ground.guard }], guard := some (7, true) }) (v := undef) rfl (by kernel_rfl) (by kernel_rfl) (by kernel_rfl) (fun _ _ _ h => h) (Or.inr ⟨by rfl, rfl⟩) (KB3.old U19 HD.out) ?_
                                  (try simp only [Act.put]); (try simp only [List.setIfInBounds_toArray]); (try simp only [List.set_cons_succ]); (try simp only [List.set_cons_zero])
                                  refine wpAnyH_take (i := 12) (oi := { dst := some 96, op := Op.indexAddr 28 (Operand.tmp 94) (Operand.tmp 95), type := 0, pos := "ref.go:42", after := #[{ on := 10, ground := Ground.data }, { on := 11, ground := Ground.data }, { on := 7, ground := Ground.guard }], guard := some (7, true) }) (v := undef) rfl (by kernel_rfl) (by kernel_rfl) (by kernel_rfl) (fun _ _ _ h => h) (Or.inr ⟨by rfl, rfl⟩) (KB3.old U19 HD.out) ?_
                                  (try simp only [Act.put]); (try simp only [List.setIfInBounds_toArray]); (try simp only [List.set_cons_succ]); (try simp only [List.set_cons_zero])
                                  refine wpAnyH_take (i := 13) (oi := { dst := some 97, op := Op.load 43 (Operand.tmp 96), type := 43, pos := "ref.go:42", after := #[{ on := 12, ground := Ground.data }, { on := 7, ground := Ground.guard }], guard := some (7, true) }) (v := undef) rfl (by kernel_rfl) (by kernel_rfl) (by kernel_rfl) (fun _ _ _ h => h) (Or.inr ⟨by rfl, rfl⟩) (KB3.old U19 HD.out) ?_
                                  (try simp only [Act.put]); (try simp only [List.setIfInBounds_toArray]); (try simp only [List.set_cons_succ]); (try simp only [List.set_cons_zero])
                                  refine wpAnyH_take (i := 14) (oi := { dst := some 98, op := Op.call { callee := Callee.value (Operand.func 22), args := #[Operand.tmp 93, Operand.tmp 97], argTypes := #[31, 43] }, type := 4, pos := "ref.go:42", after := #[{ on := 9, ground := Ground.data }, { on := 13, ground := Ground.data }, { on := 7, ground := Ground.chain }, { on := 7, ground := Ground.guard }], guard := some (7, true) }) (v := undef) rfl (by kernel_rfl) (by kernel_rfl) (by kernel_rfl) (fun _ _ _ h => h) (Or.inr ⟨by rfl, rfl⟩) (KB3.old U19 HD.out) ?_
                                  (try simp only [Act.put]); (try simp only [List.setIfInBounds_toArray]); (try simp only [List.set_cons_succ]); (try simp only [List.set_cons_zero])
                                  refine wpAnyH_take (i := 15) (oi := { dst := some 99, op := Op.pick (Operand.tmp 91) (Operand.tmp 98) (Operand.const (Value.bool false)), type := 4, pos := "ref.go:42", after := #[{ on := 7, ground := Ground.data }, { on := 14, ground := Ground.data }], guard := none }) (v := ?vk21) rfl (by kernel_rfl) (by kernel_rfl) (by kernel_rfl) (fun _ _ _ h => h) (Or.inl ⟨by rfl, ?hk21⟩) (KB3.old U19 HD.out) ?rk21
                                  case hk21 => (intro wz hSw; (try dsimp only at hSw); go_simp; try with_reducible rfl)
                                  (try simp only [Act.put]); (try simp only [List.setIfInBounds_toArray]); (try simp only [List.set_cons_succ]); (try simp only [List.set_cons_zero])
                                  refine wpAnyH_done (by kernel_rfl) ?_ _
                                  refine NoPanic.normal ?_
                                  have V5 := hid U19
                                  go_wp2
                                  go_roundw
                                  case rel => exact ⟨t + 1, htt, by go_num, HS.out, V.out.trans V5.out⟩
                                  case measure => simp [intOf]; omega
                                · cases rb
                                  · have HS := hid (HSt.out (by simp))
                                    clear HSt HTr
                                    go_upto_region 21 with fail
                                    refine wp_region_noPanic ?_
                                    refine wp_region_held_drew (S := KB3 ma mb a b gk t X) (by kernel_rfl) ?_ (fun hHeld => ?_)
                                    · exact KB3.old ((Old.refl _).drew) HD.out
                                    (try simp only [Act.put]); (try simp only [List.setIfInBounds_toArray]); (try simp only [List.set_cons_succ]); (try simp only [List.set_cons_zero])
                                    clear hHeld
                                    refine wpAnyH_take (i := 0) (oi := { dst := some 84, op := Op.fieldAddr 33 (Operand.tmp 8) 1, type := 0, pos := "ref.go:42", after := #[], guard := none }) (v := ?vk22) rfl (by kernel_rfl) (by kernel_rfl) (by kernel_rfl) (fun _ _ _ h => h) (Or.inl ⟨by rfl, ?hk22⟩) (KB3.old ((Old.refl wr).drew) HD.out) ?rk22
                                    case hk22 => (intro wz hSw; (try dsimp only at hSw); go_simp; try with_reducible rfl)
                                    (try simp only [Act.put]); (try simp only [List.setIfInBounds_toArray]); (try simp only [List.set_cons_succ]); (try simp only [List.set_cons_zero])
                                    refine wpAnyH_take (i := 1) (oi := { dst := some 85, op := Op.load 31 (Operand.tmp 84), type := 31, pos := "ref.go:42", after := #[{ on := 0, ground := Ground.data }], guard := none }) (v := ?vk23) rfl (by kernel_rfl) (by kernel_rfl) (by kernel_rfl) (fun _ _ _ h => h) (Or.inl ⟨by rfl, ?hk23⟩) (KB3.old ((Old.refl wr).drew) HD.out) ?rk23
                                    case hk23 => (intro wz hSw; (try dsimp only at hSw); go_simp; try with_reducible rfl)
                                    (try simp only [Act.put]); (try simp only [List.setIfInBounds_toArray]); (try simp only [List.set_cons_succ]); (try simp only [List.set_cons_zero])
                                    refine wpAnyH_take (i := 2) (oi := { dst := some 86, op := Op.move (Operand.tmp 5), type := 28, pos := "ref.go:42", after := #[], guard := none }) (v := ?vk24) rfl (by kernel_rfl) (by kernel_rfl) (by kernel_rfl) (fun _ _ _ h => h) (Or.inl ⟨by rfl, ?hk24⟩) (KB3.old ((Old.refl wr).drew) HD.out) ?rk24
                                    case hk24 => (intro wz hSw; (try dsimp only at hSw); go_simp; try with_reducible rfl)
                                    (try simp only [Act.put]); (try simp only [List.setIfInBounds_toArray]); (try simp only [List.set_cons_succ]); (try simp only [List.set_cons_zero])
                                    refine wpAnyH_take (i := 3) (oi := { dst := some 87, op := Op.move (Operand.tmp 10), type := 3, pos := "ref.go:42", after := #[], guard := none }) (v := ?vk25) rfl (by kernel_rfl) (by kernel_rfl) (by kernel_rfl) (fun _ _ _ h => h) (Or.inl ⟨by rfl, ?hk25⟩) (KB3.old ((Old.refl wr).drew) HD.out) ?rk25
                                    case hk25 => (intro wz hSw; (try dsimp only at hSw); go_simp; try with_reducible rfl)
                                    (try simp only [Act.put]); (try simp only [List.setIfInBounds_toArray]); (try simp only [List.set_cons_succ]); (try simp only [List.set_cons_zero])
                                    refine wpAnyH_take (i := 4) (oi := { dst := some 88, op := Op.indexAddr 28 (Operand.tmp 86) (Operand.tmp 87), type := 0, pos := "ref.go:42", after := #[{ on := 2, ground := Ground.data }, { on := 3, ground := Ground.data }], guard := none }) (v := ?vk26) rfl (by kernel_rfl) (by kernel_rfl) (by kernel_rfl) (fun _ _ _ h => h) (Or.inl ⟨by rfl, ?hk26⟩) (KB3.old ((Old.refl wr).drew) HD.out) ?rk26
                                    case hk26 => (intro wz hSw; (try dsimp only at hSw); go_simp; try with_reducible rfl)
                                    (try simp only [Act.put]); (try simp only [List.setIfInBounds_toArray]); (try simp only [List.set_cons_succ]); (try simp only [List.set_cons_zero])
                                    refine wpAnyH_take (i := 5) (oi := { dst := some 89, op := Op.load 43 (Operand.tmp 88), type := 43, pos := "ref.go:42", after := #[{ on := 4, ground := Ground.data }], guard := none }) (v := ?vk27) rfl (by kernel_rfl) (by kernel_rfl) (by kernel_rfl) (fun _ _ _ h => h) (Or.inl ⟨by rfl, ?hk27⟩) (KB3.old ((Old.refl wr).drew) HD.out) ?rk27
                                    case hk27 => (intro wz hSw; (try dsimp only at hSw); go_simp; try with_reducible rfl)
                                    (try simp only [Act.put]); (try simp only [List.setIfInBounds_toArray]); (try simp only [List.set_cons_succ]); (try simp only [List.set_cons_zero])
                                    refine wpAnyH_ready (rs := [6]) (by kernel_rfl) (by simp) ?_
                                    refine AllReadyH.cons (o := { dst := some 90, op := Op.call { callee := Callee.value (Operand.func 22), args := #[Operand.tmp 85, Operand.tmp 89], argTypes := #[31, 43] }, type := 4, pos := "ref.go:42", after := #[{ on := 1, ground := Ground.data }, { on := 5, ground := Ground.data }], guard := none }) rfl (fun K hK => ?_) AllReadyH.nil
                                    refine wantCall2 ?_ 22 (.tmp 85) (.tmp 89) #[31, 43] ?_ (.agg #[.int .i64 a.s.s1, .int .i64 a.s.s2, .int .i64 a.s.s3, .slice a.s.a1 a.s.n1 a.s.c1, .slice a.s.a2 a.s.n2 a.s.c2, .slice a.s.a3 a.s.n3 a.s.c3]) (.float .f64 X) ?_ ?_ ?_ (ent_rwr _ _) ?_
                                    · rfl
                                    · rfl
                                    · rfl
                                    · rfl
                                    · rfl
                                    refine (HWa1.out _ ((Old.refl wr).drew)).mono ?_
                                    rintro o x28 ⟨rfl, b28⟩
                                    refine ⟨_, rfl, ?_⟩
                                    have U28 := ((Old.refl wr).drew).trans b28
                                    refine hK.out _ _ (KB3.old U28 HD.out) (fun _ => ?_)
                                    clear hK K
                                    (try simp only [Act.put]); (try simp only [List.setIfInBounds_toArray]); (try simp only [List.set_cons_succ]); (try simp only [List.set_cons_zero])
                                    refine wpAnyH_take (i := 7) (oi := { dst := some 91, op := Op.move (Operand.tmp 90), type := 4, pos := "ref.go:42", after := #[{ on := 6, ground := Ground.data }, { on := 6, ground := Ground.chain }], guard := none }) (v := ?vk29) rfl (by kernel_rfl) (by kernel_rfl) (by kernel_rfl) (fun _ _ _ h => h) (Or.inl ⟨by rfl, ?hk29⟩) (KB3.old U28 HD.out) ?rk29
                                    case hk29 => (intro wz hSw; (try dsimp only at hSw); go_simp; try with_reducible rfl)
                                    (try simp only [Act.put]); (try simp only [List.setIfInBounds_toArray]); (try simp only [List.set_cons_succ]); (try simp only [List.set_cons_zero])
                                    refine wpAnyH_take (i := 8) (oi := { dst := some 92, op := Op.fieldAddr 33 (Operand.tmp 9) 1, type := 0, pos := "ref.go:42", after := #[{ on := 7, ground := Ground.guard }], guard := some (7, true) }) (v := ?vk30) rfl (by kernel_rfl) (by kernel_rfl) (by kernel_rfl) (fun _ _ _ h => h) (Or.inl ⟨by rfl, ?hk30⟩) (KB3.old U28 HD.out) ?rk30
                                    case hk30 => (intro wz hSw; (try dsimp only at hSw); go_simp; try with_reducible rfl)
                                    (try simp only [Act.put]); (try simp only [List.setIfInBounds_toArray]); (try simp only [List.set_cons_succ]); (try simp only [List.set_cons_zero])
                                    refine wpAnyH_take (i := 9) (oi := { dst := some 93, op := Op.load 31 (Operand.tmp 92), type := 31, pos := "ref.go:42", after := #[{ on := 8, ground := Ground.data }, { on := 7, ground := Ground.guard }], guard := some (7, true) }) (v := ?vk31) rfl (by kernel_rfl) (by kernel_rfl) (by kernel_rfl) (fun _ _ _ h => h) (Or.inl ⟨by rfl, ?hk31⟩) (KB3.old U28 HD.out) ?rk31
                                    case hk31 => (intro wz hSw; (try dsimp only at hSw); go_simp; try with_reducible rfl)
                                    (try simp only [Act.put]); (try simp only [List.setIfInBounds_toArray]); (try simp only [List.set_cons_succ]); (try simp only [List.set_cons_zero])
                                    refine wpAnyH_take (i := 10) (oi := { dst := some 94, op := Op.move (Operand.tmp 5), type := 28, pos := "ref.go:42", after := #[{ on := 7, ground := Ground.guard }], guard := some (7, true) }) (v := ?vk32) rfl (by kernel_rfl) (by kernel_rfl) (by kernel_rfl) (fun _ _ _ h => h) (Or.inl ⟨by rfl, ?hk32⟩) (KB3.old U28 HD.out) ?rk32
                                    case hk32 => (intro wz hSw; (try dsimp only at hSw); go_simp; try with_reducible rfl)
                                    (try simp only [Act.put]); (try simp only [List.setIfInBounds_toArray]); (try simp only [List.set_cons_succ]); (try simp only [List.set_cons_zero])
                                    refine wpAnyH_take (i := 11) (oi := { dst := some 95, op := Op.move (Operand.tmp 10), type := 3, pos := "ref.go:42", after := #[{ on := 7, ground := Ground.guard }], guard := some (7, true) }) (v := ?vk33) rfl (by kernel_rfl) (by kernel_rfl) (by kernel_rfl) (fun _ _ _ h => h) (Or.inl ⟨by rfl, ?hk33⟩) (KB3.old U28 HD.out) ?rk33
                                    case hk33 => (intro wz hSw; (try dsimp only at hSw); go_simp; try with_reducible rfl)
                                    (try simp only [Act.put]); (try simp only [List.setIfInBounds_toArray]); (try simp only [List.set_cons_succ]); (try simp only [List.set_cons_zero])
                                    refine wpAnyH_take (i := 12) (oi := { dst := some 96, op := Op.indexAddr 28 (Operand.tmp 94) (Operand.tmp 95), type := 0, pos := "ref.go:42", after := #[{ on := 10, ground := Ground.data }, { on := 11, ground := Ground.data }, { on := 7, ground := Ground.guard }], guard := some (7, true) }) (v := ?vk34) rfl (by kernel_rfl) (by kernel_rfl) (by kernel_rfl) (fun _ _ _ h => h) (Or.inl ⟨by rfl, ?hk34⟩) (KB3.old U28 HD.out) ?rk34
                                    case hk34 => (intro wz hSw; (try dsimp only at hSw); go_simp; try with_reducible rfl)
                                    (try simp only [Act.put]); (try simp only [List.setIfInBounds_toArray]); (try simp only [List.set_cons_succ]); (try simp only [List.set_cons_zero])
                                    refine wpAnyH_take (i := 13) (oi := { dst := some 97, op := Op.load 43 (Operand.tmp 96), type := 43, pos := "ref.go:42", after := #[{ on := 12, ground := Ground.data }, { on := 7, ground := Ground.guard }], guard := some (7, true) }) (v := ?vk35) rfl (by kernel_rfl) (by kernel_rfl) (by kernel_rfl) (fun _ _ _ h => h) (Or.inl ⟨by rfl, ?hk35⟩) (KB3.old U28 HD.out) ?rk35
                                    case hk35 => (intro wz hSw; (try dsimp only at hSw); go_simp; try with_reducible rfl)
                                    (try simp only [Act.put]); (try simp only [List.setIfInBounds_toArray]); (try simp only [List.set_cons_succ]); (try simp only [List.set_cons_zero])
                                    refine wpAnyH_ready (rs := [14]) (by kernel_rfl) (by simp) ?_
                                    refine AllReadyH.cons (o := { dst := some 98, op := Op.call { callee := Callee.value (Operand.func 22), args := #[Operand.tmp 93, Operand.tmp 97], argTypes := #[31, 43] }, type := 4, pos := "ref.go:42", after := #[{ on := 9, ground := Ground.data }, { on := 13, ground := Ground.data }, { on := 7, ground := Ground.chain }, { on := 7, ground := Ground.guard }], guard := some (7, true) }) rfl (fun K hK => ?_) AllReadyH.nil
                                    refine wantCall2 ?_ 22 (.tmp 93) (.tmp 97) #[31, 43] ?_ (.agg #[.int .i64 b.s.s1, .int .i64 b.s.s2, .int .i64 b.s.s3, .slice b.s.a1 b.s.n1 b.s.c1, .slice b.s.a2 b.s.n2 b.s.c2, .slice b.s.a3 b.s.n3 b.s.c3]) (.float .f64 X) ?_ ?_ ?_ (ent_rwr _ _) ?_
                                    · rfl
                                    · rfl
                                    · rfl
                                    · rfl
                                    · rfl
                                    refine (HWb1.out _ U28).mono ?_
                                    rintro o x36 ⟨rfl, b36⟩
                                    refine ⟨_, rfl, ?_⟩
                                    have U36 := U28.trans b36
                                    refine hK.out _ _ (KB3.old U36 HD.out) (fun _ => ?_)
                                    clear hK K
                                    (try simp only [Act.put]); (try simp only [List.setIfInBounds_toArray]); (try simp only [List.set_cons_succ]); (try simp only [List.set_cons_zero])
                                    refine wpAnyH_take (i := 15) (oi := { dst := some 99, op := Op.pick (Operand.tmp 91) (Operand.tmp 98) (Operand.const (Value.bool false)), type := 4, pos := "ref.go:42", after := #[{ on := 7, ground := Ground.data }, { on := 14, ground := Ground.data }], guard := none }) (v := ?vk37) rfl (by kernel_rfl) (by kernel_rfl) (by kernel_rfl) (fun _ _ _ h => h) (Or.inl ⟨by rfl, ?hk37⟩) (KB3.old U36 HD.out) ?rk37
                                    case hk37 => (intro wz hSw; (try dsimp only at hSw); go_simp; try with_reducible rfl)
                                    (try simp only [Act.put]); (try simp only [List.setIfInBounds_toArray]); (try simp only [List.set_cons_succ]); (try simp only [List.set_cons_zero])
                                    refine wpAnyH_done (by kernel_rfl) ?_ _
                                    refine NoPanic.normal ?_
                                    have V5 := hid U36
                                    go_wp2
                                    go_roundw
                                    case rel => exact ⟨t + 1, htt, by go_num, HS.out, V.out.trans V5.out⟩
                                    case measure => simp [intOf]; omega
                                  · have HF := hid (show rt = false from by rw [HRt.out]; exact HNk.out (by rw [HCk2.out]; exact HTr.out (by simp)))
                                    clear HSt HTr
                                    go_upto_region 21 with fail
                                    refine wp_region_noPanic ?_
                                    refine wp_region_held_drew (S := KB3 ma mb a b gk t X) (by kernel_rfl) ?_ (fun hHeld => ?_)
                                    · exact KB3.old ((Old.refl _).drew) HD.out
                                    (try simp only [Act.put]); (try simp only [List.setIfInBounds_toArray]); (try simp only [List.set_cons_succ]); (try simp only [List.set_cons_zero])
                                    clear hHeld
                                    refine wpAnyH_take (i := 0) (oi := { dst := some 84, op := Op.fieldAddr 33 (Operand.tmp 8) 1, type := 0, pos := "ref.go:42", after := #[], guard := none }) (v := ?vk38) rfl (by kernel_rfl) (by kernel_rfl) (by kernel_rfl) (fun _ _ _ h => h) (Or.inl ⟨by rfl, ?hk38⟩) (KB3.old ((Old.refl wr).drew) HD.out) ?rk38
                                    case hk38 => (intro wz hSw; (try dsimp only at hSw); go_simp; try with_reducible rfl)
                                    (try simp only [Act.put]); (try simp only [List.setIfInBounds_toArray]); (try simp only [List.set_cons_succ]); (try simp only [List.set_cons_zero])
                                    refine wpAnyH_take (i := 1) (oi := { dst := some 85, op := Op.load 31 (Operand.tmp 84), type := 31, pos := "ref.go:42", after := #[{ on := 0, ground := Ground.data }], guard := none }) (v := ?vk39) rfl (by kernel_rfl) (by kernel_rfl) (by kernel_rfl) (fun _ _ _ h => h) (Or.inl ⟨by rfl, ?hk39⟩) (KB3.old ((Old.refl wr).drew) HD.out) ?rk39
                                    case hk39 => (intro wz hSw; (try dsimp only at hSw); go_simp; try with_reducible rfl)
                                    (try simp only [Act.put]); (try simp only [List.setIfInBounds_toArray]); (try simp only [List.set_cons_succ]); (try simp only [List.set_cons_zero])
                                    refine wpAnyH_take (i := 2) (oi := { dst := some 86, op := Op.move (Operand.tmp 5), type := 28, pos := "ref.go:42", after := #[], guard := none }) (v := ?vk40) rfl (by kernel_rfl) (by kernel_rfl) (by kernel_rfl) (fun _ _ _ h => h) (Or.inl ⟨by rfl, ?hk40⟩) (KB3.old ((Old.refl wr).drew) HD.out) ?rk40
                                    case hk40 => (intro wz hSw; (try dsimp only at hSw); go_simp; try with_reducible rfl)
                                    (try simp only [Act.put]); (try simp only [List.setIfInBounds_toArray]); (try simp only [List.set_cons_succ]); (try simp only [List.set_cons_zero])
                                    refine wpAnyH_take (i := 3) (oi := { dst := some 87, op := Op.move (Operand.tmp 10), type := 3, pos := "ref.go:42", after := #[], guard := none }) (v := ?vk41) rfl (by kernel_rfl) (by kernel_rfl) (by kernel_rfl) (fun _ _ _ h => h) (Or.inl ⟨by rfl, ?hk41⟩) (KB3.old ((Old.refl wr).drew) HD.out) ?rk41
                                    case hk41 => (intro wz hSw; (try dsimp only at hSw); go_simp; try with_reducible rfl)
                                    (try simp only [Act.put]); (try simp only [List.setIfInBounds_toArray]); (try simp only [List.set_cons_succ]); (try simp only [List.set_cons_zero])
                                    refine wpAnyH_take (i := 4) (oi := { dst := some 88, op := Op.indexAddr 28 (Operand.tmp 86) (Operand.tmp 87), type := 0, pos := "ref.go:42", after := #[{ on := 2, ground := Ground.data }, { on := 3, ground := Ground.data }], guard := none }) (v := ?vk42) rfl (by kernel_rfl) (by kernel_rfl) (by kernel_rfl) (fun _ _ _ h => h) (Or.inl ⟨by rfl, ?hk42⟩) (KB3.old ((Old.refl wr).drew) HD.out) ?rk42
                                    case hk42 => (intro wz hSw; (try dsimp only at hSw); go_simp; try with_reducible rfl)
                                    (try simp only [Act.put]); (try simp only [List.setIfInBounds_toArray]); (try simp only [List.set_cons_succ]); (try simp only [List.set_cons_zero])
                                    refine wpAnyH_take (i := 5) (oi := { dst := some 89, op := Op.load 43 (Operand.tmp 88), type := 43, pos := "ref.go:42", after := #[{ on := 4, ground := Ground.data }], guard := none }) (v := ?vk43) rfl (by kernel_rfl) (by kernel_rfl) (by kernel_rfl) (fun _ _ _ h => h) (Or.inl ⟨by rfl, ?hk43⟩) (KB3.old ((Old.refl wr).drew) HD.out) ?rk43
                                    case hk43 => (intro wz hSw; (try dsimp only at hSw); go_simp; try with_reducible rfl)
                                    (try simp only [Act.put]); (try simp only [List.setIfInBounds_toArray]); (try simp only [List.set_cons_succ]); (try simp only [List.set_cons_zero])
                                    refine wpAnyH_ready (rs := [6]) (by kernel_rfl) (by simp) ?_
                                    refine AllReadyH.cons (o := { dst := some 90, op := Op.call { callee := Callee.value (Operand.func 22), args := #[Operand.tmp 85, Operand.tmp 89], argTypes := #[31, 43] }, type := 4, pos := "ref.go:42", after := #[{ on := 1, ground := Ground.data }, { on := 5, ground := Ground.data }], guard := none }) rfl (fun K hK => ?_) AllReadyH.nil
                                    refine wantCall2 ?_ 22 (.tmp 85) (.tmp 89) #[31, 43] ?_ (.agg #[.int .i64 a.s.s1, .int .i64 a.s.s2, .int .i64 a.s.s3, .slice a.s.a1 a.s.n1 a.s.c1, .slice a.s.a2 a.s.n2 a.s.c2, .slice a.s.a3 a.s.n3 a.s.c3]) (.float .f64 X) ?_ ?_ ?_ (ent_rwr _ _) ?_
                                    · rfl
                                    · rfl
                                    · rfl
                                    · rfl
                                    · rfl
                                    refine (HWa1.out _ ((Old.refl wr).drew)).mono ?_
                                    rintro o x44 ⟨rfl, b44⟩
                                    refine ⟨_, rfl, ?_⟩
                                    have U44 := ((Old.refl wr).drew).trans b44
                                    refine hK.out _ _ (KB3.old U44 HD.out) (fun _ => ?_)
                                    clear hK K
                                    (try simp only [Act.put]); (try simp only [List.setIfInBounds_toArray]); (try simp only [List.set_cons_succ]); (try simp only [List.set_cons_zero])
                                    refine wpAnyH_take (i := 7) (oi := { dst := some 91, op := Op.move (Operand.tmp 90), type := 4, pos := "ref.go:42", after := #[{ on := 6, ground := Ground.data }, { on := 6, ground := Ground.chain }], guard := none }) (v := ?vk45) rfl (by kernel_rfl) (by kernel_rfl) (by kernel_rfl) (fun _ _ _ h => h) (Or.inl ⟨by rfl, ?hk45⟩) (KB3.old U44 HD.out) ?rk45
                                    case hk45 => (intro wz hSw; (try dsimp only at hSw); go_simp; try with_reducible rfl)
                                    (try simp only [Act.put]); (try simp only [List.setIfInBounds_toArray]); (try simp only [List.set_cons_succ]); (try simp only [List.set_cons_zero])
                                    refine wpAnyH_take (i := 8) (oi := { dst := some 92, op := Op.fieldAddr 33 (Operand.tmp 9) 1, type := 0, pos := "ref.go:42", after := #[{ on := 7, ground := Ground.guard }], guard := some (7, true) }) (v := ?vk46) rfl (by kernel_rfl) (by kernel_rfl) (by kernel_rfl) (fun _ _ _ h => h) (Or.inl ⟨by rfl, ?hk46⟩) (KB3.old U44 HD.out) ?rk46
                                    case hk46 => (intro wz hSw; (try dsimp only at hSw); go_simp; try with_reducible rfl)
                                    (try simp only [Act.put]); (try simp only [List.setIfInBounds_toArray]); (try simp only [List.set_cons_succ]); (try simp only [List.set_cons_zero])
                                    refine wpAnyH_take (i := 9) (oi := { dst := some 93, op := Op.load 31 (Operand.tmp 92), type := 31, pos := "ref.go:42", after := #[{ on := 8, ground := Ground.data }, { on := 7, ground := Ground.guard }], guard := some (7, true) }) (v := ?vk47) rfl (by kernel_rfl) (by kernel_rfl) (by kernel_rfl) (fun _ _ _ h => h) (Or.inl ⟨by rfl, ?hk47⟩) (KB3.old U44 HD.out) ?rk47
                                    case hk47 => (intro wz hSw; (try dsimp only at hSw); go_simp; try with_reducible rfl)
                                    (try simp only [Act.put]); (try simp only [List.setIfInBounds_toArray]); (try simp only [List.set_cons_succ]); (try simp only [List.set_cons_zero])
                                    refine wpAnyH_take (i := 10) (oi := { dst := some 94, op := Op.move (Operand.tmp 5), type := 28, pos := "ref.go:42", after := #[{ on := 7, ground := Ground.guard }], guard := some (7, true) }) (v := ?vk48) rfl (by kernel_rfl) (by kernel_rfl) (by kernel_rfl) (fun _ _ _ h => h) (Or.inl ⟨by rfl, ?hk48⟩) (KB3.old U44 HD.out) ?rk48
                                    case hk48 => (intro wz hSw; (try dsimp only at hSw); go_simp; try with_reducible rfl)
                                    (try simp only [Act.put]); (try simp only [List.setIfInBounds_toArray]); (try simp only [List.set_cons_succ]); (try simp only [List.set_cons_zero])
                                    refine wpAnyH_take (i := 11) (oi := { dst := some 95, op := Op.move (Operand.tmp 10), type := 3, pos := "ref.go:42", after := #[{ on := 7, ground := Ground.guard }], guard := some (7, true) }) (v := ?vk49) rfl (by kernel_rfl) (by kernel_rfl) (by kernel_rfl) (fun _ _ _ h => h) (Or.inl ⟨by rfl, ?hk49⟩) (KB3.old U44 HD.out) ?rk49
                                    case hk49 => (intro wz hSw; (try dsimp only at hSw); go_simp; try with_reducible rfl)
                                    (try simp only [Act.put]); (try simp only [List.setIfInBounds_toArray]); (try simp only [List.set_cons_succ]); (try simp only [List.set_cons_zero])
                                    refine wpAnyH_take (i := 12) (oi := { dst := some 96, op := Op.indexAddr 28 (Operand.tmp 94) (Operand.tmp 95), type := 0, pos := "ref.go:42", after := #[{ on := 10, ground := Ground.data }, { on := 11, ground := Ground.data }, { on := 7, ground := Ground.guard }], guard := some (7, true) }) (v := ?vk50) rfl (by kernel_rfl) (by kernel_rfl) (by kernel_rfl) (fun _ _ _ h => h) (Or.inl ⟨by rfl, ?hk50⟩) (KB3.old U44 HD.out) ?rk50
                                    case hk50 => (intro wz hSw; (try dsimp only at hSw); go_simp; try with_reducible rfl)
                                    (try simp only [Act.put]); (try simp only [List.setIfInBounds_toArray]); (try simp only [List.set_cons_succ]); (try simp only [List.set_cons_zero])
                                    refine wpAnyH_take (i := 13) (oi := { dst := some 97, op := Op.load 43 (Operand.tmp 96), type := 43, pos := "ref.go:42", after := #[{ on := 12, ground := Ground.data }, { on := 7, ground := Ground.guard }], guard := some (7, true) }) (v := ?vk51) rfl (by kernel_rfl) (by kernel_rfl) (by kernel_rfl) (fun _ _ _ h => h) (Or.inl ⟨by rfl, ?hk51⟩) (KB3.old U44 HD.out) ?rk51
                                    case hk51 => (intro wz hSw; (try dsimp only at hSw); go_simp; try with_reducible rfl)
                                    (try simp only [Act.put]); (try simp only [List.setIfInBounds_toArray]); (try simp only [List.set_cons_succ]); (try simp only [List.set_cons_zero])
                                    refine wpAnyH_ready (rs := [14]) (by kernel_rfl) (by simp) ?_
                                    refine AllReadyH.cons (o := { dst := some 98, op := Op.call { callee := Callee.value (Operand.func 22), args := #[Operand.tmp 93, Operand.tmp 97], argTypes := #[31, 43] }, type := 4, pos := "ref.go:42", after := #[{ on := 9, ground := Ground.data }, { on := 13, ground := Ground.data }, { on := 7, ground := Ground.chain }, { on := 7, ground := Ground.guard }], guard := some (7, true) }) rfl (fun K hK => ?_) AllReadyH.nil
                                    refine wantCall2 ?_ 22 (.tmp 93) (.tmp 97) #[31, 43] ?_ (.agg #[.int .i64 b.s.s1, .int .i64 b.s.s2, .int .i64 b.s.s3, .slice b.s.a1 b.s.n1 b.s.c1, .slice b.s.a2 b.s.n2 b.s.c2, .slice b.s.a3 b.s.n3 b.s.c3]) (.float .f64 X) ?_ ?_ ?_ (ent_rwr _ _) ?_
                                    · rfl
                                    · rfl
                                    · rfl
                                    · rfl
                                    · rfl
                                    refine (HWb1.out _ U44).mono ?_
                                    rintro o x52 ⟨rfl, b52⟩
                                    refine ⟨_, rfl, ?_⟩
                                    have U52 := U44.trans b52
                                    refine hK.out _ _ (KB3.old U52 HD.out) (fun _ => ?_)
                                    clear hK K
                                    (try simp only [Act.put]); (try simp only [List.setIfInBounds_toArray]); (try simp only [List.set_cons_succ]); (try simp only [List.set_cons_zero])
                                    refine wpAnyH_take (i := 15) (oi := { dst := some 99, op := Op.pick (Operand.tmp 91) (Operand.tmp 98) (Operand.const (Value.bool false)), type := 4, pos := "ref.go:42", after := #[{ on := 7, ground := Ground.data }, { on := 14, ground := Ground.data }], guard := none }) (v := ?vk53) rfl (by kernel_rfl) (by kernel_rfl) (by kernel_rfl) (fun _ _ _ h => h) (Or.inl ⟨by rfl, ?hk53⟩) (KB3.old U52 HD.out) ?rk53
                                    case hk53 => (intro wz hSw; (try dsimp only at hSw); go_simp; try with_reducible rfl)
                                    (try simp only [Act.put]); (try simp only [List.setIfInBounds_toArray]); (try simp only [List.set_cons_succ]); (try simp only [List.set_cons_zero])
                                    refine wpAnyH_done (by kernel_rfl) ?_ _
                                    refine NoPanic.normal ?_
                                    have V5 := hid U52
                                    go_wp2
                                    go_ret
                                    exact ⟨ret_b (by rw [HF.out]), UK.out.trans (UZ.out.trans (V.out.trans V5.out))⟩
                              · obtain rfl : KL = t := by omega
                                have HS := hid (HSk.out (by rw [HCk2.out]; exact HT0.out))
                                clear HCk HWa HWb HT0
                                go_wp2
                                go_roundw
                                case rel => exact ⟨k + 1, hkt, by go_num, HS.out, UZ.out.trans V.out⟩
                                case measure => simp [intOf]; omega
                          · have q1 : ¬ b.n ≤ a.s.s3 := by omega
                            have q2 : a.n ≤ b.s.s3 := by omega
                            have HS := hid (HSk.out (by rw [HCk2.out]; simp [h2]))
                            clear HCk HWa HWb
                            go_wp2
                            go_roundw
                            case rel => exact ⟨k + 1, hkt, by go_num, HS.out, UZ.out⟩
                            case measure => simp [intOf]; omega
                        · have q1 : b.n ≤ a.s.s3 := by omega
                          have HS := hid (HSk.out (by rw [HCk2.out]; simp [h1]))
                          clear HCk HWa HWb
                          go_wp2
                          go_roundw
                          case rel => exact ⟨k + 1, hkt, by go_num, HS.out, UZ.out⟩
                          case measure => simp [intOf]; omega
                · skip
                  refine stepAllocD ?_ ?_ ?_
                  · rfl
                  · rfl
                  intro m54 x54 hm54 hx54
                  have j54 := (J2d.start wr).nG hm54 hx54
                  clear hm54 hx54
                  refine hK.out _ _ (DD3.old j54.1 HD.out) (fun _ => ?_)
                  clear hK K
                  (try simp only [Act.put]); (try simp only [List.setIfInBounds_toArray]); (try simp only [List.set_cons_succ]); (try simp only [List.set_cons_zero])
                  refine wpAnyH_ready (rs := [8]) (by kernel_rfl) (by simp) ?_
                  refine AllReadyH.cons (o := { dst := some 8, op := Op.alloc 33, type := 0, pos := "ref.go:37", after := #[], guard := none }) rfl (fun K hK => ?_) AllReadyH.nil
                  · skip
                    refine stepAllocD ?_ ?_ ?_
                    · rfl
                    · rfl
                    intro m55 x55 hm55 hx55
                    have j55 := j54.nF hm55 hx55
                    clear hm55 hx55
                    refine hK.out _ _ (DD3.old j55.1 HD.out) (fun _ => ?_)
                    clear hK K
                    (try simp only [Act.put]); (try simp only [List.setIfInBounds_toArray]); (try simp only [List.set_cons_succ]); (try simp only [List.set_cons_zero])
                    refine wpAnyH_ready (rs := [10]) (by kernel_rfl) (by simp) ?_
                    refine AllReadyH.cons (o := { dst := none, op := Op.store 33 (Operand.tmp 8) (Operand.tmp 59), type := 0, pos := "ref.go:37", after := #[{ on := 8, ground := Ground.data }, { on := 3, ground := Ground.data }, { on := 0, ground := Ground.phase }, { on := 1, ground := Ground.phase }, { on := 2, ground := Ground.phase }, { on := 3, ground := Ground.phase }, { on := 4, ground := Ground.textOnly Departure.lateStores }, { on := 5, ground := Ground.textOnly Departure.lateStores }, { on := 6, ground := Ground.textOnly Departure.lateStores }, { on := 7, ground := Ground.textOnly Departure.lateStores }, { on := 8, ground := Ground.phase }, { on := 9, ground := Ground.phase }], guard := none }) rfl (fun K hK => ?_) AllReadyH.nil
                    · skip
                      refine stepStoreD ?_ (.tmp 8) (.tmp 59) ?_ m55 a ?_ ?_ j55.thereF ?_
                      · rfl
                      · rfl
                      · rfl
                      · rfl
                      refine hK.out _ _ (DD3.old (j55.upF _) HD.out) (fun _ => ?_)
                      clear hK K
                      (try simp only [Act.put]); (try simp only [List.setIfInBounds_toArray]); (try simp only [List.set_cons_succ]); (try simp only [List.set_cons_zero])
                      have j56 := j55.one a _ rfl
                      generalize x55.setCells m55 0 (dnRow a) = x56 at *
                      refine wpAnyH_ready (rs := [11]) (by kernel_rfl) (by simp) ?_
                      refine AllReadyH.cons (o := { dst := none, op := Op.store 33 (Operand.tmp 9) (Operand.tmp 63), type := 0, pos := "ref.go:37", after := #[{ on := 9, ground := Ground.data }, { on := 7, ground := Ground.data }, { on := 10, ground := Ground.chain }, { on := 0, ground := Ground.phase }, { on := 1, ground := Ground.phase }, { on := 2, ground := Ground.phase }, { on := 3, ground := Ground.phase }, { on := 4, ground := Ground.phase }, { on := 5, ground := Ground.phase }, { on := 6, ground := Ground.phase }, { on := 7, ground := Ground.phase }, { on := 8, ground := Ground.phase }, { on := 9, ground := Ground.phase }, { on := 10, ground := Ground.phase }], guard := none }) rfl (fun K hK => ?_) AllReadyH.nil
                      · skip
                        refine stepStoreD ?_ (.tmp 9) (.tmp 63) ?_ m54 b ?_ ?_ j56.2.2.2.1.there ?_
                        · rfl
                        · rfl
                        · rfl
                        · rfl
                        refine hK.out _ _ (DD3.old (Old.setCells j56.2.2.1 _ _ j56.1) HD.out) (fun _ => ?_)
                        clear hK K
                        (try simp only [Act.put]); (try simp only [List.setIfInBounds_toArray]); (try simp only [List.set_cons_succ]); (try simp only [List.set_cons_zero])
                        refine wpAnyH_done (by kernel_rfl) ?_ _
                        refine NoPanic.normal ?_
                        obtain ⟨hA, hB, hUn⟩ := j56.fin b _ rfl
                        generalize x56.setCells m54 0 (dnRow b) = wz at *
                        have A := hid hA
                        have B := hid hB
                        have UZ := hid (U.out.trans hUn)
                        obtain ⟨t0, t1, t2, t3, t4, t5, t6⟩ := DnBox.old (Old.refl wz) hA
                        obtain ⟨r0, r1, r2, r3, r4, r5, r6⟩ := DnBox.old (Old.refl wz) hB
                        clear hA hB hUn HD j56 U
                        generalize m55 = ma at *
                        generalize m54 = mb at *
                        by_cases h1 : a.s.s3 < b.n
                        · by_cases h2 : b.s.s3 < a.n
                          · have q1 : ¬ b.n ≤ a.s.s3 := by omega
                            have q2 : ¬ a.n ≤ b.s.s3 := by omega
                            rw [decide_eq_true h1, decide_eq_true h2, Bool.true_and, Bool.true_and] at HCk2
                            clear h1 h2
                            go_wp2
                            go_loopw [10] (fun z wr => ∃ t : Nat, t ≤ KL ∧ z = .int .i64 (t : Nat) ∧ Fl.anyG (kwB a b L) t = false ∧ Old wz wr) (fun z _ => KL - (intOf z).toNat)
                            case atStart => exact ⟨0, Nat.zero_le _, rfl, rfl, Old.refl _⟩
                            case round =>
                              obtain ⟨t, ht, rfl, h0, hu⟩ := hrel
                              have HT0 := hid h0
                              have V := hid hu
                              clear h0 t0 t1 t2 t3 t4 t5 t6 r0 r1 r2 r3 r4 r5 r6
                              by_cases htt : t < KL
                              · obtain ⟨gk, ek, c2⟩ := HCk.out t htt
                                subst ek
                                have HWa1 := hid (fun (W : World) (u : Old wr W) => HWa.out t htt W (UZ.out.trans (V.out.trans u)))
                                have HWb1 := hid (fun (W : World) (u : Old wr W) => HWb.out t htt W (UZ.out.trans (V.out.trans u)))
                                have HSt := hid (fun q => Fl.anyG_step (kwB a b L) t HT0.out q)
                                have HTr := hid (fun q => Fl.anyG_true (kwB a b L) KL t htt q)
                                rw [HKw.out t] at HSt HTr
                                have y0 := (UZ.out.trans V.out).keep c2
                                generalize wa (L.getD t 0) = ra at *
                                generalize wb (L.getD t 0) = rb at *
                                generalize L.getD t 0 = X at *
                                have HD := hid (show KB3 ma mb a b gk t X wr from ⟨DnBox.old hu A.out, DnBox.old hu B.out, y0⟩)
                                have n1 : (0 : Int) ≤ (t : Int) := by omega
                                have n2 : (t : Int) < (KL : Int) := by omega
                                clear c2 y0 hu HCk HWa HWb HT0
                                cases ra
                                · have HS := hid (HSt.out (by simp))
                                  clear HSt HTr
                                  go_upto_region 21 with fail
                                  refine wp_region_noPanic ?_
                                  refine wp_region_held_drew (S := KB3 ma mb a b gk t X) (by kernel_rfl) ?_ (fun hHeld => ?_)
                                  · exact KB3.old ((Old.refl _).drew) HD.out
                                  (try simp only [Act.put]); (try simp only [List.setIfInBounds_toArray]); (try simp only [List.set_cons_succ]); (try simp only [List.set_cons_zero])
                                  clear hHeld
                                  refine wpAnyH_take (i := 0) (oi := { dst := some 84, op := Op.fieldAddr 33 (Operand.tmp 8) 1, type := 0, pos := "ref.go:42", after := #[], guard := none }) (v := ?vk58) rfl (by kernel_rfl) (by kernel_rfl) (by kernel_rfl) (fun _ _ _ h => h) (Or.inl ⟨by rfl, ?hk58⟩) (KB3.old ((Old.refl wr).drew) HD.out) ?rk58
                                  case hk58 => (intro wz hSw; (try dsimp only at hSw); go_simp; try with_reducible rfl)
                                  (try simp only [Act.put]); (try simp only [List.setIfInBounds_toArray]); (try simp only [List.set_cons_succ]); (try simp only [List.set_cons_zero])
                                  refine wpAnyH_take (i := 1) (oi := { dst := some 85, op := Op.load 31 (Operand.tmp 84), type := 31, pos := "ref.go:42", after := #[{ on := 0, ground := Ground.data }], guard := none }) (v := ?vk59) rfl (by kernel_rfl) (by kernel_rfl) (by kernel_rfl) (fun _ _ _ h => h) (Or.inl ⟨by rfl, ?hk59⟩) (KB3.old ((Old.refl wr).drew) HD.out) ?rk59
                                  case hk59 => (intro wz hSw; (try dsimp only at hSw); go_simp; try with_reducible rfl)
                                  (try simp only [Act.put]); (try simp only [List.setIfInBounds_toArray]); (try simp only [List.set_cons_succ]); (try simp only [List.set_cons_zero])
                                  refine wpAnyH_take (i := 2) (oi := { dst := some 86, op := Op.move (Operand.tmp 5), type := 28, pos := "ref.go:42", after := #[], guard := none }) (v := ?vk60) rfl (by kernel_rfl) (by kernel_rfl) (by kernel_rfl) (fun _ _ _ h => h) (Or.inl ⟨by rfl, ?hk60⟩) (KB3.old ((Old.refl wr).drew) HD.out) ?rk60
                                  case hk60 => (intro wz hSw; (try dsimp only at hSw); go_simp; try with_reducible rfl)
                                  (try simp only [Act.put]); (try simp only [List.setIfInBounds_toArray]); (try simp only [List.set_cons_succ]); (try simp only [List.set_cons_zero])
                                  refine wpAnyH_take (i := 3) (oi := { dst := some 87, op := Op.move (Operand.tmp 10), type := 3, pos := "ref.go:42", after := #[], guard := none }) (v := ?vk61) rfl (by kernel_rfl) (by kernel_rfl) (by kernel_rfl) (fun _ _ _ h => h) (Or.inl ⟨by rfl, ?hk61⟩) (KB3.old ((Old.refl wr).drew) HD.out) ?rk61
                                  case hk61 => (intro wz hSw; (try dsimp only at hSw); go_simp; try with_reducible rfl)
                                  (try simp only [Act.put]); (try simp only [List.setIfInBounds_toArray]); (try simp only [List.set_cons_succ]); (try simp only [List.set_cons_zero])
                                  refine wpAnyH_take (i := 4) (oi := { dst := some 88, op := Op.indexAddr 28 (Operand.tmp 86) (Operand.tmp 87), type := 0, pos := "ref.go:42", after := #[{ on := 2, ground := Ground.data }, { on := 3, ground := Ground.data }], guard := none }) (v := ?vk62) rfl (by kernel_rfl) (by kernel_rfl) (by kernel_rfl) (fun _ _ _ h => h) (Or.inl ⟨by rfl, ?hk62⟩) (KB3.old ((Old.refl wr).drew) HD.out) ?rk62
                                  case hk62 => (intro wz hSw; (try dsimp only at hSw); go_simp; try with_reducible rfl)
                                  (try simp only [Act.put]); (try simp only [List.setIfInBounds_toArray]); (try simp only [List.set_cons_succ]); (try simp only [List.set_cons_zero])
                                  refine wpAnyH_take (i := 5) (oi := { dst := some 89, op := Op.load 43 (Operand.tmp 88), type := 43, pos := "ref.go:42", after := #[{ on := 4, ground := Ground.data }], guard := none }) (v := ?vk63) rfl (by kernel_rfl) (by kernel_rfl) (by kernel_rfl) (fun _ _ _ h => h) (Or.inl ⟨by rfl, ?hk63⟩) (KB3.old ((Old.refl wr).drew) HD.out) ?rk63
                                  case hk63 => (intro wz hSw; (try dsimp only at hSw); go_simp; try with_reducible rfl)
                                  (try simp only [Act.put]); (try simp only [List.setIfInBounds_toArray]); (try simp only [List.set_cons_succ]); (try simp only [List.set_cons_zero])
                                  refine wpAnyH_ready (rs := [6]) (by kernel_rfl) (by simp) ?_
                                  refine AllReadyH.cons (o := { dst := some 90, op := Op.call { callee := Callee.value (Operand.func 22), args := #[Operand.tmp 85, Operand.tmp 89], argTypes := #[31, 43] }, type := 4, pos := "ref.go:42", after := #[{ on := 1, ground := Ground.data }, { on := 5, ground := Ground.data }], guard := none }) rfl (fun K hK => ?_) AllReadyH.nil
                                  refine wantCall2 ?_ 22 (.tmp 85) (.tmp 89) #[31, 43] ?_ (.agg #[.int .i64 a.s.s1, .int .i64 a.s.s2, .int .i64 a.s.s3, .slice a.s.a1 a.s.n1 a.s.c1, .slice a.s.a2 a.s.n2 a.s.c2, .slice a.s.a3 a.s.n3 a.s.c3]) (.float .f64 X) ?_ ?_ ?_ (ent_rwr _ _) ?_
                                  · rfl
                                  · rfl
                                  · rfl
                                  · rfl
                                  · rfl
                                  refine (HWa1.out _ ((Old.refl wr).drew)).mono ?_
                                  rintro o x64 ⟨rfl, b64⟩
                                  refine ⟨_, rfl, ?_⟩
                                  have U64 := ((Old.refl wr).drew).trans b64
                                  refine hK.out _ _ (KB3.old U64 HD.out) (fun _ => ?_)
                                  clear hK K
                                  (try simp only [Act.put]); (try simp only [List.setIfInBounds_toArray]); (try simp only [List.set_cons_succ]); (try simp only [List.set_cons_zero])
                                  refine wpAnyH_take (i := 7) (oi := { dst := some 91, op := Op.move (Operand.tmp 90), type := 4, pos := "ref.go:42", after := #[{ on := 6, ground := Ground.data }, { on := 6, ground := Ground.chain }], guard := none }) (v := ?vk65) rfl (by kernel_rfl) (by kernel_rfl) (by kernel_rfl) (fun _ _ _ h => h) (Or.inl ⟨by rfl, ?hk65⟩) (KB3.old U64 HD.out) ?rk65
                                  case hk65 => (intro wz hSw; (try dsimp only at hSw); go_simp; try with_reducible rfl)
                                  (try simp only [Act.put]); (try simp only [List.setIfInBounds_toArray]); (try simp only [List.set_cons_succ]); (try simp only [List.set_cons_zero])
                                  refine wpAnyH_take (i := 8) (oi := { dst := some 92, op := Op.fieldAddr 33 (Operand.tmp 9) 1, type := 0, pos := "ref.go:42", after := #[{ on := 7, ground := Ground.guard }], guard := some (7, true) }) (v := undef) rfl (by kernel_rfl) (by kernel_rfl) (by kernel_rfl) (fun _ _ _ h => h) (Or.inr ⟨by rfl, rfl⟩) (KB3.old U64 HD.out) ?_
                                  (try simp only [Act.put]); (try simp only [List.setIfInBounds_toArray]); (try simp only [List.set_cons_succ]); (try simp only [List.set_cons_zero])
                                  refine wpAnyH_take (i := 9) (oi := { dst := some 93, op := Op.load 31 (Operand.tmp 92), type := 31, pos := "ref.go:42", after := #[{ on := 8, ground := Ground.data }, { on := 7, ground := Ground.guard }], guard := some (7, true) }) (v := undef) rfl (by kernel_rfl) (by kernel_rfl) (by kernel_rfl) (fun _ _ _ h => h) (Or.inr ⟨by rfl, rfl⟩) (KB3.old U64 HD.out) ?_
                                  (try simp only [Act.put]); (try simp only [List.setIfInBounds_toArray]); (try simp only [List.set_cons_succ]); (try simp only [List.set_cons_zero])
                                  refine wpAnyH_take (i := 10) (oi := { dst := some 94, op := Op.move (Operand.tmp 5), type := 28, pos := "ref.go:42", after := #[{ on := 7, ground := Ground.guard }], guard := some (7, true) }) (v := undef) rfl (by kernel_rfl) (by kernel_rfl) (by kernel_rfl) (fun _ _ _ h => h) (Or.inr ⟨by rfl, rfl⟩) (KB3.old U64 HD.out) ?_
                                  (try simp only [Act.put]); (try simp only [List.setIfInBounds_toArray]); (try simp only [List.set_cons_succ]); (try simp only [List.set_cons_zero])
                                  refine wpAnyH_take (i := 11) (oi := { dst := some 95, op := Op.move (Operand.tmp 10), type := 3, pos := "ref.go:42", after := #[{ on := 7, ground := Ground.guard }], guard := some (7, true) }) (v := undef) rfl (by kernel_rfl) (by kernel_rfl) (by kernel_rfl) (fun _ _ _ h => h) (Or.inr ⟨by rfl, rfl⟩) (KB3.old U64 HD.out) ?_
                                  (try simp only [Act.put]); (try simp only [List.setIfInBounds_toArray]); (try simp only [List.set_cons_succ]); (try simp only [List.set_cons_zero])
                                  refine wpAnyH_take (i := 12) (oi := { dst := some 96, op := Op.indexAddr 28 (Operand.tmp 94) (Operand.tmp 95), type := 0, pos := "ref.go:42", after := #[{ on := 10, ground := Ground.data }, { on := 11, ground := Ground.data }, { on := 7, ground := Ground.guard }], guard := some (7, true) }) (v := undef) rfl (by kernel_rfl) (by kernel_rfl) (by kernel_rfl) (fun _ _ _ h => h) (Or.inr ⟨by rfl, rfl⟩) (KB3.old U64 HD.out) ?_
                                  (try simp only [Act.put]); (try simp only [List.setIfInBounds_toArray]); (try simp only [List.set_cons_succ]); (try simp only [List.set_cons_zero])
                                  refine wpAnyH_take (i := 13) (oi := { dst := some 97, op := Op.load 43 (Operand.tmp 96), type := 43, pos := "ref.go:42", after := #[{ on := 12, ground := Ground.data }, { on := 7, ground := Ground.guard }], guard := some (7, true) }) (v := undef) rfl (by kernel_rfl) (by kernel_rfl) (by kernel_rfl) (fun _ _ _ h => h) (Or.inr ⟨by rfl, rfl⟩) (KB3.old U64 HD.out) ?_
                                  (try simp only [Act.put]); (try simp only [List.setIfInBounds_toArray]); (try simp only [List.set_cons_succ]); (try simp only [List.set_cons_zero])
                                  refine wpAnyH_take (i := 14) (oi := { dst := some 98, op := Op.call { callee := Callee.value (Operand.func 22), args := #[Operand.tmp 93, Operand.tmp 97], argTypes := #[31, 43] }, type := 4, pos := "ref.go:42", after := #[{ on := 9, ground := Ground.data }, { on := 13, ground := Ground.data }, { on := 7, ground := Ground.chain }, { on := 7, ground := Ground.guard }], guard := some (7, true) }) (v := undef) rfl (by kernel_rfl) (by kernel_rfl) (by kernel_rfl) (fun _ _ _ h => h) (Or.inr ⟨by rfl, rfl⟩) (KB3.old U64 HD.out) ?_
                                  (try simp only [Act.put]); (try simp only [List.setIfInBounds_toArray]); (try simp only [List.set_cons_succ]); (try simp only [List.set_cons_zero])
                                  refine wpAnyH_take (i := 15) (oi := { dst := some 99, op := Op.pick (Operand.tmp 91) (Operand.tmp 98) (Operand.const (Value.bool false)), type := 4, pos := "ref.go:42", after := #[{ on := 7, ground := Ground.data }, { on := 14, ground := Ground.data }], guard := none }) (v := ?vk66) rfl (by kernel_rfl) (by kernel_rfl) (by kernel_rfl) (fun _ _ _ h => h) (Or.inl ⟨by rfl, ?hk66⟩) (KB3.old U64 HD.out) ?rk66
                                  case hk66 => (intro wz hSw; (try dsimp only at hSw); go_simp; try with_reducible rfl)
                                  (try simp only [Act.put]); (try simp only [List.setIfInBounds_toArray]); (try simp only [List.set_cons_succ]); (try simp only [List.set_cons_zero])
                                  refine wpAnyH_done (by kernel_rfl) ?_ _
                                  refine NoPanic.normal ?_
                                  have V5 := hid U64
                                  go_wp2
                                  go_roundw
                                  case rel => exact ⟨t + 1, htt, by go_num, HS.out, V.out.trans V5.out⟩
                                  case measure => simp [intOf]; omega
                                · cases rb
                                  · have HS := hid (HSt.out (by simp))
                                    clear HSt HTr
                                    go_upto_region 21 with fail
                                    refine wp_region_noPanic ?_
                                    refine wp_region_held_drew (S := KB3 ma mb a b gk t X) (by kernel_rfl) ?_ (fun hHeld => ?_)
                                    · exact KB3.old ((Old.refl _).drew) HD.out
                                    (try simp only [Act.put]); (try simp only [List.setIfInBounds_toArray]); (try simp only [List.set_cons_succ]); (try simp only [List.set_cons_zero])
                                    clear hHeld
                                    refine wpAnyH_take (i := 0) (oi := { dst := some 84, op := Op.fieldAddr 33 (Operand.tmp 8) 1, type := 0, pos := "ref.go:42", after := #[], guard := none }) (v := ?vk67) rfl (by kernel_rfl) (by kernel_rfl) (by kernel_rfl) (fun _ _ _ h => h) (Or.inl ⟨by rfl, ?hk67⟩) (KB3.old ((Old.refl wr).drew) HD.out) ?rk67
                                    case hk67 => (intro wz hSw; (try dsimp only at hSw); go_simp; try with_reducible rfl)
                                    (try simp only [Act.put]); (try simp only [List.setIfInBounds_toArray]); (try simp only [List.set_cons_succ]); (try simp only [List.set_cons_zero])
                                    refine wpAnyH_take (i := 1) (oi := { dst := some 85, op := Op.load 31 (Operand.tmp 84), type := 31, pos := "ref.go:42", after := #[{ on := 0, ground := Ground.data }], guard := none }) (v := ?vk68) rfl (by kernel_rfl) (by kernel_rfl) (by kernel_rfl) (fun _ _ _ h => h) (Or.inl ⟨by rfl, ?hk68⟩) (KB3.old ((Old.refl wr).drew) HD.out) ?rk68
                                    case hk68 => (intro wz hSw; (try dsimp only at hSw); go_simp; try with_reducible rfl)
                                    (try simp only [Act.put]); (try simp only [List.setIfInBounds_toArray]); (try simp only [List.set_cons_succ]); (try simp only [List.set_cons_zero])
                                    refine wpAnyH_take (i := 2) (oi := { dst := some 86, op := Op.move (Operand.tmp 5), type := 28, pos := "ref.go:42", after := #[], guard := none }) (v := ?vk69) rfl (by kernel_rfl) (by kernel_rfl) (by kernel_rfl) (fun _ _ _ h => h) (Or.inl ⟨by rfl, ?hk69⟩) (KB3.old ((Old.refl wr).drew) HD.out) ?rk69
                                    case hk69 => (intro wz hSw; (try dsimp only at hSw); go_simp; try with_reducible rfl)
                                    (try simp only [Act.put]); (try simp only [List.setIfInBounds_toArray]); (try simp only [List.set_cons_succ]); (try simp only [List.set_cons_zero])
                                    refine wpAnyH_take (i := 3) (oi := { dst := some 87, op := Op.move (Operand.tmp 10), type := 3, pos := "ref.go:42", after := #[], guard := none }) (v := ?vk70) rfl (by kernel_rfl) (by kernel_rfl) (by kernel_rfl) (fun _ _ _ h => h) (Or.inl ⟨by rfl, ?hk70⟩) (KB3.old ((Old.refl wr).drew) HD.out) ?rk70
                                    case hk70 => (intro wz hSw; (try dsimp only at hSw); go_simp; try with_reducible rfl)
                                    (try simp only [Act.put]); (try simp only [List.setIfInBounds_toArray]); (try simp only [List.set_cons_succ]); (try simp only [List.set_cons_zero])
                                    refine wpAnyH_take (i := 4) (oi := { dst := some 88, op := Op.indexAddr 28 (Operand.tmp 86) (Operand.tmp 87), type := 0, pos := "ref.go:42", after := #[{ on := 2, ground := Ground.data }, { on := 3, ground := Ground.data }], guard := none }) (v := ?vk71) rfl (by kernel_rfl) (by kernel_rfl) (by kernel_rfl) (fun _ _ _ h => h) (Or.inl ⟨by rfl, ?hk71⟩) (KB3.old ((Old.refl wr).drew) HD.out) ?rk71
                                    case hk71 => (intro wz hSw; (try dsimp only at hSw); go_simp; try with_reducible rfl)
                                    (try simp only [Act.put]); (try simp only [List.setIfInBounds_toArray]); (try simp only [List.set_cons_succ]); (try simp only [List.set_cons_zero])
                                    refine wpAnyH_take (i := 5) (oi := { dst := some 89, op := Op.load 43 (Operand.tmp 88), type := 43, pos := "ref.go:42", after := #[{ on := 4, ground := Ground.data }], guard := none }) (v := ?vk72) rfl (by kernel_rfl) (by kernel_rfl) (by kernel_rfl) (fun _ _ _ h => h) (Or.inl ⟨by rfl, ?hk72⟩) (KB3.old ((Old.refl wr).drew) HD.out) ?rk72
                                    case hk72 => (intro wz hSw; (try dsimp only at hSw); go_simp; try with_reducible rfl)
                                    (try simp only [Act.put]); (try simp only [List.setIfInBounds_toArray]); (try simp only [List.set_cons_succ]); (try simp only [List.set_cons_zero])
                                    refine wpAnyH_ready (rs := [6]) (by kernel_rfl) (by simp) ?_
                                    refine AllReadyH.cons (o := { dst := some 90, op := Op.call { callee := Callee.value (Operand.func 22), args := #[Operand.tmp 85, Operand.tmp 89], argTypes := #[31, 43] }, type := 4, pos := "ref.go:42", after := #[{ on := 1, ground := Ground.data }, { on := 5, ground := Ground.data }], guard := none }) rfl (fun K hK => ?_) AllReadyH.nil
                                    refine wantCall2 ?_ 22 (.tmp 85) (.tmp 89) #[31, 43] ?_ (.agg #[.int .i64 a.s.s1, .int .i64 a.s.s2, .int .i64 a.s.s3, .slice a.s.a1 a.s.n1 a.s.c1, .slice a.s.a2 a.s.n2 a.s.c2, .slice a.s.a3 a.s.n3 a.s.c3]) (.float .f64 X) ?_ ?_ ?_ (ent_rwr _ _) ?_
                                    · rfl
                                    · rfl
                                    · rfl
                                    · rfl
                                    · rfl
                                    refine (HWa1.out _ ((Old.refl wr).drew)).mono ?_
                                    rintro o x73 ⟨rfl, b73⟩
                                    refine ⟨_, rfl, ?_⟩
                                    have U73 := ((Old.refl wr).drew).trans b73
                                    refine hK.out _ _ (KB3.old U73 HD.out) (fun _ => ?_)
                                    clear hK K
                                    (try simp only [Act.put]); (try simp only [List.setIfInBounds_toArray]); (try simp only [List.set_cons_succ]); (try simp only [List.set_cons_zero])
                                    refine wpAnyH_take (i := 7) (oi := { dst := some 91, op := Op.move (Operand.tmp 90), type := 4, pos := "ref.go:42", after := #[{ on := 6, ground := Ground.data }, { on := 6, ground := Ground.chain }], guard := none }) (v := ?vk74) rfl (by kernel_rfl) (by kernel_rfl) (by kernel_rfl) (fun _ _ _ h => h) (Or.inl ⟨by rfl, ?hk74⟩) (KB3.old U73 HD.out) ?rk74
                                    case hk74 => (intro wz hSw; (try dsimp only at hSw); go_simp; try with_reducible rfl)
                                    (try simp only [Act.put]); (try simp only [List.setIfInBounds_toArray]); (try simp only [List.set_cons_succ]); (try simp only [List.set_cons_zero])
                                    refine wpAnyH_take (i := 8) (oi := { dst := some 92, op := Op.fieldAddr 33 (Operand.tmp 9) 1, type := 0, pos := "ref.go:42", after := #[{ on := 7, ground := Ground.guard }], guard := some (7, true) }) (v := ?vk75) rfl (by kernel_rfl) (by kernel_rfl) (by kernel_rfl) (fun _ _ _ h => h) (Or.inl ⟨by rfl, ?hk75⟩) (KB3.old U73 HD.out) ?rk75
                                    case hk75 => (intro wz hSw; (try dsimp only at hSw); go_simp; try with_reducible rfl)
                                    (try simp only [Act.put]); (try simp only [List.setIfInBounds_toArray]); (try simp only [List.set_cons_succ]); (try simp only [List.set_cons_zero])
                                    refine wpAnyH_take (i := 9) (oi := { dst := some 93, op := Op.load 31 (Operand.tmp 92), type := 31, pos := "ref.go:42", after := #[{ on := 8, ground := Ground.data }, { on := 7, ground := Ground.guard }], guard := some (7, true) }) (v := ?vk76) rfl (by kernel_rfl) (by kernel_rfl) (by kernel_rfl) (fun _ _ _ h => h) (Or.inl ⟨by rfl, ?hk76⟩) (KB3.old U73 HD.out) ?rk76
                                    case hk76 => (intro wz hSw; (try dsimp only at hSw); go_simp; try with_reducible rfl)
                                    (try simp only [Act.put]); (try simp only [List.setIfInBounds_toArray]); (try simp only [List.set_cons_succ]); (try simp only [List.set_cons_zero])
                                    refine wpAnyH_take (i := 10) (oi := { dst := some 94, op := Op.move (Operand.tmp 5), type := 28, pos := "ref.go:42", after := #[{ on := 7, ground := Ground.guard }], guard := some (7, true) }) (v := ?vk77) rfl (by kernel_rfl) (by kernel_rfl) (by kernel_rfl) (fun _ _ _ h => h) (Or.inl ⟨by rfl, ?hk77⟩) (KB3.old U73 HD.out) ?rk77
                                    case hk77 => (intro wz hSw; (try dsimp only at hSw); go_simp; try with_reducible rfl)
                                    (try simp only [Act.put]); (try simp only [List.setIfInBounds_toArray]); (try simp only [List.set_cons_succ]); (try simp only [List.set_cons_zero])
                                    refine wpAnyH_take (i := 11) (oi := { dst := some 95, op := Op.move (Operand.tmp 10), type := 3, pos := "ref.go:42", after := #[{ on := 7, ground := Ground.guard }], guard := some (7, true) }) (v := ?vk78) rfl (by kernel_rfl) (by kernel_rfl) (by kernel_rfl) (fun _ _ _ h => h) (Or.inl ⟨by rfl, ?hk78⟩) (KB3.old U73 HD.out) ?rk78
                                    case hk78 => (intro wz hSw; (try dsimp only at hSw); go_simp; try with_reducible rfl)
                                    (try simp only [Act.put]); (try simp only [List.setIfInBounds_toArray]); (try simp only [List.set_cons_succ]); (try simp only [List.set_cons_zero])
                                    refine wpAnyH_take (i := 12) (oi := { dst := some 96, op := Op.indexAddr 28 (Operand.tmp 94) (Operand.tmp 95), type := 0, pos := "ref.go:42", after := #[{ on := 10, ground := Ground.data }, { on := 11, ground := Ground.data }, { on := 7, ground := Ground.guard }], guard := some (7, true) }) (v := ?vk79) rfl (by kernel_rfl) (by kernel_rfl) (by kernel_rfl) (fun _ _ _ h => h) (Or.inl ⟨by rfl, ?hk79⟩) (KB3.old U73 HD.out) ?rk79
                                    case hk79 => (intro wz hSw; (try dsimp only at hSw); go_simp; try with_reducible rfl)
                                    (try simp only [Act.put]); (try simp only [List.setIfInBounds_toArray]); (try simp only [List.set_cons_succ]); (try simp only [List.set_cons_zero])
                                    refine wpAnyH_take (i := 13) (oi := { dst := some 97, op := Op.load 43 (Operand.tmp 96), type := 43, pos := "ref.go:42", after := #[{ on := 12, ground := Ground.data }, { on := 7, ground := Ground.guard }], guard := some (7, true) }) (v := ?vk80) rfl (by kernel_rfl) (by kernel_rfl) (by kernel_rfl) (fun _ _ _ h => h) (Or.inl ⟨by rfl, ?hk80⟩) (KB3.old U73 HD.out) ?rk80
                                    case hk80 => (intro wz hSw; (try dsimp only at hSw); go_simp; try with_reducible rfl)
                                    (try simp only [Act.put]); (try simp only [List.setIfInBounds_toArray]); (try simp only [List.set_cons_succ]); (try simp only [List.set_cons_zero])
                                    refine wpAnyH_ready (rs := [14]) (by kernel_rfl) (by simp) ?_
                                    refine AllReadyH.cons (o := { dst := some 98, op := Op.call { callee := Callee.value (Operand.func 22), args := #[Operand.tmp 93, Operand.tmp 97], argTypes := #[31, 43] }, type := 4, pos := "ref.go:42", after := #[{ on := 9, ground := Ground.data }, { on := 13, ground := Ground.data }, { on := 7, ground := Ground.chain }, { on := 7, ground := Ground.guard }], guard := some (7, true) }) rfl (fun K hK => ?_) AllReadyH.nil
                                    refine wantCall2 ?_ 22 (.tmp 93) (.tmp 97) #[31, 43] ?_ (.agg #[.int .i64 b.s.s1, .int .i64 b.s.s2, .int .i64 b.s.s3, .slice b.s.a1 b.s.n1 b.s.c1, .slice b.s.a2 b.s.n2 b.s.c2, .slice b.s.a3 b.s.n3 b.s.c3]) (.float .f64 X) ?_ ?_ ?_ (ent_rwr _ _) ?_
                                    · rfl
                                    · rfl
                                    · rfl
                                    · rfl
                                    · rfl
                                    refine (HWb1.out _ U73).mono ?_
                                    rintro o x81 ⟨rfl, b81⟩
                                    refine ⟨_, rfl, ?_⟩
                                    have U81 := U73.trans b81
                                    refine hK.out _ _ (KB3.old U81 HD.out) (fun _ => ?_)
                                    clear hK K
                                    (try simp only [Act.put]); (try simp only [List.setIfInBounds_toArray]); (try simp only [List.set_cons_succ]); (try simp only [List.set_cons_zero])
                                    refine wpAnyH_take (i := 15) (oi := { dst := some 99, op := Op.pick (Operand.tmp 91) (Operand.tmp 98) (Operand.const (Value.bool false)), type := 4, pos := "ref.go:42", after := #[{ on := 7, ground := Ground.data }, { on := 14, ground := Ground.data }], guard := none }) (v := ?vk82) rfl (by kernel_rfl) (by kernel_rfl) (by kernel_rfl) (fun _ _ _ h => h) (Or.inl ⟨by rfl, ?hk82⟩) (KB3.old U81 HD.out) ?rk82
                                    case hk82 => (intro wz hSw; (try dsimp only at hSw); go_simp; try with_reducible rfl)
                                    (try simp only [Act.put]); (try simp only [List.setIfInBounds_toArray]); (try simp only [List.set_cons_succ]); (try simp only [List.set_cons_zero])
                                    refine wpAnyH_done (by kernel_rfl) ?_ _
                                    refine NoPanic.normal ?_
                                    have V5 := hid U81
                                    go_wp2
                                    go_roundw
                                    case rel => exact ⟨t + 1, htt, by go_num, HS.out, V.out.trans V5.out⟩
                                    case measure => simp [intOf]; omega
                                  · have HF := hid (show rt = false from by rw [HRt.out]; exact HNk.out (by rw [HCk2.out]; exact HTr.out (by simp)))
                                    clear HSt HTr
                                    go_upto_region 21 with fail
                                    refine wp_region_noPanic ?_
                                    refine wp_region_held_drew (S := KB3 ma mb a b gk t X) (by kernel_rfl) ?_ (fun hHeld => ?_)
                                    · exact KB3.old ((Old.refl _).drew) HD.out
                                    (try simp only [Act.put]); (try simp only [List.setIfInBounds_toArray]); (try simp only [List.set_cons_succ]); (try simp only [List.set_cons_zero])
                                    clear hHeld
                                    refine wpAnyH_take (i := 0) (oi := { dst := some 84, op := Op.fieldAddr 33 (Operand.tmp 8) 1, type := 0, pos := "ref.go:42", after := #[], guard := none }) (v := ?vk83) rfl (by kernel_rfl) (by kernel_rfl) (by kernel_rfl) (fun _ _ _ h => h) (Or.inl ⟨by rfl, ?hk83⟩) (KB3.old ((Old.refl wr).drew) HD.out) ?rk83
                                    case hk83 => (intro wz hSw; (try dsimp only at hSw); go_simp; try with_reducible rfl)
                                    (try simp only [Act.put]); (try simp only [List.setIfInBounds_toArray]); (try simp only [List.set_cons_succ]); (try simp only [List.set_cons_zero])
                                    refine wpAnyH_take (i := 1) (oi := { dst := some 85, op := Op.load 31 (Operand.tmp 84), type := 31, pos := "ref.go:42", after := #[{ on := 0, ground := Ground.data }], guard := none }) (v := ?vk84) rfl (by kernel_rfl) (by kernel_rfl) (by kernel_rfl) (fun _ _ _ h => h) (Or.inl ⟨by rfl, ?hk84⟩) (KB3.old ((Old.refl wr).drew) HD.out) ?rk84
                                    case hk84 => (intro wz hSw; (try dsimp only at hSw); go_simp; try with_reducible rfl)
                                    (try simp only [Act.put]); (try simp only [List.setIfInBounds_toArray]); (try simp only [List.set_cons_succ]); (try simp only [List.set_cons_zero])
                                    refine wpAnyH_take (i := 2) (oi := { dst := some 86, op := Op.move (Operand.tmp 5), type := 28, pos := "ref.go:42", after := #[], guard := none }) (v := ?vk85) rfl (by kernel_rfl) (by kernel_rfl) (by kernel_rfl) (fun _ _ _ h => h) (Or.inl ⟨by rfl, ?hk85⟩) (KB3.old ((Old.refl wr).drew) HD.out) ?rk85
                                    case hk85 => (intro wz hSw; (try dsimp only at hSw); go_simp; try with_reducible rfl)
                                    (try simp only [Act.put]); (try simp only [List.setIfInBounds_toArray]); (try simp only [List.set_cons_succ]); (try simp only [List.set_cons_zero])
                                    refine wpAnyH_take (i := 3) (oi := { dst := some 87, op := Op.move (Operand.tmp 10), type := 3, pos := "ref.go:42", after := #[], guard := none }) (v := ?vk86) rfl (by kernel_rfl) (by kernel_rfl) (by kernel_rfl) (fun _ _ _ h => h) (Or.inl ⟨by rfl, ?hk86⟩) (KB3.old ((Old.refl wr).drew) HD.out) ?rk86
                                    case hk86 => (intro wz hSw; (try dsimp only at hSw); go_simp; try with_reducible rfl)
                                    (try simp only [Act.put]); (try simp only [List.setIfInBounds_toArray]); (try simp only [List.set_cons_succ]); (try simp only [List.set_cons_zero])
                                    refine wpAnyH_take (i := 4) (oi := { dst := some 88, op := Op.indexAddr 28 (Operand.tmp 86) (Operand.tmp 87), type := 0, pos := "ref.go:42", after := #[{ on := 2, ground := Ground.data }, { on := 3, ground := Ground.data }], guard := none }) (v := ?vk87) rfl (by kernel_rfl) (by kernel_rfl) (by kernel_rfl) (fun _ _ _ h => h) (Or.inl ⟨by rfl, ?hk87⟩) (KB3.old ((Old.refl wr).drew) HD.out) ?rk87
                                    case hk87 => (intro wz hSw; (try dsimp only at hSw); go_simp; try with_reducible rfl)
                                    (try simp only [Act.put]); (try simp only [List.setIfInBounds_toArray]); (try simp only [List.set_cons_succ]); (try simp only [List.set_cons_zero])
                                    refine wpAnyH_take (i := 5) (oi := { dst := some 89, op := Op.load 43 (Operand.tmp 88), type := 43, pos := "ref.go:42", after := #[{ on := 4, ground := Ground.data }], guard := none }) (v := ?vk88) rfl (by kernel_rfl) (by kernel_rfl) (by kernel_rfl) (fun _ _ _ h => h) (Or.inl ⟨by rfl, ?hk88⟩) (KB3.old ((Old.refl wr).drew) HD.out) ?rk88
                                    case hk88 => (intro wz hSw; (try dsimp only at hSw); go_simp; try with_reducible rfl)
                                    (try simp only [Act.put]); (try simp only [List.setIfInBounds_toArray]); (try simp only [List.set_cons_succ]); (try simp only [List.set_cons_zero])
                                    refine wpAnyH_ready (rs := [6]) (by kernel_rfl) (by simp) ?_
                                    refine AllReadyH.cons (o := { dst := some 90, op := Op.call { callee := Callee.value (Operand.func 22), args := #[Operand.tmp 85, Operand.tmp 89], argTypes := #[31, 43] }, type := 4, pos := "ref.go:42", after := #[{ on := 1, ground := Ground.data }, { on := 5, ground := Ground.data }], guard := none }) rfl (fun K hK => ?_) AllReadyH.nil
                                    refine wantCall2 ?_ 22 (.tmp 85) (.tmp 89) #[31, 43] ?_ (.agg #[.int .i64 a.s.s1, .int .i64 a.s.s2, .int .i64 a.s.s3, .slice a.s.a1 a.s.n1 a.s.c1, .slice a.s.a2 a.s.n2 a.s.c2, .slice a.s.a3 a.s.n3 a.s.c3]) (.float .f64 X) ?_ ?_ ?_ (ent_rwr _ _) ?_
                                    · rfl
                                    · rfl
                                    · rfl
                                    · rfl
                                    · rfl
                                    refine (HWa1.out _ ((Old.refl wr).drew)).mono ?_
                                    rintro o x89 ⟨rfl, b89⟩
                                    refine ⟨_, rfl, ?_⟩
                                    have U89 := ((Old.refl wr).drew).trans b89
                                    refine hK.out _ _ (KB3.old U89 HD.out) (fun _ => ?_)
                                    clear hK K
                                    (try simp only [Act.put]); (try simp only [List.setIfInBounds_toArray]); (try simp only [List.set_cons_succ]); (try simp only [List.set_cons_zero])
                                    refine wpAnyH_take (i := 7) (oi := { dst := some 91, op := Op.move (Operand.tmp 90), type := 4, pos := "ref.go:42", after := #[{ on := 6, ground := Ground.data }, { on := 6, ground := Ground.chain }], guard := none }) (v := ?vk90) rfl (by kernel_rfl) (by kernel_rfl) (by kernel_rfl) (fun _ _ _ h => h) (Or.inl ⟨by rfl, ?hk90⟩) (KB3.old U89 HD.out) ?rk90
                                    case hk90 => (intro wz hSw; (try dsimp only at hSw); go_simp; try with_reducible rfl)
                                    (try simp only [Act.put]); (try simp only [List.setIfInBounds_toArray]); (try simp only [List.set_cons_succ]); (try simp only [List.set_cons_zero])
                                    refine wpAnyH_take (i := 8) (oi := { dst := some 92, op := Op.fieldAddr 33 (Operand.tmp 9) 1, type := 0, pos := "ref.go:42", after := #[{ on := 7, ground := Ground.guard }], guard := some (7, true) }) (v := ?vk91) rfl (by kernel_rfl) (by kernel_rfl) (by kernel_rfl) (fun _ _ _ h => h) (Or.inl ⟨by rfl, ?hk91⟩) (KB3.old U89 HD.out) ?rk91
                                    case hk91 => (intro wz hSw; (try dsimp only at hSw); go_simp; try with_reducible rfl)
                                    (try simp only [Act.put]); (try simp only [List.setIfInBounds_toArray]); (try simp only [List.set_cons_succ]); (try simp only [List.set_cons_zero])
                                    refine wpAnyH_take (i := 9) (oi := { dst := some 93, op := Op.load 31 (Operand.tmp 92), type := 31, pos := "ref.go:42", after := #[{ on := 8, ground := Ground.data }, { on := 7, ground := Ground.guard }], guard := some (7, true) }) (v := ?vk92) rfl (by kernel_rfl) (by kernel_rfl) (by kernel_rfl) (fun _ _ _ h => h) (Or.inl ⟨by rfl, ?hk92⟩) (KB3.old U89 HD.out) ?rk92
                                    case hk92 => (intro wz hSw; (try dsimp only at hSw); go_simp; try with_reducible rfl)
                                    (try simp only [Act.put]); (try simp only [List.setIfInBounds_toArray]); (try simp only [List.set_cons_succ]); (try simp only [List.set_cons_zero])
                                    refine wpAnyH_take (i := 10) (oi := { dst := some 94, op := Op.move (Operand.tmp 5), type := 28, pos := "ref.go:42", after := #[{ on := 7, ground := Ground.guard }], guard := some (7, true) }) (v := ?vk93) rfl (by kernel_rfl) (by kernel_rfl) (by kernel_rfl) (fun _ _ _ h => h) (Or.inl ⟨by rfl, ?hk93⟩) (KB3.old U89 HD.out) ?rk93
                                    case hk93 => (intro wz hSw; (try dsimp only at hSw); go_simp; try with_reducible rfl)
                                    (try simp only [Act.put]); (try simp only [List.setIfInBounds_toArray]); (try simp only [List.set_cons_succ]); (try simp only [List.set_cons_zero])
                                    refine wpAnyH_take (i := 11) (oi := { dst := some 95, op := Op.move (Operand.tmp 10), type := 3, pos := "ref.go:42", after := #[{ on := 7, ground := Ground.guard }], guard := some (7, true) }) (v := ?vk94) rfl (by kernel_rfl) (by kernel_rfl) (by kernel_rfl) (fun _ _ _ h => h) (Or.inl ⟨by rfl, ?hk94⟩) (KB3.old U89 HD.out) ?rk94
                                    case hk94 => (intro wz hSw; (try dsimp only at hSw); go_simp; try with_reducible rfl)
                                    (try simp only [Act.put]); (try simp only [List.setIfInBounds_toArray]); (try simp only [List.set_cons_succ]); (try simp only [List.set_cons_zero])
                                    refine wpAnyH_take (i := 12) (oi := { dst := some 96, op := Op.indexAddr 28 (Operand.tmp 94) (Operand.tmp 95), type := 0, pos := "ref.go:42", after := #[{ on := 10, ground := Ground.data }, { on := 11, ground := Ground.data }, { on := 7, ground := Ground.guard }], guard := some (7, true) }) (v := ?vk95) rfl (by kernel_rfl) (by kernel_rfl) (by kernel_rfl) (fun _ _ _ h => h) (Or.inl ⟨by rfl, ?hk95⟩) (KB3.old U89 HD.out) ?rk95
                                    case hk95 => (intro wz hSw; (try dsimp only at hSw); go_simp; try with_reducible rfl)
                                    (try simp only [Act.put]); (try simp only [List.setIfInBounds_toArray]); (try simp only [List.set_cons_succ]); (try simp only [List.set_cons_zero])
                                    refine wpAnyH_take (i := 13) (oi := { dst := some 97, op := Op.load 43 (Operand.tmp 96), type := 43, pos := "ref.go:42", after := #[{ on := 12, ground := Ground.data }, { on := 7, ground := Ground.guard }], guard := some (7, true) }) (v := ?vk96) rfl (by kernel_rfl) (by kernel_rfl) (by kernel_rfl) (fun _ _ _ h => h) (Or.inl ⟨by rfl, ?hk96⟩) (KB3.old U89 HD.out) ?rk96
                                    case hk96 => (intro wz hSw; (try dsimp only at hSw); go_simp; try with_reducible rfl)
                                    (try simp only [Act.put]); (try simp only [List.setIfInBounds_toArray]); (try simp only [List.set_cons_succ]); (try simp only [List.set_cons_zero])
                                    refine wpAnyH_ready (rs := [14]) (by kernel_rfl) (by simp) ?_
                                    refine AllReadyH.cons (o := { dst := some 98, op := Op.call { callee := Callee.value (Operand.func 22), args := #[Operand.tmp 93, Operand.tmp 97], argTypes := #[31, 43] }, type := 4, pos := "ref.go:42", after := #[{ on := 9, ground := Ground.data }, { on := 13, ground := Ground.data }, { on := 7, ground := Ground.chain }, { on := 7, ground := Ground.guard }], guard := some (7, true) }) rfl (fun K hK => ?_) AllReadyH.nil
                                    refine wantCall2 ?_ 22 (.tmp 93) (.tmp 97) #[31, 43] ?_ (.agg #[.int .i64 b.s.s1, .int .i64 b.s.s2, .int .i64 b.s.s3, .slice b.s.a1 b.s.n1 b.s.c1, .slice b.s.a2 b.s.n2 b.s.c2, .slice b.s.a3 b.s.n3 b.s.c3]) (.float .f64 X) ?_ ?_ ?_ (ent_rwr _ _) ?_
                                    · rfl
                                    · rfl
                                    · rfl
                                    · rfl
                                    · rfl
                                    refine (HWb1.out _ U89).mono ?_
                                    rintro o x97 ⟨rfl, b97⟩
                                    refine ⟨_, rfl, ?_⟩
                                    have U97 := U89.trans b97
                                    refine hK.out _ _ (KB3.old U97 HD.out) (fun _ => ?_)
                                    clear hK K
                                    (try simp only [Act.put]); (try simp only [List.setIfInBounds_toArray]); (try simp only [List.set_cons_succ]); (try simp only [List.set_cons_zero])
                                    refine wpAnyH_take (i := 15) (oi := { dst := some 99, op := Op.pick (Operand.tmp 91) (Operand.tmp 98) (Operand.const (Value.bool false)), type := 4, pos := "ref.go:42", after := #[{ on := 7, ground := Ground.data }, { on := 14, ground := Ground.data }], guard := none }) (v := ?vk98) rfl (by kernel_rfl) (by kernel_rfl) (by kernel_rfl) (fun _ _ _ h => h) (Or.inl ⟨by rfl, ?hk98⟩) (KB3.old U97 HD.out) ?rk98
                                    case hk98 => (intro wz hSw; (try dsimp only at hSw); go_simp; try with_reducible rfl)
                                    (try simp only [Act.put]); (try simp only [List.setIfInBounds_toArray]); (try simp only [List.set_cons_succ]); (try simp only [List.set_cons_zero])
                                    refine wpAnyH_done (by kernel_rfl) ?_ _
                                    refine NoPanic.normal ?_
                                    have V5 := hid U97
                                    go_wp2
                                    go_ret
                                    exact ⟨ret_b (by rw [HF.out]), UK.out.trans (UZ.out.trans (V.out.trans V5.out))⟩
                              · obtain rfl : KL = t := by omega
                                have HS := hid (HSk.out (by rw [HCk2.out]; exact HT0.out))
                                clear HCk HWa HWb HT0
                                go_wp2
                                go_roundw
                                case rel => exact ⟨k + 1, hkt, by go_num, HS.out, UZ.out.trans V.out⟩
                                case measure => simp [intOf]; omega
                          · have q1 : ¬ b.n ≤ a.s.s3 := by omega
                            have q2 : a.n ≤ b.s.s3 := by omega
                            have HS := hid (HSk.out (by rw [HCk2.out]; simp [h2]))
                            clear HCk HWa HWb
                            go_wp2
                            go_roundw
                            case rel => exact ⟨k + 1, hkt, by go_num, HS.out, UZ.out⟩
                            case measure => simp [intOf]; omega
                        · have q1 : b.n ≤ a.s.s3 := by omega
                          have HS := hid (HSk.out (by rw [HCk2.out]; simp [h1]))
                          clear HCk HWa HWb
                          go_wp2
                          go_roundw
                          case rel => exact ⟨k + 1, hkt, by go_num, HS.out, UZ.out⟩
                          case measure => simp [intOf]; omega
              · obtain rfl : i = k := by omega
                have HS := hid (HSi.out HK0.out)
                clear HC HCl HNo HWk HK0 HCk HSi
                go_wp2
                go_roundw
                case rel => exact ⟨i + 1, hit, by go_num, HS.out, U.out⟩
                case measure => simp [intOf]; omega
          · obtain rfl : n = i := by omega
            have HF := hid (show rt = true from by rw [HRt.out]; exact HYes.out HI.out)
            clear HC HCl HNo HWk HCk HYes HI HRt
            go_wp2
            go_ret
            exact ⟨ret_b (by rw [HF.out]), UK.out.trans U.out⟩
  · rw [decide_eq_false h64, Bool.false_and] at HRt
    have l3 : (64 : Int) < (n : Int) := by omega
    have HF := hid HRt.out
    clear h64 HRt HC HKy
    go_enter Tryz.func9, Tryz.ntmps9
    go_wp2
    go_ret
    exact ⟨ret_b (by rw [HF.out]), Old.refl _⟩
end Go.Proofs.YtbkbnfgjkefcmaaGreat
