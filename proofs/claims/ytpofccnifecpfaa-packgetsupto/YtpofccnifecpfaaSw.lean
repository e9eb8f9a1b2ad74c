/- The document's Same at two rows of values that are the same; conditions: at most 1048576 values. -/
import Derived.Test.YtpofccnifecpfaaSv
namespace Go.Proofs.Ytpofccnifecpfaa
open Go.RowKit
set_option linter.unusedVariables false
attribute [local go_sem] run_bits run_frombits run_store_float
/-- Two values are the same in what their kind names. -/
structure SameP (p q : PV) : Prop where
  kin : 1 ≤ p.k ∧ p.k ≤ 4
  k : p.k = q.k
  n : p.k = 1 → p.n = q.n
  x : p.k = 2 → Fl.canon p.x = Fl.canon q.x
  bn : p.k = 3 → p.bn = q.bn ∧ ∀ i, i < p.bn → p.bx i = q.bx i
  on : p.k = 4 → p.on = q.on
def SVs (w : World) (a : Option Addr) (n : Nat) (f : Nat → PV) : Prop := ∀ i, i < n → ∃ b off, a = some ⟨b, off, none⟩ ∧ PV.At w b (off + i * 5) (f i) ∧ PV.In w (f i)
set_option maxHeartbeats 4000000 in
theorem sameRows (a1 a2 : Option Addr) (n cp1 cp2 : Nat) (f g : Nat → PV) (hn : n ≤ 1048576) (w : World) (h1 : SVs w a1 n f) (h2 : SVs w a2 n g) (hs : ∀ i, i < n → SameP (f i) (g i)) :
    Calls Try.prog 12 #[.slice a1 n cp1, .slice a2 n cp2] w fun e w' => e = .returned (.bool true) ∧ Up w w' := by
  have H1 := hid h1
  have H2 := hid h2
  have HS := hid hs
  clear h1 h2 hs
  go_enter Try.func12, Try.ntmps12
  go_wp2
  go_loopw [5] (fun i wr => ∃ k : Nat, k ≤ n ∧ i = .int .i64 (k : Nat) ∧ Up w wr) (fun i _ => n - (intOf i).toNat)
  case atStart => exact ⟨0, Nat.zero_le _, rfl, Up.refl _⟩
  case round =>
    obtain ⟨k, hk, rfl, hu⟩ := hrel
    by_cases hlt : k < n
    · obtain ⟨b1, o1, rfl, t1, i1⟩ := H1.out k hlt
      obtain ⟨b2, o2, rfl, t2, i2⟩ := H2.out k hlt
      have hp := HS.out k hlt
      have t1' := t1.up hu
      have t2' := t2.up hu
      have I1 := hid (i1.up hu)
      have I2 := hid (i2.up hu)
      clear t1 t2 H1 H2 HS
      obtain ⟨pa, pc, hpb⟩ := PV.slice i1
      obtain ⟨qa, qc, hqb⟩ := PV.slice i2
      have A1 : Hid (VAt b1 (o1 + k * 5) (f k).k (f k).n (f k).x (.slice pa (f k).bn pc) (f k).on wr) := ⟨t1'.c0, t1'.c1, t1'.c2, by rw [← hpb]; exact t1'.c3, t1'.c4⟩
      have A2 : Hid (VAt b2 (o2 + k * 5) (g k).k (g k).n (g k).x (.slice qa (g k).bn qc) (g k).on wr) := ⟨t2'.c0, t2'.c1, t2'.c2, by rw [← hqb]; exact t2'.c3, t2'.c4⟩
      have R1 := hid I1.out.row
      have R2 := hid I2.out.row
      rw [hpb] at R1
      rw [hqb] at R2
      have X1 := hid I1.out.xin
      have X2 := hid I2.out.xin
      have HP := hid hp
      clear t1' t2' I1 I2 hpb hqb i1 i2 hp
      generalize f k = p at *
      generalize g k = q at *
      obtain ⟨pk, pn, px, pb, pbn, pbx, pon⟩ := p
      obtain ⟨qk, qn, qx, qb, qbn, qbx, qon⟩ := q
      simp only at *
      go_wp2
      refine same_pair b1 o1 cp1 b2 o2 cp2 n k pk pn px pa pbn pc pon qk qn qx qa qbn qc qon wr (by omega) (by omega) hlt A1.out A2.out ?_
      intro mx my W hx hy hU
      have x0 := hx.cell 0 _ rfl
      have x1 := hx.cell 1 _ rfl
      have x2 := hx.cell 2 _ rfl
      have x3 := hx.cell 3 _ rfl
      have x4 := hx.cell 4 _ rfl
      have y0 := hy.cell 0 _ rfl
      have y1 := hy.cell 1 _ rfl
      have y2 := hy.cell 2 _ rfl
      have y3 := hy.cell 3 _ rfl
      have y4 := hy.cell 4 _ rfl
      obtain ⟨ekin, ek, en, ex, ebn, eon⟩ := HP.out
      simp only at ekin ek en ex ebn eon
      subst ek
      have R1' := hid (R1.out.up hU)
      have R2' := hid (R2.out.up hU)
      clear hx hy A1 A2 HP R1 R2
      obtain rfl | rfl | rfl | rfl : pk = 1 ∨ pk = 2 ∨ pk = 3 ∨ pk = 4 := by omega
      · have e1 := en rfl
        subst e1
        clear en ex ebn eon
        go_wp2
        go_roundw
        case rel => exact ⟨k + 1, hlt, by go_num, Up.trans hu hU⟩
        case measure => simp [intOf]; omega
      · have e1 := ex rfl
        have HQ := hid (same_any px qx X1.out X2.out W)
        rw [e1] at HQ
        rw [show ((Fl.canon qx : Int) == (Fl.canon qx : Int)) = true by simp] at HQ
        clear en ex ebn eon e1
        go_wp2_with (go_at_call 31; refine HQ.out.mono ?_; rintro e w5 ⟨rfl, hw⟩; have hw2 := hw.symm; subst hw2)
        go_roundw
        case rel => exact ⟨k + 1, hlt, by go_num, Up.trans hu hU⟩
        case measure => simp [intOf]; omega
      · obtain ⟨e1, e2⟩ := ebn rfl
        subst e1
        have HQ := hid (sameBytes_eq _ _ pbn pbx qbx W R1'.out R2'.out e2)
        clear en ex ebn eon e2 R1' R2'
        go_wp2_with (go_at_call 11; refine HQ.out.mono ?_; rintro e w5 ⟨rfl, dn, rfl⟩)
        go_roundw
        case rel => exact ⟨k + 1, hlt, by go_num, (Up.trans hu hU).drewN _⟩
        case measure => simp [intOf]; omega
      · have e1 := eon rfl
        subst e1
        clear en ex ebn eon
        cases pon
        · go_wp2
          go_roundw
          case rel => exact ⟨k + 1, hlt, by go_num, Up.trans hu hU⟩
          case measure => simp [intOf]; omega
        · go_wp2
          go_roundw
          case rel => exact ⟨k + 1, hlt, by go_num, Up.trans hu hU⟩
          case measure => simp [intOf]; omega
    · obtain rfl : k = n := by omega
      clear H1 H2 HS
      go_wp2
      go_ret
      exact ⟨rfl, hu⟩
end Go.Proofs.Ytpofccnifecpfaa
