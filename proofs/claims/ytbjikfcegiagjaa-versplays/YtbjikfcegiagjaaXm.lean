/- The law VersOver at every row of calls and every span; no condition. -/
import Derived.Test.YtbjikfcegiagjaaXk
import Derived.Test.YtbjikfcegiagjaaSd
namespace Go.Proofs.Ytbjikfcegiagjaa
open Go.RowKit Go.Lib
set_option linter.unusedVariables false
set_option linter.unusedSimpArgs false
set_option maxRecDepth 20000
theorem ent_rcmp (args : Array Value) (w : World) : (callFunc 25 args).run Try.prog w = .ok (.enter 25 args) w := by kernel_rfl
theorem ent_at (args : Array Value) (w : World) : (callFunc 14 args).run Try.prog w = .ok (.enter 14 args) w := by kernel_rfl
theorem ent_one (args : Array Value) (w : World) : (callFunc 26 args).run Try.prog w = .ok (.enter 26 args) w := by kernel_rfl
theorem ent_over (args : Array Value) (w : World) : (callFunc 20 args).run Try.prog w = .ok (.enter 20 args) w := by kernel_rfl
/-- An item in a variable of its own, and, maybe, a key of a row. -/
abbrev BxJ (m : Nat) (x : It) (g : Nat) (o : Option (Nat × Nat)) (w : World) : Prop := w.cell? ⟨m, 0, none⟩ = some (.float .f64 x.k) ∧ w.cell? ⟨m, 1, none⟩ = some (.int .i64 x.n) ∧ (match o with | none => True | some (q, k) => w.cell? ⟨g, q, none⟩ = some (.float .f64 k))
theorem BxJ.old {m : Nat} {x : It} {g : Nat} {o : Option (Nat × Nat)} {w w' : World} (u : Old w w') (h : BxJ m x g o w) : BxJ m x g o w' := ⟨u.keep h.1, u.keep h.2.1, by match o, h with | none, _ => trivial | some (q, k), h => exact u.keep h.2.2⟩
/-- The span of one key has just that one. -/
theorem has_one (k z : Nat) (hk : Fl.W k) (hn : Fl.nan k = false) : hasB (Fl.csU k k false false) (Fl.csV k k false false) (Fl.csE k k false false) (Fl.csE k k false false) z = decide (Fl.code z = Fl.code k) := by
  have hf := Fl.cs_isForm k k false false hk hk
  obtain ⟨e1, e2, e3⟩ := Fl.cs_of_form _ _ _ hf
  unfold hasB
  rw [e1, e2, e3]
  have hE : Fl.csE k k false false = false := by unfold Fl.csE Fl.hiB Fl.loB; simp [hn]
  have hU : Fl.csU k k false false = Fl.canon k := by unfold Fl.csU Fl.loB; rw [hE]; simp
  have hV : Fl.csV k k false false = Fl.canon k := by unfold Fl.csV Fl.hiB; rw [hE]; simp
  unfold Fl.hasF
  rw [hE, hU, hV, Fl.code_canon]
  by_cases h : Fl.code z = Fl.code k
  · simp [h]
  · simp [h]; omega
theorem over_one (h : Nat → Bool) (L : List It) (hG : Good L) (j : Nat) (hj : j < L.length) (hh : ∀ i, i < L.length → h (atI L i).k = decide (kc (atI L i) = kc (atI L j))) : overT h L L.length = (atI L j).n := by
  have hinj : ∀ i, i < L.length → kc (atI L i) = kc (atI L j) → i = j := by
    intro i hi e
    have hp := List.pairwise_iff_getElem.1 hG.1
    rw [atI_get L i hi, atI_get L j hj] at e
    rcases Nat.lt_trichotomy i j with q | q | q
    · have := hp i j hi hj q; omega
    · exact q
    · have := hp j i hj hi q; omega
  have hn := (hG.at j hj).2.2.2.1
  have H : ∀ k, k ≤ L.length → overT h L k = if j < k then (atI L j).n else 0 := by
    intro k
    induction k with
    | zero => intro _; rfl
    | succ k ih =>
      intro hk
      show (if h (atI L k).k = true then max (overT h L k) (atI L k).n else overT h L k) = _
      rw [hh k (by omega), ih (by omega)]
      by_cases e : k = j
      · subst e
        rw [if_pos (by simp), if_neg (by omega), if_pos (by omega)]
        omega
      · rw [if_neg (by simp; exact fun q => e (hinj k (by omega) q))]
        by_cases q : j < k
        · rw [if_pos q, if_pos (by omega)]
        · rw [if_neg q, if_neg (by omega)]
  rw [H _ (Nat.le_refl _), if_pos hj]
attribute [local go_sem] run_bits run_frombits run_store_float
set_option maxHeartbeats 8000000 in
set_option maxRecDepth 20000 in
theorem oversLaw (vs : Value) (N : Nat) (f : Nat → Opv) (x y : Nat) (p q : Bool) (hx : Fl.W x) (hy : Fl.W y) (w0 : World) (h : ORow w0 vs N f) :
    Calls Try.prog 4 #[vs, .agg #[.float .f64 x, .float .f64 y, .bool p, .bool q]] w0 fun e w' => e = .returned (.bool true) ∧ Old w0 w' := by
  have hV := hid ((Old.refl w0).alloc (.cells #[.float .f64 x, .float .f64 y, .bool p, .bool q] 25))
  have HS := hid (show SpAt w0.heap.size x y p q (w0.alloc (.cells #[.float .f64 x, .float .f64 y, .bool p, .bool q] 25)) by simp [SpAt])
  have HO := hid (h.old hV.out)
  obtain ⟨hbN, sa, sc, hvs, hsc, _⟩ := h
  subst hvs
  go_enter Try.func4, Try.ntmps4
  go_upto_region 1 with fail
  generalize w0.alloc (.cells #[.float .f64 x, .float .f64 y, .bool p, .bool q] 25) = w at *
  go_upto_region 4 with (first | (go_at_call 9; refine (new_any 64 _).mono ?_; rintro e w1 ⟨rfl, t1, u1⟩; have T1 := hid t1; have U1 := hid u1; clear t1 u1) | (go_at_call 10; refine (alive_any _).mono ?_; rintro e w2 ⟨rfl, u2⟩; have T2 := hid (T1.out.old u2); have U2 := hid (U1.out.trans u2); clear u2))
  have hI : TabIn w.heap.size w.heap.size 64 w w2 := ⟨_, _, T2.out, good0, by decide, U2.out⟩
  have HI := hid hI
  clear hI T1 T2 U1 U2
  generalize htb : w.heap.size = tb at *
  go_wp2
  go_loopw [21] (fun i wr => ∃ k : Nat, k ≤ N ∧ i = .int .i64 (k : Nat) ∧ TabIn tb tb 64 w wr) (fun i _ => N - (intOf i).toNat)
  case atStart => exact ⟨0, Nat.zero_le _, rfl, HI.out⟩
  case round =>
    obtain ⟨k, hk, rfl, v, L, ht, hG, hl, hu⟩ := hrel
    have HT := hid ht
    have HG := hid hG
    have HL := hid hl
    have HU := hid hu
    clear ht hG hl hu HI
    by_cases hlt : k < N
    · obtain ⟨_, a', c', e', _, hc⟩ := HO.out.old HU.out
      obtain ⟨b', off, hsa, hW, o0, o1, o2⟩ := hc k hlt
      simp only [Value.slice.injEq] at e'
      obtain ⟨rfl, _, rfl⟩ := e'
      subst hsa
      have l1 : (0 : Int) ≤ (k : Int) := by omega
      have l2 : (k : Int) < (N : Int) := by omega
      clear hc
      have HW := hid hW
      generalize hfk : f k = z at *
      go_upto_region 7 with fail
      have B4 := hid (op_new wr z _ rfl)
      have U4 := hid ((Old.refl wr).alloc (.cells #[.int .i64 z.kd, .float .f64 z.k, .int .i64 z.n] 34))
      have T4 := hid (HT.out.old U4.out)
      clear o0 o1 o2
      generalize wr.alloc (.cells #[.int .i64 z.kd, .float .f64 z.k, .int .i64 z.n] 34) = w4 at *
      obtain ⟨o0, o1, o2⟩ := B4.out
      have HP := hid (put_any tb tb 64 z.n v L z.k HW.out w4 T4.out HG.out (by have := HL.out; omega))
      go_wp2_with (go_at_call 12; refine HP.out.mono ?_; rintro e w5 ⟨v5, rfl, t5, c5, n5⟩; have T5 := hid t5; have U5 := hid ((HU.out.trans U4.out).below (htb ▸ T4.out.below c5)); clear t5 c5 n5)
      go_roundw
      case rel => exact ⟨k + 1, hlt, by go_num, v5, _, T5.out, put_good HW.out HG.out, put_most HG.out HL.out, U5.out⟩
      case measure => simp [intOf]; omega
    · obtain rfl : k = N := by omega
      have hLb : L.length ≤ 64 := by have := HL.out; omega
      go_upto_region 11 with (first | (go_at_call 22; refine (all_any _ _ _ _ _ _ (by omega) HT.out).mono ?_; rintro e w7 ⟨v6, rfl, o6, u6⟩; obtain ⟨a6, c6, hv6⟩ := o6.len; subst hv6; have O6 := hid o6; have T7 := hid (HT.out.old u6); have U7 := hid (HU.out.trans u6); clear o6 u6))
      have HSh := hid (fun (e : 0 < L.length) => O6.out.shape e)
      have HGA := hid (fun j (hj : j < L.length) => HG.out.at j hj)
      have HAs := hid (fun i (h1 : 0 < i) (h2 : i < L.length) => show Fl.cmpc (atI L (i - 1)).k (atI L i).k = -1 from by
        refine Fl.cmpc_lt _ _ ?_
        have hp := List.pairwise_iff_getElem.1 HG.out.1 (i - 1) i (by omega) h2 (by omega)
        rw [atI_get L _ (by omega), atI_get L i h2]
        exact hp)
      have HMem := hid (fun j (hj : j < L.length) => atL_mem L HG.out.1 (atI L j) (mem_atI L j hj))
      have HOne := hid (fun j (hj : j < L.length) => over_one (hasB (Fl.csU (atI L j).k (atI L j).k false false) (Fl.csV (atI L j).k (atI L j).k false false) (Fl.csE (atI L j).k (atI L j).k false false) (Fl.csE (atI L j).k (atI L j).k false false)) L HG.out j hj (fun i hi => has_one (atI L j).k (atI L i).k (HG.out.at j hj).1 (HG.out.at j hj).2.1))
      have HSw := hid (SpAt.old U7.out HS.out)
      have HGG := hid HG.out
      clear HT HL HG HU HO HS O6
      generalize hM : L.length = M at *
      go_wp2
      go_loopw [8, 36] (fun r i wr => ∃ j : Nat, j ≤ M ∧ i = .int .i64 (j : Nat) ∧ r = .int .i64 (overT (hasB x y p q) L j) ∧ Old w7 wr) (fun r i _ => M - (intOf i).toNat)
      case atStart => exact ⟨0, Nat.zero_le _, rfl, rfl, Old.refl _⟩
      case round =>
        obtain ⟨j, hj, rfl, rfl, hu⟩ := hrel
        have HV := hid hu
        clear hu
        by_cases hjt : j < M
        · obtain ⟨g, cap, he, hgb, hgl, hi, hfz⟩ := HSh.out (by omega)
          simp only [Value.slice.injEq] at he
          obtain ⟨rfl, _, rfl⟩ := he
          obtain ⟨c0, c1⟩ := (hi j hjt).old HV.out
          have l1 : (0 : Int) ≤ (j : Int) := by omega
          have l2 : (j : Int) < (M : Int) := by omega
          have HIt := hid (fun i (h : i < M) => (hi i h).old HV.out)
          clear hi hfz
          have HGj := hid (HGA.out j hjt)
          go_upto_region 14 with fail
          have B4 := hid (item_new wr (atI L j) _ rfl)
          have U4 := hid ((Old.refl wr).alloc (.cells (itc (atI L j)).toArray 52))
          have hwe : wr.alloc (.cells #[.float .f64 (atI L j).k, .int .i64 (atI L j).n] 52) = wr.alloc (.cells (itc (atI L j)).toArray 52) := rfl
          rw [hwe]
          clear hwe c0 c1
          have HV8 := hid (HV.out.trans U4.out)
          have S8 := hid (SpAt.old HV8.out HSw.out)
          have HIt8 := hid (fun i (h : i < M) => (HIt.out i h).old U4.out)
          clear HIt
          generalize wr.alloc (.cells (itc (atI L j)).toArray 52) = w8 at *
          have HAt := hid (fun (W : World) (u : Old w8 W) => at_any tb tb 64 v L (atI L j).k HGj.out.1 W (T7.out.old (HV8.out.trans u)) HGG.out (by omega))
          rw [show atL (Fl.code (atI L j).k) L = (atI L j).n from HMem.out j hjt] at HAt
          have HOn := hid (fun (W : World) (u : Old w8 W) => (one_any (atI L j).k HGj.out.1 W).mono fun e w' hh => (⟨hh.1, hh.2.old⟩ : _ ∧ Old W w'))
          have HOv := hid (fun (W : World) (u : Old w8 W) => over_any tb tb 64 v L (Fl.csU (atI L j).k (atI L j).k false false) (Fl.csV (atI L j).k (atI L j).k false false) (Fl.csU_W (atI L j).k (atI L j).k false false HGj.out.1) (Fl.csV_W (atI L j).k (atI L j).k false false HGj.out.1) (Fl.csE (atI L j).k (atI L j).k false false) (Fl.csE (atI L j).k (atI L j).k false false) W (T7.out.old (HV8.out.trans u)) HGG.out (by omega))
          rw [hM, HOne.out j hjt] at HOv
          have HHs := hid (fun (W : World) => has_old x y (atI L j).k hx hy HGj.out.1 p q W)
          have HST := hid (show overT (hasB x y p q) L (j + 1) = if hasB x y p q (atI L j).k = true then max (overT (hasB x y p q) L j) (atI L j).n else overT (hasB x y p q) L j from rfl)
          generalize overT (hasB x y p q) L j = r at *
          have HBI := hid (show BxI wr.heap.size (atI L j) w8 from ⟨B4.out.1, B4.out.2⟩)
          generalize Fl.csU (atI L j).k (atI L j).k false false = ou at *
          generalize Fl.csV (atI L j).k (atI L j).k false false = ov at *
          generalize Fl.csE (atI L j).k (atI L j).k false false = oe at *
          by_cases hj0 : j = 0
          · have hz : ¬ (0 < j) := by omega
            have hz2 : ¬ ((0 : Int) < (j : Int)) := by omega
            have HB := hid (show BxJ wr.heap.size (atI L j) g none w8 from ⟨B4.out.1, B4.out.2, trivial⟩)
            clear B4 HIt8 HAs hj0
            refine wp_region_noPanic ?_
            refine wp_region_held_drew (S := BxJ wr.heap.size (atI L j) g none) (by kernel_rfl) ?_ (fun hHeld => ?_)
            · exact BxJ.old ((Old.refl _).drew) HB.out
            (try simp only [Act.put]); (try simp only [List.setIfInBounds_toArray]); (try simp only [List.set_cons_succ]); (try simp only [List.set_cons_zero])
            clear hHeld
            refine wpAnyH_take (i := 0) (oi := { dst := some 41, op := Op.move (Operand.tmp 10), type := 3, pos := "law.go:85", after := #[], guard := none }) (v := ?vk1) rfl (by kernel_rfl) (by kernel_rfl) (by kernel_rfl) (fun _ _ _ h => h) (Or.inl ⟨by rfl, ?hk1⟩) (BxJ.old ((Old.refl w8).drew) HB.out) ?rk1
            case hk1 => (intro wz hSw; (try dsimp only at hSw); go_simp; try with_reducible rfl)
            (try simp only [Act.put]); (try simp only [List.setIfInBounds_toArray]); (try simp only [List.set_cons_succ]); (try simp only [List.set_cons_zero])
            refine wpAnyH_take (i := 1) (oi := { dst := some 42, op := Op.binOp BinOp.gtr 3 (Operand.tmp 41) (Operand.const (Value.int IntKind.i64 0)) 3, type := 4, pos := "law.go:85", after := #[{ on := 0, ground := Ground.data }], guard := none }) (v := ?vk2) rfl (by kernel_rfl) (by kernel_rfl) (by kernel_rfl) (fun _ _ _ h => h) (Or.inl ⟨by rfl, ?hk2⟩) (BxJ.old ((Old.refl w8).drew) HB.out) ?rk2
            case hk2 => (intro wz hSw; (try dsimp only at hSw); go_simp; try with_reducible rfl)
            (try simp only [Act.put]); (try simp only [List.setIfInBounds_toArray]); (try simp only [List.set_cons_succ]); (try simp only [List.set_cons_zero])
            refine wpAnyH_take (i := 2) (oi := { dst := some 43, op := Op.move (Operand.tmp 42), type := 4, pos := "law.go:85", after := #[{ on := 1, ground := Ground.data }], guard := none }) (v := ?vk3) rfl (by kernel_rfl) (by kernel_rfl) (by kernel_rfl) (fun _ _ _ h => h) (Or.inl ⟨by rfl, ?hk3⟩) (BxJ.old ((Old.refl w8).drew) HB.out) ?rk3
            case hk3 => (intro wz hSw; (try dsimp only at hSw); go_simp; try with_reducible rfl)
            (try simp only [Act.put]); (try simp only [List.setIfInBounds_toArray]); (try simp only [List.set_cons_succ]); (try simp only [List.set_cons_zero])
            refine wpAnyH_take (i := 3) (oi := { dst := some 44, op := Op.move (Operand.tmp 9), type := 46, pos := "law.go:85", after := #[{ on := 2, ground := Ground.guard }], guard := some (2, true) }) (v := undef) rfl (by kernel_rfl) (by kernel_rfl) (by kernel_rfl) (fun _ _ _ h => h) (Or.inr ⟨by rfl, rfl⟩) (BxJ.old ((Old.refl w8).drew) HB.out) ?_
            (try simp only [Act.put]); (try simp only [List.setIfInBounds_toArray]); (try simp only [List.set_cons_succ]); (try simp only [List.set_cons_zero])
            refine wpAnyH_take (i := 4) (oi := { dst := some 45, op := Op.move (Operand.tmp 10), type := 3, pos := "law.go:85", after := #[{ on := 2, ground := Ground.guard }], guard := some (2, true) }) (v := undef) rfl (by kernel_rfl) (by kernel_rfl) (by kernel_rfl) (fun _ _ _ h => h) (Or.inr ⟨by rfl, rfl⟩) (BxJ.old ((Old.refl w8).drew) HB.out) ?_
            (try simp only [Act.put]); (try simp only [List.setIfInBounds_toArray]); (try simp only [List.set_cons_succ]); (try simp only [List.set_cons_zero])
            refine wpAnyH_take (i := 5) (oi := { dst := some 46, op := Op.binOp BinOp.sub 3 (Operand.tmp 45) (Operand.const (Value.int IntKind.i64 1)) 3, type := 3, pos := "law.go:85", after := #[{ on := 4, ground := Ground.data }, { on := 2, ground := Ground.guard }], guard := some (2, true) }) (v := undef) rfl (by kernel_rfl) (by kernel_rfl) (by kernel_rfl) (fun _ _ _ h => h) (Or.inr ⟨by rfl, rfl⟩) (BxJ.old ((Old.refl w8).drew) HB.out) ?_
            (try simp only [Act.put]); (try simp only [List.setIfInBounds_toArray]); (try simp only [List.set_cons_succ]); (try simp only [List.set_cons_zero])
            refine wpAnyH_take (i := 6) (oi := { dst := some 47, op := Op.indexAddr 46 (Operand.tmp 44) (Operand.tmp 46), type := 0, pos := "law.go:85", after := #[{ on := 3, ground := Ground.data }, { on := 5, ground := Ground.data }, { on := 2, ground := Ground.guard }], guard := some (2, true) }) (v := undef) rfl (by kernel_rfl) (by kernel_rfl) (by kernel_rfl) (fun _ _ _ h => h) (Or.inr ⟨by rfl, rfl⟩) (BxJ.old ((Old.refl w8).drew) HB.out) ?_
            (try simp only [Act.put]); (try simp only [List.setIfInBounds_toArray]); (try simp only [List.set_cons_succ]); (try simp only [List.set_cons_zero])
            refine wpAnyH_take (i := 7) (oi := { dst := some 48, op := Op.fieldAddr 52 (Operand.tmp 47) 0, type := 0, pos := "law.go:85", after := #[{ on := 6, ground := Ground.data }, { on := 2, ground := Ground.guard }], guard := some (2, true) }) (v := undef) rfl (by kernel_rfl) (by kernel_rfl) (by kernel_rfl) (fun _ _ _ h => h) (Or.inr ⟨by rfl, rfl⟩) (BxJ.old ((Old.refl w8).drew) HB.out) ?_
            (try simp only [Act.put]); (try simp only [List.setIfInBounds_toArray]); (try simp only [List.set_cons_succ]); (try simp only [List.set_cons_zero])
            refine wpAnyH_take (i := 8) (oi := { dst := some 49, op := Op.load 23 (Operand.tmp 48), type := 23, pos := "law.go:85", after := #[{ on := 7, ground := Ground.data }, { on := 2, ground := Ground.guard }], guard := some (2, true) }) (v := undef) rfl (by kernel_rfl) (by kernel_rfl) (by kernel_rfl) (fun _ _ _ h => h) (Or.inr ⟨by rfl, rfl⟩) (BxJ.old ((Old.refl w8).drew) HB.out) ?_
            (try simp only [Act.put]); (try simp only [List.setIfInBounds_toArray]); (try simp only [List.set_cons_succ]); (try simp only [List.set_cons_zero])
            refine wpAnyH_take (i := 9) (oi := { dst := some 50, op := Op.fieldAddr 52 (Operand.tmp 11) 0, type := 0, pos := "law.go:85", after := #[{ on := 2, ground := Ground.guard }], guard := some (2, true) }) (v := undef) rfl (by kernel_rfl) (by kernel_rfl) (by kernel_rfl) (fun _ _ _ h => h) (Or.inr ⟨by rfl, rfl⟩) (BxJ.old ((Old.refl w8).drew) HB.out) ?_
            (try simp only [Act.put]); (try simp only [List.setIfInBounds_toArray]); (try simp only [List.set_cons_succ]); (try simp only [List.set_cons_zero])
            refine wpAnyH_take (i := 10) (oi := { dst := some 51, op := Op.load 23 (Operand.tmp 50), type := 23, pos := "law.go:85", after := #[{ on := 9, ground := Ground.data }, { on := 2, ground := Ground.guard }], guard := some (2, true) }) (v := undef) rfl (by kernel_rfl) (by kernel_rfl) (by kernel_rfl) (fun _ _ _ h => h) (Or.inr ⟨by rfl, rfl⟩) (BxJ.old ((Old.refl w8).drew) HB.out) ?_
            (try simp only [Act.put]); (try simp only [List.setIfInBounds_toArray]); (try simp only [List.set_cons_succ]); (try simp only [List.set_cons_zero])
            refine wpAnyH_take (i := 11) (oi := { dst := some 52, op := Op.call { callee := Callee.value (Operand.func 25), args := #[Operand.tmp 49, Operand.tmp 51], argTypes := #[23, 23] }, type := 3, pos := "law.go:85", after := #[{ on := 8, ground := Ground.data }, { on := 10, ground := Ground.data }, { on := 2, ground := Ground.chain }, { on := 2, ground := Ground.guard }], guard := some (2, true) }) (v := undef) rfl (by kernel_rfl) (by kernel_rfl) (by kernel_rfl) (fun _ _ _ h => h) (Or.inr ⟨by rfl, rfl⟩) (BxJ.old ((Old.refl w8).drew) HB.out) ?_
            (try simp only [Act.put]); (try simp only [List.setIfInBounds_toArray]); (try simp only [List.set_cons_succ]); (try simp only [List.set_cons_zero])
            refine wpAnyH_take (i := 12) (oi := { dst := some 53, op := Op.binOp BinOp.geq 3 (Operand.tmp 52) (Operand.const (Value.int IntKind.i64 0)) 3, type := 4, pos := "law.go:85", after := #[{ on := 11, ground := Ground.data }, { on := 2, ground := Ground.guard }], guard := some (2, true) }) (v := undef) rfl (by kernel_rfl) (by kernel_rfl) (by kernel_rfl) (fun _ _ _ h => h) (Or.inr ⟨by rfl, rfl⟩) (BxJ.old ((Old.refl w8).drew) HB.out) ?_
            (try simp only [Act.put]); (try simp only [List.setIfInBounds_toArray]); (try simp only [List.set_cons_succ]); (try simp only [List.set_cons_zero])
            refine wpAnyH_take (i := 13) (oi := { dst := some 54, op := Op.pick (Operand.tmp 43) (Operand.tmp 53) (Operand.const (Value.bool false)), type := 4, pos := "law.go:85", after := #[{ on := 2, ground := Ground.data }, { on := 12, ground := Ground.data }], guard := none }) (v := ?vk4) rfl (by kernel_rfl) (by kernel_rfl) (by kernel_rfl) (fun _ _ _ h => h) (Or.inl ⟨by rfl, ?hk4⟩) (BxJ.old ((Old.refl w8).drew) HB.out) ?rk4
            case hk4 => (intro wz hSw; (try dsimp only at hSw); go_simp; try with_reducible rfl)
            (try simp only [Act.put]); (try simp only [List.setIfInBounds_toArray]); (try simp only [List.set_cons_succ]); (try simp only [List.set_cons_zero])
            refine wpAnyH_take (i := 14) (oi := { dst := some 55, op := Op.move (Operand.tmp 54), type := 4, pos := "law.go:85", after := #[{ on := 13, ground := Ground.data }, { on := 11, ground := Ground.chain }], guard := none }) (v := ?vk5) rfl (by kernel_rfl) (by kernel_rfl) (by kernel_rfl) (fun _ _ _ h => h) (Or.inl ⟨by rfl, ?hk5⟩) (BxJ.old ((Old.refl w8).drew) HB.out) ?rk5
            case hk5 => (intro wz hSw; (try dsimp only at hSw); go_simp; try with_reducible rfl)
            (try simp only [Act.put]); (try simp only [List.setIfInBounds_toArray]); (try simp only [List.set_cons_succ]); (try simp only [List.set_cons_zero])
            refine wpAnyH_take (i := 15) (oi := { dst := some 56, op := Op.move (Operand.tmp 5), type := 26, pos := "law.go:85", after := #[{ on := 14, ground := Ground.guard }], guard := some (14, false) }) (v := ?vk6) rfl (by kernel_rfl) (by kernel_rfl) (by kernel_rfl) (fun _ _ _ h => h) (Or.inl ⟨by rfl, ?hk6⟩) (BxJ.old ((Old.refl w8).drew) HB.out) ?rk6
            case hk6 => (intro wz hSw; (try dsimp only at hSw); go_simp; try with_reducible rfl)
            (try simp only [Act.put]); (try simp only [List.setIfInBounds_toArray]); (try simp only [List.set_cons_succ]); (try simp only [List.set_cons_zero])
            refine wpAnyH_take (i := 16) (oi := { dst := some 57, op := Op.fieldAddr 52 (Operand.tmp 11) 0, type := 0, pos := "law.go:85", after := #[{ on := 14, ground := Ground.guard }], guard := some (14, false) }) (v := ?vk7) rfl (by kernel_rfl) (by kernel_rfl) (by kernel_rfl) (fun _ _ _ h => h) (Or.inl ⟨by rfl, ?hk7⟩) (BxJ.old ((Old.refl w8).drew) HB.out) ?rk7
            case hk7 => (intro wz hSw; (try dsimp only at hSw); go_simp; try with_reducible rfl)
            (try simp only [Act.put]); (try simp only [List.setIfInBounds_toArray]); (try simp only [List.set_cons_succ]); (try simp only [List.set_cons_zero])
            refine wpAnyH_take (i := 17) (oi := { dst := some 58, op := Op.load 23 (Operand.tmp 57), type := 23, pos := "law.go:85", after := #[{ on := 16, ground := Ground.data }, { on := 14, ground := Ground.guard }], guard := some (14, false) }) (v := ?vk8) rfl (by kernel_rfl) (by kernel_rfl) (by kernel_rfl) (fun _ _ _ h => h) (Or.inl ⟨by rfl, ?hk8⟩) (BxJ.old ((Old.refl w8).drew) HB.out) ?rk8
            case hk8 => (intro wz hSw; (try dsimp only at hSw); go_simp; try with_reducible rfl)
            (try simp only [Act.put]); (try simp only [List.setIfInBounds_toArray]); (try simp only [List.set_cons_succ]); (try simp only [List.set_cons_zero])
            refine wpAnyH_take (i := 19) (oi := { dst := some 60, op := Op.fieldAddr 52 (Operand.tmp 11) 1, type := 0, pos := "law.go:85", after := #[{ on := 14, ground := Ground.guard }], guard := some (14, false) }) (v := ?vk9) rfl (by kernel_rfl) (by kernel_rfl) (by kernel_rfl) (fun _ _ _ h => h) (Or.inl ⟨by rfl, ?hk9⟩) (BxJ.old ((Old.refl w8).drew) HB.out) ?rk9
            case hk9 => (intro wz hSw; (try dsimp only at hSw); go_simp; try with_reducible rfl)
            (try simp only [Act.put]); (try simp only [List.setIfInBounds_toArray]); (try simp only [List.set_cons_succ]); (try simp only [List.set_cons_zero])
            refine wpAnyH_take (i := 20) (oi := { dst := some 61, op := Op.load 2 (Operand.tmp 60), type := 2, pos := "law.go:85", after := #[{ on := 19, ground := Ground.data }, { on := 14, ground := Ground.guard }], guard := some (14, false) }) (v := ?vk10) rfl (by kernel_rfl) (by kernel_rfl) (by kernel_rfl) (fun _ _ _ h => h) (Or.inl ⟨by rfl, ?hk10⟩) (BxJ.old ((Old.refl w8).drew) HB.out) ?rk10
            case hk10 => (intro wz hSw; (try dsimp only at hSw); go_simp; try with_reducible rfl)
            (try simp only [Act.put]); (try simp only [List.setIfInBounds_toArray]); (try simp only [List.set_cons_succ]); (try simp only [List.set_cons_zero])
            refine wpAnyH_ready (rs := [18]) (by kernel_rfl) (by simp) ?_
            refine AllReadyH.cons (o := { dst := some 59, op := Op.call { callee := Callee.value (Operand.func 14), args := #[Operand.tmp 56, Operand.tmp 58], argTypes := #[26, 23] }, type := 2, pos := "law.go:85", after := #[{ on := 15, ground := Ground.data }, { on := 17, ground := Ground.data }, { on := 14, ground := Ground.chain }, { on := 14, ground := Ground.guard }], guard := some (14, false) }) rfl (fun K hK => ?_) AllReadyH.nil
            refine wantCall2 ?_ 14 (.tmp 56) (.tmp 58) #[26, 23] ?_ (.pointer (some ⟨tb, 0, none⟩)) (.float .f64 (atI L j).k) ?_ ?_ ?_ (ent_at _ _) ?_
            · rfl
            · rfl
            · rfl
            · rfl
            · rfl
            refine (HAt.out _ ((Old.refl w8).drew)).mono ?_
            rintro o x11 ⟨rfl, b11⟩
            refine ⟨_, rfl, ?_⟩
            have U11 := ((Old.refl w8).drew).trans b11
            refine hK.out _ _ (BxJ.old U11 HB.out) (fun _ => ?_)
            clear hK K
            (try simp only [Act.put]); (try simp only [List.setIfInBounds_toArray]); (try simp only [List.set_cons_succ]); (try simp only [List.set_cons_zero])
            refine wpAnyH_take (i := 21) (oi := { dst := some 62, op := Op.binOp BinOp.neq 2 (Operand.tmp 59) (Operand.tmp 61) 2, type := 4, pos := "law.go:85", after := #[{ on := 18, ground := Ground.data }, { on := 20, ground := Ground.data }, { on := 14, ground := Ground.guard }], guard := some (14, false) }) (v := ?vk12) rfl (by kernel_rfl) (by kernel_rfl) (by kernel_rfl) (fun _ _ _ h => h) (Or.inl ⟨by rfl, ?hk12⟩) (BxJ.old U11 HB.out) ?rk12
            case hk12 => (intro wz hSw; (try dsimp only at hSw); go_simp; try with_reducible rfl)
            (try simp only [Act.put]); (try simp only [List.setIfInBounds_toArray]); (try simp only [List.set_cons_succ]); (try simp only [List.set_cons_zero])
            refine wpAnyH_take (i := 22) (oi := { dst := some 63, op := Op.pick (Operand.tmp 55) (Operand.const (Value.bool true)) (Operand.tmp 62), type := 4, pos := "law.go:85", after := #[{ on := 14, ground := Ground.data }, { on := 21, ground := Ground.data }], guard := none }) (v := ?vk13) rfl (by kernel_rfl) (by kernel_rfl) (by kernel_rfl) (fun _ _ _ h => h) (Or.inl ⟨by rfl, ?hk13⟩) (BxJ.old U11 HB.out) ?rk13
            case hk13 => (intro wz hSw; (try dsimp only at hSw); go_simp; try with_reducible rfl)
            (try simp only [Act.put]); (try simp only [List.setIfInBounds_toArray]); (try simp only [List.set_cons_succ]); (try simp only [List.set_cons_zero])
            refine wpAnyH_take (i := 23) (oi := { dst := some 64, op := Op.move (Operand.tmp 63), type := 4, pos := "law.go:85", after := #[{ on := 22, ground := Ground.data }, { on := 18, ground := Ground.chain }], guard := none }) (v := ?vk14) rfl (by kernel_rfl) (by kernel_rfl) (by kernel_rfl) (fun _ _ _ h => h) (Or.inl ⟨by rfl, ?hk14⟩) (BxJ.old U11 HB.out) ?rk14
            case hk14 => (intro wz hSw; (try dsimp only at hSw); go_simp; try with_reducible rfl)
            (try simp only [Act.put]); (try simp only [List.setIfInBounds_toArray]); (try simp only [List.set_cons_succ]); (try simp only [List.set_cons_zero])
            refine wpAnyH_take (i := 24) (oi := { dst := some 65, op := Op.move (Operand.tmp 5), type := 26, pos := "law.go:85", after := #[{ on := 23, ground := Ground.guard }], guard := some (23, false) }) (v := ?vk15) rfl (by kernel_rfl) (by kernel_rfl) (by kernel_rfl) (fun _ _ _ h => h) (Or.inl ⟨by rfl, ?hk15⟩) (BxJ.old U11 HB.out) ?rk15
            case hk15 => (intro wz hSw; (try dsimp only at hSw); go_simp; try with_reducible rfl)
            (try simp only [Act.put]); (try simp only [List.setIfInBounds_toArray]); (try simp only [List.set_cons_succ]); (try simp only [List.set_cons_zero])
            refine wpAnyH_take (i := 25) (oi := { dst := some 66, op := Op.fieldAddr 52 (Operand.tmp 11) 0, type := 0, pos := "law.go:85", after := #[{ on := 23, ground := Ground.guard }], guard := some (23, false) }) (v := ?vk16) rfl (by kernel_rfl) (by kernel_rfl) (by kernel_rfl) (fun _ _ _ h => h) (Or.inl ⟨by rfl, ?hk16⟩) (BxJ.old U11 HB.out) ?rk16
            case hk16 => (intro wz hSw; (try dsimp only at hSw); go_simp; try with_reducible rfl)
            (try simp only [Act.put]); (try simp only [List.setIfInBounds_toArray]); (try simp only [List.set_cons_succ]); (try simp only [List.set_cons_zero])
            refine wpAnyH_take (i := 26) (oi := { dst := some 67, op := Op.load 23 (Operand.tmp 66), type := 23, pos := "law.go:85", after := #[{ on := 25, ground := Ground.data }, { on := 23, ground := Ground.guard }], guard := some (23, false) }) (v := ?vk17) rfl (by kernel_rfl) (by kernel_rfl) (by kernel_rfl) (fun _ _ _ h => h) (Or.inl ⟨by rfl, ?hk17⟩) (BxJ.old U11 HB.out) ?rk17
            case hk17 => (intro wz hSw; (try dsimp only at hSw); go_simp; try with_reducible rfl)
            (try simp only [Act.put]); (try simp only [List.setIfInBounds_toArray]); (try simp only [List.set_cons_succ]); (try simp only [List.set_cons_zero])
            refine wpAnyH_take (i := 29) (oi := { dst := some 70, op := Op.fieldAddr 52 (Operand.tmp 11) 1, type := 0, pos := "law.go:85", after := #[{ on := 23, ground := Ground.guard }], guard := some (23, false) }) (v := ?vk18) rfl (by kernel_rfl) (by kernel_rfl) (by kernel_rfl) (fun _ _ _ h => h) (Or.inl ⟨by rfl, ?hk18⟩) (BxJ.old U11 HB.out) ?rk18
            case hk18 => (intro wz hSw; (try dsimp only at hSw); go_simp; try with_reducible rfl)
            (try simp only [Act.put]); (try simp only [List.setIfInBounds_toArray]); (try simp only [List.set_cons_succ]); (try simp only [List.set_cons_zero])
            refine wpAnyH_take (i := 30) (oi := { dst := some 71, op := Op.load 2 (Operand.tmp 70), type := 2, pos := "law.go:85", after := #[{ on := 29, ground := Ground.data }, { on := 23, ground := Ground.guard }], guard := some (23, false) }) (v := ?vk19) rfl (by kernel_rfl) (by kernel_rfl) (by kernel_rfl) (fun _ _ _ h => h) (Or.inl ⟨by rfl, ?hk19⟩) (BxJ.old U11 HB.out) ?rk19
            case hk19 => (intro wz hSw; (try dsimp only at hSw); go_simp; try with_reducible rfl)
            (try simp only [Act.put]); (try simp only [List.setIfInBounds_toArray]); (try simp only [List.set_cons_succ]); (try simp only [List.set_cons_zero])
            refine wpAnyH_ready (rs := [27]) (by kernel_rfl) (by simp) ?_
            refine AllReadyH.cons (o := { dst := some 68, op := Op.call { callee := Callee.value (Operand.func 26), args := #[Operand.tmp 67], argTypes := #[23] }, type := 25, pos := "law.go:85", after := #[{ on := 26, ground := Ground.data }, { on := 23, ground := Ground.chain }, { on := 23, ground := Ground.guard }], guard := some (23, false) }) rfl (fun K hK => ?_) AllReadyH.nil
            refine wantCall1 ?_ 26 (.tmp 67) #[23] ?_ (.float .f64 (atI L j).k) ?_ ?_ (ent_one _ _) ?_
            · rfl
            · rfl
            · rfl
            · rfl
            refine (HOn.out _ U11).mono ?_
            rintro o x20 ⟨rfl, b20⟩
            refine ⟨_, rfl, ?_⟩
            have U20 := U11.trans b20
            refine hK.out _ _ (BxJ.old U20 HB.out) (fun _ => ?_)
            clear hK K
            (try simp only [Act.put]); (try simp only [List.setIfInBounds_toArray]); (try simp only [List.set_cons_succ]); (try simp only [List.set_cons_zero])
            refine wpAnyH_ready (rs := [28]) (by kernel_rfl) (by simp) ?_
            refine AllReadyH.cons (o := { dst := some 69, op := Op.call { callee := Callee.value (Operand.func 20), args := #[Operand.tmp 65, Operand.tmp 68], argTypes := #[26, 25] }, type := 2, pos := "law.go:85", after := #[{ on := 24, ground := Ground.data }, { on := 27, ground := Ground.data }, { on := 27, ground := Ground.chain }, { on := 23, ground := Ground.guard }], guard := some (23, false) }) rfl (fun K hK => ?_) AllReadyH.nil
            refine wantCall2 ?_ 20 (.tmp 65) (.tmp 68) #[26, 25] ?_ (.pointer (some ⟨tb, 0, none⟩)) (.agg #[.float .f64 ou, .float .f64 ov, .bool oe, .bool oe]) ?_ ?_ ?_ (ent_over _ _) ?_
            · rfl
            · rfl
            · rfl
            · rfl
            · rfl
            refine (HOv.out _ U20).mono ?_
            rintro o x21 ⟨rfl, b21⟩
            refine ⟨_, rfl, ?_⟩
            have U21 := U20.trans b21
            refine hK.out _ _ (BxJ.old U21 HB.out) (fun _ => ?_)
            clear hK K
            (try simp only [Act.put]); (try simp only [List.setIfInBounds_toArray]); (try simp only [List.set_cons_succ]); (try simp only [List.set_cons_zero])
            refine wpAnyH_take (i := 31) (oi := { dst := some 72, op := Op.binOp BinOp.neq 2 (Operand.tmp 69) (Operand.tmp 71) 2, type := 4, pos := "law.go:85", after := #[{ on := 28, ground := Ground.data }, { on := 30, ground := Ground.data }, { on := 23, ground := Ground.guard }], guard := some (23, false) }) (v := ?vk22) rfl (by kernel_rfl) (by kernel_rfl) (by kernel_rfl) (fun _ _ _ h => h) (Or.inl ⟨by rfl, ?hk22⟩) (BxJ.old U21 HB.out) ?rk22
            case hk22 => (intro wz hSw; (try dsimp only at hSw); go_simp; try with_reducible rfl)
            (try simp only [Act.put]); (try simp only [List.setIfInBounds_toArray]); (try simp only [List.set_cons_succ]); (try simp only [List.set_cons_zero])
            refine wpAnyH_take (i := 32) (oi := { dst := some 73, op := Op.pick (Operand.tmp 64) (Operand.const (Value.bool true)) (Operand.tmp 72), type := 4, pos := "law.go:85", after := #[{ on := 23, ground := Ground.data }, { on := 31, ground := Ground.data }], guard := none }) (v := ?vk23) rfl (by kernel_rfl) (by kernel_rfl) (by kernel_rfl) (fun _ _ _ h => h) (Or.inl ⟨by rfl, ?hk23⟩) (BxJ.old U21 HB.out) ?rk23
            case hk23 => (intro wz hSw; (try dsimp only at hSw); go_simp; try with_reducible rfl)
            (try simp only [Act.put]); (try simp only [List.setIfInBounds_toArray]); (try simp only [List.set_cons_succ]); (try simp only [List.set_cons_zero])
            refine wpAnyH_done (by kernel_rfl) ?_ _
            refine NoPanic.normal ?_
            have U9 := hid U21
            obtain ⟨s0, s1, s2, s3⟩ := SpAt.old U9.out S8.out
            obtain ⟨d0, d1⟩ := BxI.old U9.out HBI.out
            clear HB
            generalize x21 = w10 at *
            cases hh : hasB x y p q (atI L j).k
            · rw [hh] at HHs HST
              have HST2 := hid (HST.out.trans (if_neg (by simp)))
              clear HST hh
              go_wp2_with (go_at_call 27; refine (HHs.out _).mono ?_; rintro e w11 ⟨rfl, u11⟩; have U11 := hid u11; clear u11)
              go_roundw
              case rel => exact ⟨j + 1, hjt, by go_num, by rw [HST2.out], (HV8.out.trans U9.out).trans U11.out⟩
              case measure => simp [intOf]; omega
            · rw [hh] at HHs HST
              have HST2 := hid (HST.out.trans (if_pos rfl))
              clear HST hh
              go_upto_region 17 with (go_at_call 27; refine (HHs.out _).mono ?_; rintro e w11 ⟨rfl, u11⟩; have U11 := hid u11; clear u11)
              have d1' := U11.out.keep d1
              go_wp2
              go_roundw
              case rel => exact ⟨j + 1, hjt, by go_num, by rw [HST2.out]; congr 1; omega, (HV8.out.trans U9.out).trans U11.out⟩
              case measure => simp [intOf]; omega

          · have hz : (0 : Int) < (j : Int) := by omega
            have hz2 : 0 < j := by omega
            have HB := hid (show BxJ wr.heap.size (atI L j) g (some ((j - 1) * 2, (atI L (j - 1)).k)) w8 from ⟨B4.out.1, B4.out.2, (HIt8.out (j - 1) (by omega)).1⟩)
            have HCm := hid (fun (W : World) (u : Old w8 W) => (refCmp_any (atI L (j - 1)).k (atI L j).k (HGA.out (j - 1) (by omega)).1 HGj.out.1 W).mono fun e w' hh => (⟨hh.1, by rw [hh.2]; exact Old.refl _⟩ : _ ∧ Old W w'))
            rw [HAs.out j (by omega) (by omega)] at HCm
            have hw1 : IntKind.i64.wrap ((j : Int) - 1) = ((j - 1 : Nat) : Int) := by rw [IntKind.wrap_i64]; omega
            have hl3 : ((j - 1 : Nat) : Int) < (M : Int) := by omega
            clear B4 HIt8 HAs
            refine wp_region_noPanic ?_
            refine wp_region_held_drew (S := BxJ wr.heap.size (atI L j) g (some ((j - 1) * 2, (atI L (j - 1)).k))) (by kernel_rfl) ?_ (fun hHeld => ?_)
            · exact BxJ.old ((Old.refl _).drew) HB.out
            (try simp only [Act.put]); (try simp only [List.setIfInBounds_toArray]); (try simp only [List.set_cons_succ]); (try simp only [List.set_cons_zero])
            clear hHeld
            refine wpAnyH_take (i := 0) (oi := { dst := some 41, op := Op.move (Operand.tmp 10), type := 3, pos := "law.go:85", after := #[], guard := none }) (v := ?vk24) rfl (by kernel_rfl) (by kernel_rfl) (by kernel_rfl) (fun _ _ _ h => h) (Or.inl ⟨by rfl, ?hk24⟩) (BxJ.old ((Old.refl w8).drew) HB.out) ?rk24
            case hk24 => (intro wz hSw; (try dsimp only at hSw); go_simp; try with_reducible rfl)
            (try simp only [Act.put]); (try simp only [List.setIfInBounds_toArray]); (try simp only [List.set_cons_succ]); (try simp only [List.set_cons_zero])
            refine wpAnyH_take (i := 1) (oi := { dst := some 42, op := Op.binOp BinOp.gtr 3 (Operand.tmp 41) (Operand.const (Value.int IntKind.i64 0)) 3, type := 4, pos := "law.go:85", after := #[{ on := 0, ground := Ground.data }], guard := none }) (v := ?vk25) rfl (by kernel_rfl) (by kernel_rfl) (by kernel_rfl) (fun _ _ _ h => h) (Or.inl ⟨by rfl, ?hk25⟩) (BxJ.old ((Old.refl w8).drew) HB.out) ?rk25
            case hk25 => (intro wz hSw; (try dsimp only at hSw); go_simp; try with_reducible rfl)
            (try simp only [Act.put]); (try simp only [List.setIfInBounds_toArray]); (try simp only [List.set_cons_succ]); (try simp only [List.set_cons_zero])
            refine wpAnyH_take (i := 2) (oi := { dst := some 43, op := Op.move (Operand.tmp 42), type := 4, pos := "law.go:85", after := #[{ on := 1, ground := Ground.data }], guard := none }) (v := ?vk26) rfl (by kernel_rfl) (by kernel_rfl) (by kernel_rfl) (fun _ _ _ h => h) (Or.inl ⟨by rfl, ?hk26⟩) (BxJ.old ((Old.refl w8).drew) HB.out) ?rk26
            case hk26 => (intro wz hSw; (try dsimp only at hSw); go_simp; try with_reducible rfl)
            (try simp only [Act.put]); (try simp only [List.setIfInBounds_toArray]); (try simp only [List.set_cons_succ]); (try simp only [List.set_cons_zero])
            refine wpAnyH_take (i := 3) (oi := { dst := some 44, op := Op.move (Operand.tmp 9), type := 46, pos := "law.go:85", after := #[{ on := 2, ground := Ground.guard }], guard := some (2, true) }) (v := ?vk27) rfl (by kernel_rfl) (by kernel_rfl) (by kernel_rfl) (fun _ _ _ h => h) (Or.inl ⟨by rfl, ?hk27⟩) (BxJ.old ((Old.refl w8).drew) HB.out) ?rk27
            case hk27 => (intro wz hSw; (try dsimp only at hSw); go_simp; try with_reducible rfl)
            (try simp only [Act.put]); (try simp only [List.setIfInBounds_toArray]); (try simp only [List.set_cons_succ]); (try simp only [List.set_cons_zero])
            refine wpAnyH_take (i := 4) (oi := { dst := some 45, op := Op.move (Operand.tmp 10), type := 3, pos := "law.go:85", after := #[{ on := 2, ground := Ground.guard }], guard := some (2, true) }) (v := ?vk28) rfl (by kernel_rfl) (by kernel_rfl) (by kernel_rfl) (fun _ _ _ h => h) (Or.inl ⟨by rfl, ?hk28⟩) (BxJ.old ((Old.refl w8).drew) HB.out) ?rk28
            case hk28 => (intro wz hSw; (try dsimp only at hSw); go_simp; try with_reducible rfl)
            (try simp only [Act.put]); (try simp only [List.setIfInBounds_toArray]); (try simp only [List.set_cons_succ]); (try simp only [List.set_cons_zero])
            refine wpAnyH_take (i := 5) (oi := { dst := some 46, op := Op.binOp BinOp.sub 3 (Operand.tmp 45) (Operand.const (Value.int IntKind.i64 1)) 3, type := 3, pos := "law.go:85", after := #[{ on := 4, ground := Ground.data }, { on := 2, ground := Ground.guard }], guard := some (2, true) }) (v := ?vk29) rfl (by kernel_rfl) (by kernel_rfl) (by kernel_rfl) (fun _ _ _ h => h) (Or.inl ⟨by rfl, ?hk29⟩) (BxJ.old ((Old.refl w8).drew) HB.out) ?rk29
            case hk29 => (intro wz hSw; (try dsimp only at hSw); go_simp; try with_reducible rfl)
            (try simp only [Act.put]); (try simp only [List.setIfInBounds_toArray]); (try simp only [List.set_cons_succ]); (try simp only [List.set_cons_zero])
            refine wpAnyH_take (i := 6) (oi := { dst := some 47, op := Op.indexAddr 46 (Operand.tmp 44) (Operand.tmp 46), type := 0, pos := "law.go:85", after := #[{ on := 3, ground := Ground.data }, { on := 5, ground := Ground.data }, { on := 2, ground := Ground.guard }], guard := some (2, true) }) (v := ?vk30) rfl (by kernel_rfl) (by kernel_rfl) (by kernel_rfl) (fun _ _ _ h => h) (Or.inl ⟨by rfl, ?hk30⟩) (BxJ.old ((Old.refl w8).drew) HB.out) ?rk30
            case hk30 => (intro wz hSw; (try dsimp only at hSw); go_simp; try with_reducible rfl)
            (try simp only [Act.put]); (try simp only [List.setIfInBounds_toArray]); (try simp only [List.set_cons_succ]); (try simp only [List.set_cons_zero])
            refine wpAnyH_take (i := 7) (oi := { dst := some 48, op := Op.fieldAddr 52 (Operand.tmp 47) 0, type := 0, pos := "law.go:85", after := #[{ on := 6, ground := Ground.data }, { on := 2, ground := Ground.guard }], guard := some (2, true) }) (v := ?vk31) rfl (by kernel_rfl) (by kernel_rfl) (by kernel_rfl) (fun _ _ _ h => h) (Or.inl ⟨by rfl, ?hk31⟩) (BxJ.old ((Old.refl w8).drew) HB.out) ?rk31
            case hk31 => (intro wz hSw; (try dsimp only at hSw); go_simp; try with_reducible rfl)
            (try simp only [Act.put]); (try simp only [List.setIfInBounds_toArray]); (try simp only [List.set_cons_succ]); (try simp only [List.set_cons_zero])
            refine wpAnyH_take (i := 8) (oi := { dst := some 49, op := Op.load 23 (Operand.tmp 48), type := 23, pos := "law.go:85", after := #[{ on := 7, ground := Ground.data }, { on := 2, ground := Ground.guard }], guard := some (2, true) }) (v := ?vk32) rfl (by kernel_rfl) (by kernel_rfl) (by kernel_rfl) (fun _ _ _ h => h) (Or.inl ⟨by rfl, ?hk32⟩) (BxJ.old ((Old.refl w8).drew) HB.out) ?rk32
            case hk32 => (intro wz hSw; (try dsimp only at hSw); go_simp; try with_reducible rfl)
            (try simp only [Act.put]); (try simp only [List.setIfInBounds_toArray]); (try simp only [List.set_cons_succ]); (try simp only [List.set_cons_zero])
            refine wpAnyH_take (i := 9) (oi := { dst := some 50, op := Op.fieldAddr 52 (Operand.tmp 11) 0, type := 0, pos := "law.go:85", after := #[{ on := 2, ground := Ground.guard }], guard := some (2, true) }) (v := ?vk33) rfl (by kernel_rfl) (by kernel_rfl) (by kernel_rfl) (fun _ _ _ h => h) (Or.inl ⟨by rfl, ?hk33⟩) (BxJ.old ((Old.refl w8).drew) HB.out) ?rk33
            case hk33 => (intro wz hSw; (try dsimp only at hSw); go_simp; try with_reducible rfl)
            (try simp only [Act.put]); (try simp only [List.setIfInBounds_toArray]); (try simp only [List.set_cons_succ]); (try simp only [List.set_cons_zero])
            refine wpAnyH_take (i := 10) (oi := { dst := some 51, op := Op.load 23 (Operand.tmp 50), type := 23, pos := "law.go:85", after := #[{ on := 9, ground := Ground.data }, { on := 2, ground := Ground.guard }], guard := some (2, true) }) (v := ?vk34) rfl (by kernel_rfl) (by kernel_rfl) (by kernel_rfl) (fun _ _ _ h => h) (Or.inl ⟨by rfl, ?hk34⟩) (BxJ.old ((Old.refl w8).drew) HB.out) ?rk34
            case hk34 => (intro wz hSw; (try dsimp only at hSw); go_simp; try with_reducible rfl)
            (try simp only [Act.put]); (try simp only [List.setIfInBounds_toArray]); (try simp only [List.set_cons_succ]); (try simp only [List.set_cons_zero])
            refine wpAnyH_ready (rs := [11]) (by kernel_rfl) (by simp) ?_
            refine AllReadyH.cons (o := { dst := some 52, op := Op.call { callee := Callee.value (Operand.func 25), args := #[Operand.tmp 49, Operand.tmp 51], argTypes := #[23, 23] }, type := 3, pos := "law.go:85", after := #[{ on := 8, ground := Ground.data }, { on := 10, ground := Ground.data }, { on := 2, ground := Ground.chain }, { on := 2, ground := Ground.guard }], guard := some (2, true) }) rfl (fun K hK => ?_) AllReadyH.nil
            refine wantCall2 ?_ 25 (.tmp 49) (.tmp 51) #[23, 23] ?_ (.float .f64 (atI L (j - 1)).k) (.float .f64 (atI L j).k) ?_ ?_ ?_ (ent_rcmp _ _) ?_
            · rfl
            · rfl
            · rfl
            · rfl
            · rfl
            refine (HCm.out _ ((Old.refl w8).drew)).mono ?_
            rintro o x35 ⟨rfl, b35⟩
            refine ⟨_, rfl, ?_⟩
            have U35 := ((Old.refl w8).drew).trans b35
            refine hK.out _ _ (BxJ.old U35 HB.out) (fun _ => ?_)
            clear hK K
            (try simp only [Act.put]); (try simp only [List.setIfInBounds_toArray]); (try simp only [List.set_cons_succ]); (try simp only [List.set_cons_zero])
            refine wpAnyH_take (i := 12) (oi := { dst := some 53, op := Op.binOp BinOp.geq 3 (Operand.tmp 52) (Operand.const (Value.int IntKind.i64 0)) 3, type := 4, pos := "law.go:85", after := #[{ on := 11, ground := Ground.data }, { on := 2, ground := Ground.guard }], guard := some (2, true) }) (v := ?vk36) rfl (by kernel_rfl) (by kernel_rfl) (by kernel_rfl) (fun _ _ _ h => h) (Or.inl ⟨by rfl, ?hk36⟩) (BxJ.old U35 HB.out) ?rk36
            case hk36 => (intro wz hSw; (try dsimp only at hSw); go_simp; try with_reducible rfl)
            (try simp only [Act.put]); (try simp only [List.setIfInBounds_toArray]); (try simp only [List.set_cons_succ]); (try simp only [List.set_cons_zero])
            refine wpAnyH_take (i := 13) (oi := { dst := some 54, op := Op.pick (Operand.tmp 43) (Operand.tmp 53) (Operand.const (Value.bool false)), type := 4, pos := "law.go:85", after := #[{ on := 2, ground := Ground.data }, { on := 12, ground := Ground.data }], guard := none }) (v := ?vk37) rfl (by kernel_rfl) (by kernel_rfl) (by kernel_rfl) (fun _ _ _ h => h) (Or.inl ⟨by rfl, ?hk37⟩) (BxJ.old U35 HB.out) ?rk37
            case hk37 => (intro wz hSw; (try dsimp only at hSw); go_simp; try with_reducible rfl)
            (try simp only [Act.put]); (try simp only [List.setIfInBounds_toArray]); (try simp only [List.set_cons_succ]); (try simp only [List.set_cons_zero])
            refine wpAnyH_take (i := 14) (oi := { dst := some 55, op := Op.move (Operand.tmp 54), type := 4, pos := "law.go:85", after := #[{ on := 13, ground := Ground.data }, { on := 11, ground := Ground.chain }], guard := none }) (v := ?vk38) rfl (by kernel_rfl) (by kernel_rfl) (by kernel_rfl) (fun _ _ _ h => h) (Or.inl ⟨by rfl, ?hk38⟩) (BxJ.old U35 HB.out) ?rk38
            case hk38 => (intro wz hSw; (try dsimp only at hSw); go_simp; try with_reducible rfl)
            (try simp only [Act.put]); (try simp only [List.setIfInBounds_toArray]); (try simp only [List.set_cons_succ]); (try simp only [List.set_cons_zero])
            refine wpAnyH_take (i := 15) (oi := { dst := some 56, op := Op.move (Operand.tmp 5), type := 26, pos := "law.go:85", after := #[{ on := 14, ground := Ground.guard }], guard := some (14, false) }) (v := ?vk39) rfl (by kernel_rfl) (by kernel_rfl) (by kernel_rfl) (fun _ _ _ h => h) (Or.inl ⟨by rfl, ?hk39⟩) (BxJ.old U35 HB.out) ?rk39
            case hk39 => (intro wz hSw; (try dsimp only at hSw); go_simp; try with_reducible rfl)
            (try simp only [Act.put]); (try simp only [List.setIfInBounds_toArray]); (try simp only [List.set_cons_succ]); (try simp only [List.set_cons_zero])
            refine wpAnyH_take (i := 16) (oi := { dst := some 57, op := Op.fieldAddr 52 (Operand.tmp 11) 0, type := 0, pos := "law.go:85", after := #[{ on := 14, ground := Ground.guard }], guard := some (14, false) }) (v := ?vk40) rfl (by kernel_rfl) (by kernel_rfl) (by kernel_rfl) (fun _ _ _ h => h) (Or.inl ⟨by rfl, ?hk40⟩) (BxJ.old U35 HB.out) ?rk40
            case hk40 => (intro wz hSw; (try dsimp only at hSw); go_simp; try with_reducible rfl)
            (try simp only [Act.put]); (try simp only [List.setIfInBounds_toArray]); (try simp only [List.set_cons_succ]); (try simp only [List.set_cons_zero])
            refine wpAnyH_take (i := 17) (oi := { dst := some 58, op := Op.load 23 (Operand.tmp 57), type := 23, pos := "law.go:85", after := #[{ on := 16, ground := Ground.data }, { on := 14, ground := Ground.guard }], guard := some (14, false) }) (v := ?vk41) rfl (by kernel_rfl) (by kernel_rfl) (by kernel_rfl) (fun _ _ _ h => h) (Or.inl ⟨by rfl, ?hk41⟩) (BxJ.old U35 HB.out) ?rk41
            case hk41 => (intro wz hSw; (try dsimp only at hSw); go_simp; try with_reducible rfl)
            (try simp only [Act.put]); (try simp only [List.setIfInBounds_toArray]); (try simp only [List.set_cons_succ]); (try simp only [List.set_cons_zero])
            refine wpAnyH_take (i := 19) (oi := { dst := some 60, op := Op.fieldAddr 52 (Operand.tmp 11) 1, type := 0, pos := "law.go:85", after := #[{ on := 14, ground := Ground.guard }], guard := some (14, false) }) (v := ?vk42) rfl (by kernel_rfl) (by kernel_rfl) (by kernel_rfl) (fun _ _ _ h => h) (Or.inl ⟨by rfl, ?hk42⟩) (BxJ.old U35 HB.out) ?rk42
            case hk42 => (intro wz hSw; (try dsimp only at hSw); go_simp; try with_reducible rfl)
            (try simp only [Act.put]); (try simp only [List.setIfInBounds_toArray]); (try simp only [List.set_cons_succ]); (try simp only [List.set_cons_zero])
            refine wpAnyH_take (i := 20) (oi := { dst := some 61, op := Op.load 2 (Operand.tmp 60), type := 2, pos := "law.go:85", after := #[{ on := 19, ground := Ground.data }, { on := 14, ground := Ground.guard }], guard := some (14, false) }) (v := ?vk43) rfl (by kernel_rfl) (by kernel_rfl) (by kernel_rfl) (fun _ _ _ h => h) (Or.inl ⟨by rfl, ?hk43⟩) (BxJ.old U35 HB.out) ?rk43
            case hk43 => (intro wz hSw; (try dsimp only at hSw); go_simp; try with_reducible rfl)
            (try simp only [Act.put]); (try simp only [List.setIfInBounds_toArray]); (try simp only [List.set_cons_succ]); (try simp only [List.set_cons_zero])
            refine wpAnyH_ready (rs := [18]) (by kernel_rfl) (by simp) ?_
            refine AllReadyH.cons (o := { dst := some 59, op := Op.call { callee := Callee.value (Operand.func 14), args := #[Operand.tmp 56, Operand.tmp 58], argTypes := #[26, 23] }, type := 2, pos := "law.go:85", after := #[{ on := 15, ground := Ground.data }, { on := 17, ground := Ground.data }, { on := 14, ground := Ground.chain }, { on := 14, ground := Ground.guard }], guard := some (14, false) }) rfl (fun K hK => ?_) AllReadyH.nil
            refine wantCall2 ?_ 14 (.tmp 56) (.tmp 58) #[26, 23] ?_ (.pointer (some ⟨tb, 0, none⟩)) (.float .f64 (atI L j).k) ?_ ?_ ?_ (ent_at _ _) ?_
            · rfl
            · rfl
            · rfl
            · rfl
            · rfl
            refine (HAt.out _ U35).mono ?_
            rintro o x44 ⟨rfl, b44⟩
            refine ⟨_, rfl, ?_⟩
            have U44 := U35.trans b44
            refine hK.out _ _ (BxJ.old U44 HB.out) (fun _ => ?_)
            clear hK K
            (try simp only [Act.put]); (try simp only [List.setIfInBounds_toArray]); (try simp only [List.set_cons_succ]); (try simp only [List.set_cons_zero])
            refine wpAnyH_take (i := 21) (oi := { dst := some 62, op := Op.binOp BinOp.neq 2 (Operand.tmp 59) (Operand.tmp 61) 2, type := 4, pos := "law.go:85", after := #[{ on := 18, ground := Ground.data }, { on := 20, ground := Ground.data }, { on := 14, ground := Ground.guard }], guard := some (14, false) }) (v := ?vk45) rfl (by kernel_rfl) (by kernel_rfl) (by kernel_rfl) (fun _ _ _ h => h) (Or.inl ⟨by rfl, ?hk45⟩) (BxJ.old U44 HB.out) ?rk45
            case hk45 => (intro wz hSw; (try dsimp only at hSw); go_simp; try with_reducible rfl)
            (try simp only [Act.put]); (try simp only [List.setIfInBounds_toArray]); (try simp only [List.set_cons_succ]); (try simp only [List.set_cons_zero])
            refine wpAnyH_take (i := 22) (oi := { dst := some 63, op := Op.pick (Operand.tmp 55) (Operand.const (Value.bool true)) (Operand.tmp 62), type := 4, pos := "law.go:85", after := #[{ on := 14, ground := Ground.data }, { on := 21, ground := Ground.data }], guard := none }) (v := ?vk46) rfl (by kernel_rfl) (by kernel_rfl) (by kernel_rfl) (fun _ _ _ h => h) (Or.inl ⟨by rfl, ?hk46⟩) (BxJ.old U44 HB.out) ?rk46
            case hk46 => (intro wz hSw; (try dsimp only at hSw); go_simp; try with_reducible rfl)
            (try simp only [Act.put]); (try simp only [List.setIfInBounds_toArray]); (try simp only [List.set_cons_succ]); (try simp only [List.set_cons_zero])
            refine wpAnyH_take (i := 23) (oi := { dst := some 64, op := Op.move (Operand.tmp 63), type := 4, pos := "law.go:85", after := #[{ on := 22, ground := Ground.data }, { on := 18, ground := Ground.chain }], guard := none }) (v := ?vk47) rfl (by kernel_rfl) (by kernel_rfl) (by kernel_rfl) (fun _ _ _ h => h) (Or.inl ⟨by rfl, ?hk47⟩) (BxJ.old U44 HB.out) ?rk47
            case hk47 => (intro wz hSw; (try dsimp only at hSw); go_simp; try with_reducible rfl)
            (try simp only [Act.put]); (try simp only [List.setIfInBounds_toArray]); (try simp only [List.set_cons_succ]); (try simp only [List.set_cons_zero])
            refine wpAnyH_take (i := 24) (oi := { dst := some 65, op := Op.move (Operand.tmp 5), type := 26, pos := "law.go:85", after := #[{ on := 23, ground := Ground.guard }], guard := some (23, false) }) (v := ?vk48) rfl (by kernel_rfl) (by kernel_rfl) (by kernel_rfl) (fun _ _ _ h => h) (Or.inl ⟨by rfl, ?hk48⟩) (BxJ.old U44 HB.out) ?rk48
            case hk48 => (intro wz hSw; (try dsimp only at hSw); go_simp; try with_reducible rfl)
            (try simp only [Act.put]); (try simp only [List.setIfInBounds_toArray]); (try simp only [List.set_cons_succ]); (try simp only [List.set_cons_zero])
            refine wpAnyH_take (i := 25) (oi := { dst := some 66, op := Op.fieldAddr 52 (Operand.tmp 11) 0, type := 0, pos := "law.go:85", after := #[{ on := 23, ground := Ground.guard }], guard := some (23, false) }) (v := ?vk49) rfl (by kernel_rfl) (by kernel_rfl) (by kernel_rfl) (fun _ _ _ h => h) (Or.inl ⟨by rfl, ?hk49⟩) (BxJ.old U44 HB.out) ?rk49
            case hk49 => (intro wz hSw; (try dsimp only at hSw); go_simp; try with_reducible rfl)
            (try simp only [Act.put]); (try simp only [List.setIfInBounds_toArray]); (try simp only [List.set_cons_succ]); (try simp only [List.set_cons_zero])
            refine wpAnyH_take (i := 26) (oi := { dst := some 67, op := Op.load 23 (Operand.tmp 66), type := 23, pos := "law.go:85", after := #[{ on := 25, ground := Ground.data }, { on := 23, ground := Ground.guard }], guard := some (23, false) }) (v := ?vk50) rfl (by kernel_rfl) (by kernel_rfl) (by kernel_rfl) (fun _ _ _ h => h) (Or.inl ⟨by rfl, ?hk50⟩) (BxJ.old U44 HB.out) ?rk50
            case hk50 => (intro wz hSw; (try dsimp only at hSw); go_simp; try with_reducible rfl)
            (try simp only [Act.put]); (try simp only [List.setIfInBounds_toArray]); (try simp only [List.set_cons_succ]); (try simp only [List.set_cons_zero])
            refine wpAnyH_take (i := 29) (oi := { dst := some 70, op := Op.fieldAddr 52 (Operand.tmp 11) 1, type := 0, pos := "law.go:85", after := #[{ on := 23, ground := Ground.guard }], guard := some (23, false) }) (v := ?vk51) rfl (by kernel_rfl) (by kernel_rfl) (by kernel_rfl) (fun _ _ _ h => h) (Or.inl ⟨by rfl, ?hk51⟩) (BxJ.old U44 HB.out) ?rk51
            case hk51 => (intro wz hSw; (try dsimp only at hSw); go_simp; try with_reducible rfl)
            (try simp only [Act.put]); (try simp only [List.setIfInBounds_toArray]); (try simp only [List.set_cons_succ]); (try simp only [List.set_cons_zero])
            refine wpAnyH_take (i := 30) (oi := { dst := some 71, op := Op.load 2 (Operand.tmp 70), type := 2, pos := "law.go:85", after := #[{ on := 29, ground := Ground.data }, { on := 23, ground := Ground.guard }], guard := some (23, false) }) (v := ?vk52) rfl (by kernel_rfl) (by kernel_rfl) (by kernel_rfl) (fun _ _ _ h => h) (Or.inl ⟨by rfl, ?hk52⟩) (BxJ.old U44 HB.out) ?rk52
            case hk52 => (intro wz hSw; (try dsimp only at hSw); go_simp; try with_reducible rfl)
            (try simp only [Act.put]); (try simp only [List.setIfInBounds_toArray]); (try simp only [List.set_cons_succ]); (try simp only [List.set_cons_zero])
            refine wpAnyH_ready (rs := [27]) (by kernel_rfl) (by simp) ?_
            refine AllReadyH.cons (o := { dst := some 68, op := Op.call { callee := Callee.value (Operand.func 26), args := #[Operand.tmp 67], argTypes := #[23] }, type := 25, pos := "law.go:85", after := #[{ on := 26, ground := Ground.data }, { on := 23, ground := Ground.chain }, { on := 23, ground := Ground.guard }], guard := some (23, false) }) rfl (fun K hK => ?_) AllReadyH.nil
            refine wantCall1 ?_ 26 (.tmp 67) #[23] ?_ (.float .f64 (atI L j).k) ?_ ?_ (ent_one _ _) ?_
            · rfl
            · rfl
            · rfl
            · rfl
            refine (HOn.out _ U44).mono ?_
            rintro o x53 ⟨rfl, b53⟩
            refine ⟨_, rfl, ?_⟩
            have U53 := U44.trans b53
            refine hK.out _ _ (BxJ.old U53 HB.out) (fun _ => ?_)
            clear hK K
            (try simp only [Act.put]); (try simp only [List.setIfInBounds_toArray]); (try simp only [List.set_cons_succ]); (try simp only [List.set_cons_zero])
            refine wpAnyH_ready (rs := [28]) (by kernel_rfl) (by simp) ?_
            refine AllReadyH.cons (o := { dst := some 69, op := Op.call { callee := Callee.value (Operand.func 20), args := #[Operand.tmp 65, Operand.tmp 68], argTypes := #[26, 25] }, type := 2, pos := "law.go:85", after := #[{ on := 24, ground := Ground.data }, { on := 27, ground := Ground.data }, { on := 27, ground := Ground.chain }, { on := 23, ground := Ground.guard }], guard := some (23, false) }) rfl (fun K hK => ?_) AllReadyH.nil
            refine wantCall2 ?_ 20 (.tmp 65) (.tmp 68) #[26, 25] ?_ (.pointer (some ⟨tb, 0, none⟩)) (.agg #[.float .f64 ou, .float .f64 ov, .bool oe, .bool oe]) ?_ ?_ ?_ (ent_over _ _) ?_
            · rfl
            · rfl
            · rfl
            · rfl
            · rfl
            refine (HOv.out _ U53).mono ?_
            rintro o x54 ⟨rfl, b54⟩
            refine ⟨_, rfl, ?_⟩
            have U54 := U53.trans b54
            refine hK.out _ _ (BxJ.old U54 HB.out) (fun _ => ?_)
            clear hK K
            (try simp only [Act.put]); (try simp only [List.setIfInBounds_toArray]); (try simp only [List.set_cons_succ]); (try simp only [List.set_cons_zero])
            refine wpAnyH_take (i := 31) (oi := { dst := some 72, op := Op.binOp BinOp.neq 2 (Operand.tmp 69) (Operand.tmp 71) 2, type := 4, pos := "law.go:85", after := #[{ on := 28, ground := Ground.data }, { on := 30, ground := Ground.data }, { on := 23, ground := Ground.guard }], guard := some (23, false) }) (v := ?vk55) rfl (by kernel_rfl) (by kernel_rfl) (by kernel_rfl) (fun _ _ _ h => h) (Or.inl ⟨by rfl, ?hk55⟩) (BxJ.old U54 HB.out) ?rk55
            case hk55 => (intro wz hSw; (try dsimp only at hSw); go_simp; try with_reducible rfl)
            (try simp only [Act.put]); (try simp only [List.setIfInBounds_toArray]); (try simp only [List.set_cons_succ]); (try simp only [List.set_cons_zero])
            refine wpAnyH_take (i := 32) (oi := { dst := some 73, op := Op.pick (Operand.tmp 64) (Operand.const (Value.bool true)) (Operand.tmp 72), type := 4, pos := "law.go:85", after := #[{ on := 23, ground := Ground.data }, { on := 31, ground := Ground.data }], guard := none }) (v := ?vk56) rfl (by kernel_rfl) (by kernel_rfl) (by kernel_rfl) (fun _ _ _ h => h) (Or.inl ⟨by rfl, ?hk56⟩) (BxJ.old U54 HB.out) ?rk56
            case hk56 => (intro wz hSw; (try dsimp only at hSw); go_simp; try with_reducible rfl)
            (try simp only [Act.put]); (try simp only [List.setIfInBounds_toArray]); (try simp only [List.set_cons_succ]); (try simp only [List.set_cons_zero])
            refine wpAnyH_done (by kernel_rfl) ?_ _
            refine NoPanic.normal ?_
            have U9 := hid U54
            obtain ⟨s0, s1, s2, s3⟩ := SpAt.old U9.out S8.out
            obtain ⟨d0, d1⟩ := BxI.old U9.out HBI.out
            clear HB
            generalize x54 = w10 at *
            cases hh : hasB x y p q (atI L j).k
            · rw [hh] at HHs HST
              have HST2 := hid (HST.out.trans (if_neg (by simp)))
              clear HST hh
              go_wp2_with (go_at_call 27; refine (HHs.out _).mono ?_; rintro e w11 ⟨rfl, u11⟩; have U11 := hid u11; clear u11)
              go_roundw
              case rel => exact ⟨j + 1, hjt, by go_num, by rw [HST2.out], (HV8.out.trans U9.out).trans U11.out⟩
              case measure => simp [intOf]; omega
            · rw [hh] at HHs HST
              have HST2 := hid (HST.out.trans (if_pos rfl))
              clear HST hh
              go_upto_region 17 with (go_at_call 27; refine (HHs.out _).mono ?_; rintro e w11 ⟨rfl, u11⟩; have U11 := hid u11; clear u11)
              have d1' := U11.out.keep d1
              go_wp2
              go_roundw
              case rel => exact ⟨j + 1, hjt, by go_num, by rw [HST2.out]; congr 1; omega, (HV8.out.trans U9.out).trans U11.out⟩
              case measure => simp [intOf]; omega

        · obtain rfl : j = M := by omega
          have HOf := hid (over_any tb tb 64 v L x y hx hy p q wr (T7.out.old HV.out) HGG.out (by omega))
          rw [hM] at HOf
          obtain ⟨s0, s1, s2, s3⟩ := SpAt.old HV.out HSw.out
          go_wp2_with (go_at_call 20; refine HOf.out.mono ?_; rintro e w9 ⟨rfl, u9⟩; have U9 := hid u9; clear u9)
          go_ret
          exact ⟨rfl, ((hV.out.trans U7.out).trans HV.out).trans U9.out⟩
end Go.Proofs.Ytbjikfcegiagjaa
