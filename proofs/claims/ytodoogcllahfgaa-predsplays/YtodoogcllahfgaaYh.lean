/- preds: Put at every table; conditions: the lengths fit. -/
import Derived.Test.YtodoogcllahfgaaYg
import Derived.Test.YtodoogcllahfgaaYs
namespace Go.Proofs.Ytodoogcllahfgaa
open Go.RowKit Go.Lib
set_option linter.unusedVariables false
set_option linter.unusedSimpArgs false
set_option maxRecDepth 20000
/-- What Put leaves behind. -/
def PutPost (base b : Nat) (most : Int) (v : Value) (code : Int) (L' : List It) (w : World) (e : Ending) (w' : World) : Prop := ∃ v', e = .returned (.int .i64 code) ∧ TabAt base w' b most v' L' ∧ Chg (blks b v) w w' ∧ ∀ g, v'.ownBlock = some g → v.ownBlock = some g ∨ w.heap.size ≤ g
theorem putPost_same {base b : Nat} {most : Int} {v : Value} {code : Int} {L : List It} {w w' : World} (h : TabAt base w b most v L) (u : Old w w') : PutPost base b most v code L w (.returned (.int .i64 code)) w' := ⟨v, rfl, h.old u, Chg.ofOld u, fun g hg => .inl hg⟩
theorem newRow (w : World) (m : Nat) (x : World) (y : It) (hm : m = w.heap.size) (hx : x = w.alloc (.cells (itc y).toArray 49)) : Old w x ∧ x.heap[m]? = some (.cells (itc y).toArray 49 (0, 0)) ∧ w.heap.size ≤ m := by
  subst hm hx
  exact ⟨(Old.refl w).alloc _, alloc_heap w _ _ rfl, Nat.le_refl _⟩
theorem ent_canonP (args : Array Value) (w : World) : (callFunc 23 args).run Try.prog w = .ok (.enter 23 args) w := by kernel_rfl
theorem kc_new (x y : Nat) (p q : Bool) (n : Int) (hE : Fl.csE x y p q = false) : kc ⟨Fl.csU x y p q, Fl.csV x y p q, false, false, n⟩ = skc x y p q := by unfold kc skc; rw [hE]; rfl
theorem empty_old (a b : Nat) (ha : Fl.W a) (hb : Fl.W b) (p q : Bool) (w : World) : Calls Try.prog 21 #[.agg #[.float .f64 a, .float .f64 b, .bool p, .bool q]] w fun e w' => e = .returned (.bool (Fl.csE a b p q)) ∧ Old w w' := (empty_any a b ha hb p q w).mono fun e w' h => ⟨h.1, h.2.old⟩
attribute [local go_sem] run_bits run_frombits run_store_float
set_option maxHeartbeats 1000000 in
set_option maxRecDepth 20000 in
theorem put_empty (base b : Nat) (most n : Int) (v : Value) (L : List It) (x y : Nat) (p q : Bool) (hx : Fl.W x) (hy : Fl.W y) (w : World) (h : TabAt base w b most v L) (hG : Good L) (hL : L.length ≤ 1000000) (hE : Fl.csE x y p q = true) :
    Calls Try.prog 7 #[.pointer (some ⟨b, 0, none⟩), .agg #[.float .f64 x, .float .f64 y, .bool p, .bool q], .int .i64 n] w fun e w' => PutPost base b most v 41 L w e w' := by
  have hV := hid ((Old.refl w).alloc (.cells #[.float .f64 x, .float .f64 y, .bool p, .bool q] 32))
  have HSp := hid (show SpAt w.heap.size x y p q (w.alloc (.cells #[.float .f64 x, .float .f64 y, .bool p, .bool q] 32)) by simp [SpAt])
  have HT1 := hid (h.old hV.out)
  have HF := hid (find_t base b most v L x y p q hx hy _ HT1.out hG hL)
  have HEm := hid (fun W => empty_old x y hx hy p q W)
  rw [hE] at HEm
  have HE := hid (fun w' (u : Old w w') => putPost_same (code := 41) h u)
  clear h hG hE HT1
  generalize pos (skc x y p q) L = k at *
  generalize there (skc x y p q) L = r at *
  go_enter Try.func7, Try.ntmps7
  go_upto_region 1 with fail
  generalize w.alloc (.cells #[.float .f64 x, .float .f64 y, .bool p, .bool q] 32) = w1 at *
  obtain ⟨s0, s1, s2, s3⟩ := HSp.out
  go_wp2_with (first | (go_at_call 20; refine HF.out.mono ?_; rintro e w3 ⟨rfl, u3⟩; have U3 := hid (hV.out.trans u3); have SP3 := hid (SpAt.old u3 HSp.out); obtain ⟨r0, r1, r2, r3⟩ := SP3.out; clear u3) | (go_at_call 21; refine (HEm.out _).mono ?_; rintro e w4 ⟨rfl, u4⟩; have U4 := hid (U3.out.trans u4); have SP4 := hid (SpAt.old u4 SP3.out); clear u4))
  exact bodyPost_ret (v := .int .i64 41) (by simp [results, Try.results7, go_sem]) rfl (HE.out _ U4.out)
set_option maxHeartbeats 1000000 in
set_option maxRecDepth 20000 in
theorem put_num (base b : Nat) (most n : Int) (v : Value) (L : List It) (x y : Nat) (p q : Bool) (hx : Fl.W x) (hy : Fl.W y) (w : World) (h : TabAt base w b most v L) (hG : Good L) (hL : L.length ≤ 1000000) (hE : Fl.csE x y p q = false) (hb : n < 1 ∨ 1099511627776 < n) :
    Calls Try.prog 7 #[.pointer (some ⟨b, 0, none⟩), .agg #[.float .f64 x, .float .f64 y, .bool p, .bool q], .int .i64 n] w fun e w' => PutPost base b most v 43 L w e w' := by
  have hV := hid ((Old.refl w).alloc (.cells #[.float .f64 x, .float .f64 y, .bool p, .bool q] 32))
  have HSp := hid (show SpAt w.heap.size x y p q (w.alloc (.cells #[.float .f64 x, .float .f64 y, .bool p, .bool q] 32)) by simp [SpAt])
  have HT1 := hid (h.old hV.out)
  have HF := hid (find_t base b most v L x y p q hx hy _ HT1.out hG hL)
  have HEm := hid (fun W => empty_old x y hx hy p q W)
  rw [hE] at HEm
  have HE := hid (fun w' (u : Old w w') => putPost_same (code := 43) h u)
  clear h hG hE HT1
  generalize pos (skc x y p q) L = k at *
  generalize there (skc x y p q) L = r at *
  have hb2 : n < 1 ∨ ¬ n < 1 ∧ 1099511627776 < n := by omega
  clear hb
  go_enter Try.func7, Try.ntmps7
  go_upto_region 1 with fail
  generalize w.alloc (.cells #[.float .f64 x, .float .f64 y, .bool p, .bool q] 32) = w1 at *
  obtain ⟨s0, s1, s2, s3⟩ := HSp.out
  rcases hb2 with hb | ⟨hb1, hb⟩
  all_goals go_wp2_with (first | (go_at_call 20; refine HF.out.mono ?_; rintro e w3 ⟨rfl, u3⟩; have U3 := hid (hV.out.trans u3); have SP3 := hid (SpAt.old u3 HSp.out); obtain ⟨r0, r1, r2, r3⟩ := SP3.out; clear u3) | (go_at_call 21; refine (HEm.out _).mono ?_; rintro e w4 ⟨rfl, u4⟩; have U4 := hid (U3.out.trans u4); have SP4 := hid (SpAt.old u4 SP3.out); clear u4))
  all_goals exact bodyPost_ret (v := .int .i64 43) (by simp [results, Try.results7, go_sem]) rfl (HE.out _ U4.out)
set_option maxHeartbeats 4000000 in
set_option maxRecDepth 20000 in
theorem put_there (base b : Nat) (most n : Int) (v : Value) (L : List It) (x y : Nat) (p q : Bool) (hx : Fl.W x) (hy : Fl.W y) (w : World) (h : TabAt base w b most v L) (hG : Good L) (hL : L.length ≤ 1000000) (hE : Fl.csE x y p q = false) (h1 : ¬ n < 1) (h2 : ¬ 1099511627776 < n) (ht : there (skc x y p q) L = true) :
    Calls Try.prog 7 #[.pointer (some ⟨b, 0, none⟩), .agg #[.float .f64 x, .float .f64 y, .bool p, .bool q], .int .i64 n] w fun e w' => PutPost base b most v 0 (putL ⟨Fl.csU x y p q, Fl.csV x y p q, false, false, n⟩ L) w e w' := by
  have hV := hid ((Old.refl w).alloc (.cells #[.float .f64 x, .float .f64 y, .bool p, .bool q] 32))
  have HSp := hid (show SpAt w.heap.size x y p q (w.alloc (.cells #[.float .f64 x, .float .f64 y, .bool p, .bool q] 32)) by simp [SpAt])
  have HT1 := hid (h.old hV.out)
  have HF := hid (find_t base b most v L x y p q hx hy _ HT1.out hG hL)
  have HEm := hid (fun W => empty_old x y hx hy p q W)
  rw [hE] at HEm
  rw [ht] at HF
  have hpl : pos (skc x y p q) L < L.length := by simp [there] at ht; exact ht.1
  have hkp : kc (atI L (pos (skc x y p q) L)) = skc x y p q := by simp [there] at ht; exact ht.2
  have hput := put_set ⟨Fl.csU x y p q, Fl.csV x y p q, false, false, n⟩ L hG.1 (by rw [kc_new x y p q n hE]; exact hpl) (by rw [kc_new x y p q n hE]; exact hkp)
  rw [kc_new x y p q n hE] at hput
  have HP := hid hput
  have HT := hid h
  clear hput hkp ht h hG hE HT1
  generalize pos (skc x y p q) L = k at *
  obtain ⟨g, cap, hvs, hgb, hgl, hit, hfz⟩ := HT.out.2.2.2.2.1.shape (by omega)
  subst hvs
  have hi := hit k hpl
  have hgne : g ≠ b := fun e => HT.out.2.2.2.2.2 (by rw [e]; rfl)
  have hfp := hfz (k * 5 + 4)
  clear hit hfz
  have HI := hid (And.intro hi hfp)
  clear hi hfp
  have l1 : (0 : Int) ≤ (k : Int) := by omega
  have l2 : (k : Int) < ((L.length : Nat) : Int) := by omega
  have hbN : L.length ≤ 9223372036854775807 := by omega
  have HE0 := hid (fun (w3 : World) (val : Int) (u : Old w w3) (hv : val = max (atI L k).n n) => show PutPost base b most (.slice (some ⟨g, 0, none⟩) L.length cap) 0 (putL ⟨Fl.csU x y p q, Fl.csV x y p q, false, false, n⟩ L) w (.returned (.int .i64 0)) (w3.drew.setCell ⟨g, k * 5 + 4, none⟩ (.int .i64 val)) from by
    rw [HP.out, hv]
    have t3 := HT.out.old u.drew
    have hC : Chg [g] w3.drew (w3.drew.setCell ⟨g, k * 5 + 4, none⟩ (.int .i64 (max (atI L k).n n))) := Chg.set _ _ _ (by simp)
    have hbg : b ∉ [g] := by simp; exact fun e => hgne e.symm
    refine ⟨_, rfl, ⟨t3.1, hC.cell t3.2.1 hbg, hC.cell t3.2.2.1 hbg, hC.keepF t3.2.2.1 t3.2.2.2.1 hbg, t3.2.2.2.2.1.setN hpl _, t3.2.2.2.2.2⟩, (Chg.ofOld u.drew).trans (hC.mono fun k hk _ => by simp at hk; subst hk; simp [blks, Value.ownBlock]), fun k hk => .inl hk⟩)
  generalize hN : L.length = N at *
  go_enter Try.func7, Try.ntmps7
  go_upto_region 1 with fail
  generalize w.alloc (.cells #[.float .f64 x, .float .f64 y, .bool p, .bool q] 32) = w1 at *
  obtain ⟨s0, s1, s2, s3⟩ := HSp.out
  go_upto_region 8 with (first | (go_at_call 20; refine HF.out.mono ?_; rintro e w3 ⟨rfl, u3⟩; have U3 := hid (hV.out.trans u3); have SP3 := hid (SpAt.old u3 HSp.out); obtain ⟨r0, r1, r2, r3⟩ := SP3.out; clear u3) | (go_at_call 21; refine (HEm.out _).mono ?_; rintro e w4 ⟨rfl, u4⟩; have U4 := hid (U3.out.trans u4); have SP4 := hid (SpAt.old u4 SP3.out); clear u4))
  obtain ⟨tb, t0, hS, tf, tw, tn⟩ := HT.out.old U4.out
  obtain ⟨⟨c0, c1, c2, c3, c4⟩, cf⟩ := And.intro (HI.out.1.old U4.out) (U4.out.keepF HI.out.1.2.2.2.2 HI.out.2)
  clear tw tn t0 tf tb c0 c1 c2 c3 s0 s1 s2 s3 r0 r1 r2 r3
  generalize hq : (atI L k).n = u at *
  rcases (show u < n ∨ n ≤ u by omega) with hlt | hge
  · have HE := hid (HE0.out w4 n U4.out (by omega))
    have hS2 : (w4.drew.setCell ⟨g, k * 5 + 4, none⟩ (.int .i64 n)).cell? ⟨b, 1, none⟩ = some (.slice (some ⟨g, 0, none⟩) N cap) := by rw [World.cell?_setCell_other _ _ _ _ (by intro e; first | exact hgne (congrArg Addr.block e) | exact hgne (congrArg Addr.block e).symm)]; exact hS
    clear HE0
    refine wp_region_noPanic ?_
    refine wp_region_held_drew (S := fun W => W.cell? ⟨b, 1, none⟩ = some (.slice (some ⟨g, 0, none⟩) N cap)) (by kernel_rfl) ?_ (fun hHeld => ?_)
    · exact hS
    (try simp only [Act.put]); (try simp only [List.setIfInBounds_toArray]); (try simp only [List.set_cons_succ]); (try simp only [List.set_cons_zero])
    clear hHeld
    refine wpAnyH_take (i := 0) (oi := { dst := some 41, op := Op.move (Operand.tmp 0), type := 24, pos := "preds.go:41", after := #[], guard := none }) (v := ?vk1) rfl (by kernel_rfl) (by kernel_rfl) (by kernel_rfl) (fun _ _ _ h => h) (Or.inl ⟨by rfl, ?hk1⟩) hS ?rk1
    case hk1 => (intro wz hSw; (try dsimp only at hSw); go_simp; try with_reducible rfl)
    (try simp only [Act.put]); (try simp only [List.setIfInBounds_toArray]); (try simp only [List.set_cons_succ]); (try simp only [List.set_cons_zero])
    refine wpAnyH_take (i := 1) (oi := { dst := some 42, op := Op.nilCheck (Operand.tmp 41), type := 0, pos := "preds.go:41", after := #[{ on := 0, ground := Ground.data }], guard := none }) (v := ?vk2) rfl (by kernel_rfl) (by kernel_rfl) (by kernel_rfl) (fun _ _ _ h => h) (Or.inl ⟨by rfl, ?hk2⟩) hS ?rk2
    case hk2 => (intro wz hSw; (try dsimp only at hSw); go_simp; try with_reducible rfl)
    (try simp only [Act.put]); (try simp only [List.setIfInBounds_toArray]); (try simp only [List.set_cons_succ]); (try simp only [List.set_cons_zero])
    refine wpAnyH_take (i := 2) (oi := { dst := some 43, op := Op.fieldAddr 58 (Operand.tmp 42) 1, type := 0, pos := "preds.go:41", after := #[{ on := 1, ground := Ground.data }], guard := none }) (v := ?vk3) rfl (by kernel_rfl) (by kernel_rfl) (by kernel_rfl) (fun _ _ _ h => h) (Or.inl ⟨by rfl, ?hk3⟩) hS ?rk3
    case hk3 => (intro wz hSw; (try dsimp only at hSw); go_simp; try with_reducible rfl)
    (try simp only [Act.put]); (try simp only [List.setIfInBounds_toArray]); (try simp only [List.set_cons_succ]); (try simp only [List.set_cons_zero])
    refine wpAnyH_take (i := 3) (oi := { dst := some 44, op := Op.load 44 (Operand.tmp 43), type := 44, pos := "preds.go:41", after := #[{ on := 2, ground := Ground.data }], guard := none }) (v := ?vk4) rfl (by kernel_rfl) (by kernel_rfl) (by kernel_rfl) (fun _ _ _ h => h) (Or.inl ⟨by rfl, ?hk4⟩) hS ?rk4
    case hk4 => (intro wz hSw; (try dsimp only at hSw); go_simp; try with_reducible rfl)
    (try simp only [Act.put]); (try simp only [List.setIfInBounds_toArray]); (try simp only [List.set_cons_succ]); (try simp only [List.set_cons_zero])
    refine wpAnyH_take (i := 4) (oi := { dst := some 45, op := Op.move (Operand.tmp 7), type := 3, pos := "preds.go:41", after := #[], guard := none }) (v := ?vk5) rfl (by kernel_rfl) (by kernel_rfl) (by kernel_rfl) (fun _ _ _ h => h) (Or.inl ⟨by rfl, ?hk5⟩) hS ?rk5
    case hk5 => (intro wz hSw; (try dsimp only at hSw); go_simp; try with_reducible rfl)
    (try simp only [Act.put]); (try simp only [List.setIfInBounds_toArray]); (try simp only [List.set_cons_succ]); (try simp only [List.set_cons_zero])
    refine wpAnyH_take (i := 5) (oi := { dst := some 46, op := Op.move (Operand.tmp 0), type := 24, pos := "preds.go:41", after := #[], guard := none }) (v := ?vk6) rfl (by kernel_rfl) (by kernel_rfl) (by kernel_rfl) (fun _ _ _ h => h) (Or.inl ⟨by rfl, ?hk6⟩) hS ?rk6
    case hk6 => (intro wz hSw; (try dsimp only at hSw); go_simp; try with_reducible rfl)
    (try simp only [Act.put]); (try simp only [List.setIfInBounds_toArray]); (try simp only [List.set_cons_succ]); (try simp only [List.set_cons_zero])
    refine wpAnyH_take (i := 6) (oi := { dst := some 47, op := Op.nilCheck (Operand.tmp 46), type := 0, pos := "preds.go:41", after := #[{ on := 5, ground := Ground.data }], guard := none }) (v := ?vk7) rfl (by kernel_rfl) (by kernel_rfl) (by kernel_rfl) (fun _ _ _ h => h) (Or.inl ⟨by rfl, ?hk7⟩) hS ?rk7
    case hk7 => (intro wz hSw; (try dsimp only at hSw); go_simp; try with_reducible rfl)
    (try simp only [Act.put]); (try simp only [List.setIfInBounds_toArray]); (try simp only [List.set_cons_succ]); (try simp only [List.set_cons_zero])
    refine wpAnyH_take (i := 7) (oi := { dst := some 48, op := Op.fieldAddr 58 (Operand.tmp 47) 1, type := 0, pos := "preds.go:41", after := #[{ on := 6, ground := Ground.data }], guard := none }) (v := ?vk8) rfl (by kernel_rfl) (by kernel_rfl) (by kernel_rfl) (fun _ _ _ h => h) (Or.inl ⟨by rfl, ?hk8⟩) hS ?rk8
    case hk8 => (intro wz hSw; (try dsimp only at hSw); go_simp; try with_reducible rfl)
    (try simp only [Act.put]); (try simp only [List.setIfInBounds_toArray]); (try simp only [List.set_cons_succ]); (try simp only [List.set_cons_zero])
    refine wpAnyH_take (i := 8) (oi := { dst := some 49, op := Op.load 44 (Operand.tmp 48), type := 44, pos := "preds.go:41", after := #[{ on := 7, ground := Ground.data }], guard := none }) (v := ?vk9) rfl (by kernel_rfl) (by kernel_rfl) (by kernel_rfl) (fun _ _ _ h => h) (Or.inl ⟨by rfl, ?hk9⟩) hS ?rk9
    case hk9 => (intro wz hSw; (try dsimp only at hSw); go_simp; try with_reducible rfl)
    (try simp only [Act.put]); (try simp only [List.setIfInBounds_toArray]); (try simp only [List.set_cons_succ]); (try simp only [List.set_cons_zero])
    refine wpAnyH_take (i := 9) (oi := { dst := some 50, op := Op.move (Operand.tmp 7), type := 3, pos := "preds.go:41", after := #[], guard := none }) (v := ?vk10) rfl (by kernel_rfl) (by kernel_rfl) (by kernel_rfl) (fun _ _ _ h => h) (Or.inl ⟨by rfl, ?hk10⟩) hS ?rk10
    case hk10 => (intro wz hSw; (try dsimp only at hSw); go_simp; try with_reducible rfl)
    (try simp only [Act.put]); (try simp only [List.setIfInBounds_toArray]); (try simp only [List.set_cons_succ]); (try simp only [List.set_cons_zero])
    refine wpAnyH_take (i := 10) (oi := { dst := some 51, op := Op.indexAddr 44 (Operand.tmp 49) (Operand.tmp 50), type := 0, pos := "preds.go:41", after := #[{ on := 8, ground := Ground.data }, { on := 9, ground := Ground.data }], guard := none }) (v := ?vk11) rfl (by kernel_rfl) (by kernel_rfl) (by kernel_rfl) (fun _ _ _ h => h) (Or.inl ⟨by rfl, ?hk11⟩) hS ?rk11
    case hk11 => (intro wz hSw; (try dsimp only at hSw); go_simp; try with_reducible rfl)
    (try simp only [Act.put]); (try simp only [List.setIfInBounds_toArray]); (try simp only [List.set_cons_succ]); (try simp only [List.set_cons_zero])
    refine wpAnyH_take (i := 11) (oi := { dst := some 52, op := Op.fieldAddr 49 (Operand.tmp 51) 1, type := 0, pos := "preds.go:41", after := #[{ on := 10, ground := Ground.data }], guard := none }) (v := ?vk12) rfl (by kernel_rfl) (by kernel_rfl) (by kernel_rfl) (fun _ _ _ h => h) (Or.inl ⟨by rfl, ?hk12⟩) hS ?rk12
    case hk12 => (intro wz hSw; (try dsimp only at hSw); go_simp; try with_reducible rfl)
    (try simp only [Act.put]); (try simp only [List.setIfInBounds_toArray]); (try simp only [List.set_cons_succ]); (try simp only [List.set_cons_zero])
    refine wpAnyH_take (i := 13) (oi := { dst := some 54, op := Op.move (Operand.tmp 2), type := 2, pos := "preds.go:41", after := #[], guard := none }) (v := ?vk13) rfl (by kernel_rfl) (by kernel_rfl) (by kernel_rfl) (fun _ _ _ h => h) (Or.inl ⟨by rfl, ?hk13⟩) hS ?rk13
    case hk13 => (intro wz hSw; (try dsimp only at hSw); go_simp; try with_reducible rfl)
    (try simp only [Act.put]); (try simp only [List.setIfInBounds_toArray]); (try simp only [List.set_cons_succ]); (try simp only [List.set_cons_zero])
    refine wpAnyH_ready (rs := [12]) (by kernel_rfl) (by simp) ?_
    refine AllReadyH.cons (o := { dst := some 53, op := Op.load 2 (Operand.tmp 52), type := 2, pos := "preds.go:41", after := #[{ on := 11, ground := Ground.data }], guard := none }) rfl (fun K hK => ?_) AllReadyH.nil
    · skip
      refine stepLoadN ?_ (.tmp 52) ?_ g (k * 5 + 4) u ?_ c4 ?_
      · rfl
      · rfl
      · rfl
      refine hK.out _ _ hS (fun _ => ?_)
      clear hK K
      (try simp only [Act.put]); (try simp only [List.setIfInBounds_toArray]); (try simp only [List.set_cons_succ]); (try simp only [List.set_cons_zero])
      refine wpAnyH_take (i := 14) (oi := { dst := some 55, op := Op.call { callee := Callee.builtin Builtin.max, args := #[Operand.tmp 53, Operand.tmp 54], argTypes := #[2, 2] }, type := 2, pos := "preds.go:41", after := #[{ on := 12, ground := Ground.data }, { on := 13, ground := Ground.data }], guard := none }) (v := ?vk14) rfl (by kernel_rfl) (by kernel_rfl) (by kernel_rfl) (fun _ _ _ h => h) (Or.inl ⟨by rfl, ?hk14⟩) hS ?rk14
      case hk14 => (intro wz hSw; (try dsimp only at hSw); go_simp; try with_reducible rfl)
      (try simp only [Act.put]); (try simp only [List.setIfInBounds_toArray]); (try simp only [List.set_cons_succ]); (try simp only [List.set_cons_zero])
      refine wpAnyH_take (i := 15) (oi := { dst := some 56, op := Op.indexAddr 44 (Operand.tmp 44) (Operand.tmp 45), type := 0, pos := "preds.go:41", after := #[{ on := 3, ground := Ground.data }, { on := 4, ground := Ground.data }, { on := 0, ground := Ground.phase }, { on := 1, ground := Ground.phase }, { on := 2, ground := Ground.phase }, { on := 3, ground := Ground.phase }, { on := 4, ground := Ground.phase }, { on := 5, ground := Ground.phase }, { on := 6, ground := Ground.phase }, { on := 7, ground := Ground.phase }, { on := 8, ground := Ground.phase }, { on := 9, ground := Ground.phase }, { on := 10, ground := Ground.phase }, { on := 11, ground := Ground.phase }, { on := 12, ground := Ground.phase }, { on := 13, ground := Ground.phase }, { on := 14, ground := Ground.phase }], guard := none }) (v := ?vk15) rfl (by kernel_rfl) (by kernel_rfl) (by kernel_rfl) (fun _ _ _ h => h) (Or.inl ⟨by rfl, ?hk15⟩) hS ?rk15
      case hk15 => (intro wz hSw; (try dsimp only at hSw); go_simp; try with_reducible rfl)
      (try simp only [Act.put]); (try simp only [List.setIfInBounds_toArray]); (try simp only [List.set_cons_succ]); (try simp only [List.set_cons_zero])
      refine wpAnyH_take (i := 16) (oi := { dst := some 57, op := Op.fieldAddr 49 (Operand.tmp 56) 1, type := 0, pos := "preds.go:41", after := #[{ on := 15, ground := Ground.data }, { on := 0, ground := Ground.phase }, { on := 1, ground := Ground.phase }, { on := 2, ground := Ground.phase }, { on := 3, ground := Ground.phase }, { on := 4, ground := Ground.phase }, { on := 5, ground := Ground.phase }, { on := 6, ground := Ground.phase }, { on := 7, ground := Ground.phase }, { on := 8, ground := Ground.phase }, { on := 9, ground := Ground.phase }, { on := 10, ground := Ground.phase }, { on := 11, ground := Ground.phase }, { on := 12, ground := Ground.phase }, { on := 13, ground := Ground.phase }, { on := 14, ground := Ground.phase }], guard := none }) (v := ?vk16) rfl (by kernel_rfl) (by kernel_rfl) (by kernel_rfl) (fun _ _ _ h => h) (Or.inl ⟨by rfl, ?hk16⟩) hS ?rk16
      case hk16 => (intro wz hSw; (try dsimp only at hSw); go_simp; try with_reducible rfl)
      (try simp only [Act.put]); (try simp only [List.setIfInBounds_toArray]); (try simp only [List.set_cons_succ]); (try simp only [List.set_cons_zero])
      refine wpAnyH_ready (rs := [17]) (by kernel_rfl) (by simp) ?_
      refine AllReadyH.cons (o := { dst := none, op := Op.store 2 (Operand.tmp 57) (Operand.tmp 55), type := 0, pos := "preds.go:41", after := #[{ on := 16, ground := Ground.data }, { on := 14, ground := Ground.data }, { on := 0, ground := Ground.phase }, { on := 1, ground := Ground.phase }, { on := 2, ground := Ground.phase }, { on := 3, ground := Ground.phase }, { on := 4, ground := Ground.phase }, { on := 5, ground := Ground.phase }, { on := 6, ground := Ground.phase }, { on := 7, ground := Ground.phase }, { on := 8, ground := Ground.phase }, { on := 9, ground := Ground.phase }, { on := 10, ground := Ground.phase }, { on := 11, ground := Ground.phase }, { on := 12, ground := Ground.phase }, { on := 13, ground := Ground.phase }, { on := 14, ground := Ground.phase }], guard := none }) rfl (fun K hK => ?_) AllReadyH.nil
      · skip
        refine stepStoreN ?_ (.tmp 57) (.tmp 55) ?_ g (k * 5 + 4) n ?_ ?_ c4 cf ?_
        · rfl
        · rfl
        · rfl
        · rfl
        refine hK.out _ _ hS2 (fun _ => ?_)
        clear hK K
        (try simp only [Act.put]); (try simp only [List.setIfInBounds_toArray]); (try simp only [List.set_cons_succ]); (try simp only [List.set_cons_zero])
        refine wpAnyH_done (by kernel_rfl) ?_ _
        refine NoPanic.normal ?_
        go_wp2
        exact bodyPost_ret (v := .int .i64 0) (by simp [results, Try.results7, go_sem]) rfl HE.out

  · have hge2 : ¬ u < n := by omega
    have HE := hid (HE0.out w4 u U4.out (by omega))
    have hS2 : (w4.drew.setCell ⟨g, k * 5 + 4, none⟩ (.int .i64 u)).cell? ⟨b, 1, none⟩ = some (.slice (some ⟨g, 0, none⟩) N cap) := by rw [World.cell?_setCell_other _ _ _ _ (by intro e; first | exact hgne (congrArg Addr.block e) | exact hgne (congrArg Addr.block e).symm)]; exact hS
    clear HE0
    refine wp_region_noPanic ?_
    refine wp_region_held_drew (S := fun W => W.cell? ⟨b, 1, none⟩ = some (.slice (some ⟨g, 0, none⟩) N cap)) (by kernel_rfl) ?_ (fun hHeld => ?_)
    · exact hS
    (try simp only [Act.put]); (try simp only [List.setIfInBounds_toArray]); (try simp only [List.set_cons_succ]); (try simp only [List.set_cons_zero])
    clear hHeld
    refine wpAnyH_take (i := 0) (oi := { dst := some 41, op := Op.move (Operand.tmp 0), type := 24, pos := "preds.go:41", after := #[], guard := none }) (v := ?vk17) rfl (by kernel_rfl) (by kernel_rfl) (by kernel_rfl) (fun _ _ _ h => h) (Or.inl ⟨by rfl, ?hk17⟩) hS ?rk17
    case hk17 => (intro wz hSw; (try dsimp only at hSw); go_simp; try with_reducible rfl)
    (try simp only [Act.put]); (try simp only [List.setIfInBounds_toArray]); (try simp only [List.set_cons_succ]); (try simp only [List.set_cons_zero])
    refine wpAnyH_take (i := 1) (oi := { dst := some 42, op := Op.nilCheck (Operand.tmp 41), type := 0, pos := "preds.go:41", after := #[{ on := 0, ground := Ground.data }], guard := none }) (v := ?vk18) rfl (by kernel_rfl) (by kernel_rfl) (by kernel_rfl) (fun _ _ _ h => h) (Or.inl ⟨by rfl, ?hk18⟩) hS ?rk18
    case hk18 => (intro wz hSw; (try dsimp only at hSw); go_simp; try with_reducible rfl)
    (try simp only [Act.put]); (try simp only [List.setIfInBounds_toArray]); (try simp only [List.set_cons_succ]); (try simp only [List.set_cons_zero])
    refine wpAnyH_take (i := 2) (oi := { dst := some 43, op := Op.fieldAddr 58 (Operand.tmp 42) 1, type := 0, pos := "preds.go:41", after := #[{ on := 1, ground := Ground.data }], guard := none }) (v := ?vk19) rfl (by kernel_rfl) (by kernel_rfl) (by kernel_rfl) (fun _ _ _ h => h) (Or.inl ⟨by rfl, ?hk19⟩) hS ?rk19
    case hk19 => (intro wz hSw; (try dsimp only at hSw); go_simp; try with_reducible rfl)
    (try simp only [Act.put]); (try simp only [List.setIfInBounds_toArray]); (try simp only [List.set_cons_succ]); (try simp only [List.set_cons_zero])
    refine wpAnyH_take (i := 3) (oi := { dst := some 44, op := Op.load 44 (Operand.tmp 43), type := 44, pos := "preds.go:41", after := #[{ on := 2, ground := Ground.data }], guard := none }) (v := ?vk20) rfl (by kernel_rfl) (by kernel_rfl) (by kernel_rfl) (fun _ _ _ h => h) (Or.inl ⟨by rfl, ?hk20⟩) hS ?rk20
    case hk20 => (intro wz hSw; (try dsimp only at hSw); go_simp; try with_reducible rfl)
    (try simp only [Act.put]); (try simp only [List.setIfInBounds_toArray]); (try simp only [List.set_cons_succ]); (try simp only [List.set_cons_zero])
    refine wpAnyH_take (i := 4) (oi := { dst := some 45, op := Op.move (Operand.tmp 7), type := 3, pos := "preds.go:41", after := #[], guard := none }) (v := ?vk21) rfl (by kernel_rfl) (by kernel_rfl) (by kernel_rfl) (fun _ _ _ h => h) (Or.inl ⟨by rfl, ?hk21⟩) hS ?rk21
    case hk21 => (intro wz hSw; (try dsimp only at hSw); go_simp; try with_reducible rfl)
    (try simp only [Act.put]); (try simp only [List.setIfInBounds_toArray]); (try simp only [List.set_cons_succ]); (try simp only [List.set_cons_zero])
    refine wpAnyH_take (i := 5) (oi := { dst := some 46, op := Op.move (Operand.tmp 0), type := 24, pos := "preds.go:41", after := #[], guard := none }) (v := ?vk22) rfl (by kernel_rfl) (by kernel_rfl) (by kernel_rfl) (fun _ _ _ h => h) (Or.inl ⟨by rfl, ?hk22⟩) hS ?rk22
    case hk22 => (intro wz hSw; (try dsimp only at hSw); go_simp; try with_reducible rfl)
    (try simp only [Act.put]); (try simp only [List.setIfInBounds_toArray]); (try simp only [List.set_cons_succ]); (try simp only [List.set_cons_zero])
    refine wpAnyH_take (i := 6) (oi := { dst := some 47, op := Op.nilCheck (Operand.tmp 46), type := 0, pos := "preds.go:41", after := #[{ on := 5, ground := Ground.data }], guard := none }) (v := ?vk23) rfl (by kernel_rfl) (by kernel_rfl) (by kernel_rfl) (fun _ _ _ h => h) (Or.inl ⟨by rfl, ?hk23⟩) hS ?rk23
    case hk23 => (intro wz hSw; (try dsimp only at hSw); go_simp; try with_reducible rfl)
    (try simp only [Act.put]); (try simp only [List.setIfInBounds_toArray]); (try simp only [List.set_cons_succ]); (try simp only [List.set_cons_zero])
    refine wpAnyH_take (i := 7) (oi := { dst := some 48, op := Op.fieldAddr 58 (Operand.tmp 47) 1, type := 0, pos := "preds.go:41", after := #[{ on := 6, ground := Ground.data }], guard := none }) (v := ?vk24) rfl (by kernel_rfl) (by kernel_rfl) (by kernel_rfl) (fun _ _ _ h => h) (Or.inl ⟨by rfl, ?hk24⟩) hS ?rk24
    case hk24 => (intro wz hSw; (try dsimp only at hSw); go_simp; try with_reducible rfl)
    (try simp only [Act.put]); (try simp only [List.setIfInBounds_toArray]); (try simp only [List.set_cons_succ]); (try simp only [List.set_cons_zero])
    refine wpAnyH_take (i := 8) (oi := { dst := some 49, op := Op.load 44 (Operand.tmp 48), type := 44, pos := "preds.go:41", after := #[{ on := 7, ground := Ground.data }], guard := none }) (v := ?vk25) rfl (by kernel_rfl) (by kernel_rfl) (by kernel_rfl) (fun _ _ _ h => h) (Or.inl ⟨by rfl, ?hk25⟩) hS ?rk25
    case hk25 => (intro wz hSw; (try dsimp only at hSw); go_simp; try with_reducible rfl)
    (try simp only [Act.put]); (try simp only [List.setIfInBounds_toArray]); (try simp only [List.set_cons_succ]); (try simp only [List.set_cons_zero])
    refine wpAnyH_take (i := 9) (oi := { dst := some 50, op := Op.move (Operand.tmp 7), type := 3, pos := "preds.go:41", after := #[], guard := none }) (v := ?vk26) rfl (by kernel_rfl) (by kernel_rfl) (by kernel_rfl) (fun _ _ _ h => h) (Or.inl ⟨by rfl, ?hk26⟩) hS ?rk26
    case hk26 => (intro wz hSw; (try dsimp only at hSw); go_simp; try with_reducible rfl)
    (try simp only [Act.put]); (try simp only [List.setIfInBounds_toArray]); (try simp only [List.set_cons_succ]); (try simp only [List.set_cons_zero])
    refine wpAnyH_take (i := 10) (oi := { dst := some 51, op := Op.indexAddr 44 (Operand.tmp 49) (Operand.tmp 50), type := 0, pos := "preds.go:41", after := #[{ on := 8, ground := Ground.data }, { on := 9, ground := Ground.data }], guard := none }) (v := ?vk27) rfl (by kernel_rfl) (by kernel_rfl) (by kernel_rfl) (fun _ _ _ h => h) (Or.inl ⟨by rfl, ?hk27⟩) hS ?rk27
    case hk27 => (intro wz hSw; (try dsimp only at hSw); go_simp; try with_reducible rfl)
    (try simp only [Act.put]); (try simp only [List.setIfInBounds_toArray]); (try simp only [List.set_cons_succ]); (try simp only [List.set_cons_zero])
    refine wpAnyH_take (i := 11) (oi := { dst := some 52, op := Op.fieldAddr 49 (Operand.tmp 51) 1, type := 0, pos := "preds.go:41", after := #[{ on := 10, ground := Ground.data }], guard := none }) (v := ?vk28) rfl (by kernel_rfl) (by kernel_rfl) (by kernel_rfl) (fun _ _ _ h => h) (Or.inl ⟨by rfl, ?hk28⟩) hS ?rk28
    case hk28 => (intro wz hSw; (try dsimp only at hSw); go_simp; try with_reducible rfl)
    (try simp only [Act.put]); (try simp only [List.setIfInBounds_toArray]); (try simp only [List.set_cons_succ]); (try simp only [List.set_cons_zero])
    refine wpAnyH_take (i := 13) (oi := { dst := some 54, op := Op.move (Operand.tmp 2), type := 2, pos := "preds.go:41", after := #[], guard := none }) (v := ?vk29) rfl (by kernel_rfl) (by kernel_rfl) (by kernel_rfl) (fun _ _ _ h => h) (Or.inl ⟨by rfl, ?hk29⟩) hS ?rk29
    case hk29 => (intro wz hSw; (try dsimp only at hSw); go_simp; try with_reducible rfl)
    (try simp only [Act.put]); (try simp only [List.setIfInBounds_toArray]); (try simp only [List.set_cons_succ]); (try simp only [List.set_cons_zero])
    refine wpAnyH_ready (rs := [12]) (by kernel_rfl) (by simp) ?_
    refine AllReadyH.cons (o := { dst := some 53, op := Op.load 2 (Operand.tmp 52), type := 2, pos := "preds.go:41", after := #[{ on := 11, ground := Ground.data }], guard := none }) rfl (fun K hK => ?_) AllReadyH.nil
    · skip
      refine stepLoadN ?_ (.tmp 52) ?_ g (k * 5 + 4) u ?_ c4 ?_
      · rfl
      · rfl
      · rfl
      refine hK.out _ _ hS (fun _ => ?_)
      clear hK K
      (try simp only [Act.put]); (try simp only [List.setIfInBounds_toArray]); (try simp only [List.set_cons_succ]); (try simp only [List.set_cons_zero])
      refine wpAnyH_take (i := 14) (oi := { dst := some 55, op := Op.call { callee := Callee.builtin Builtin.max, args := #[Operand.tmp 53, Operand.tmp 54], argTypes := #[2, 2] }, type := 2, pos := "preds.go:41", after := #[{ on := 12, ground := Ground.data }, { on := 13, ground := Ground.data }], guard := none }) (v := ?vk30) rfl (by kernel_rfl) (by kernel_rfl) (by kernel_rfl) (fun _ _ _ h => h) (Or.inl ⟨by rfl, ?hk30⟩) hS ?rk30
      case hk30 => (intro wz hSw; (try dsimp only at hSw); go_simp; try with_reducible rfl)
      (try simp only [Act.put]); (try simp only [List.setIfInBounds_toArray]); (try simp only [List.set_cons_succ]); (try simp only [List.set_cons_zero])
      refine wpAnyH_take (i := 15) (oi := { dst := some 56, op := Op.indexAddr 44 (Operand.tmp 44) (Operand.tmp 45), type := 0, pos := "preds.go:41", after := #[{ on := 3, ground := Ground.data }, { on := 4, ground := Ground.data }, { on := 0, ground := Ground.phase }, { on := 1, ground := Ground.phase }, { on := 2, ground := Ground.phase }, { on := 3, ground := Ground.phase }, { on := 4, ground := Ground.phase }, { on := 5, ground := Ground.phase }, { on := 6, ground := Ground.phase }, { on := 7, ground := Ground.phase }, { on := 8, ground := Ground.phase }, { on := 9, ground := Ground.phase }, { on := 10, ground := Ground.phase }, { on := 11, ground := Ground.phase }, { on := 12, ground := Ground.phase }, { on := 13, ground := Ground.phase }, { on := 14, ground := Ground.phase }], guard := none }) (v := ?vk31) rfl (by kernel_rfl) (by kernel_rfl) (by kernel_rfl) (fun _ _ _ h => h) (Or.inl ⟨by rfl, ?hk31⟩) hS ?rk31
      case hk31 => (intro wz hSw; (try dsimp only at hSw); go_simp; try with_reducible rfl)
      (try simp only [Act.put]); (try simp only [List.setIfInBounds_toArray]); (try simp only [List.set_cons_succ]); (try simp only [List.set_cons_zero])
      refine wpAnyH_take (i := 16) (oi := { dst := some 57, op := Op.fieldAddr 49 (Operand.tmp 56) 1, type := 0, pos := "preds.go:41", after := #[{ on := 15, ground := Ground.data }, { on := 0, ground := Ground.phase }, { on := 1, ground := Ground.phase }, { on := 2, ground := Ground.phase }, { on := 3, ground := Ground.phase }, { on := 4, ground := Ground.phase }, { on := 5, ground := Ground.phase }, { on := 6, ground := Ground.phase }, { on := 7, ground := Ground.phase }, { on := 8, ground := Ground.phase }, { on := 9, ground := Ground.phase }, { on := 10, ground := Ground.phase }, { on := 11, ground := Ground.phase }, { on := 12, ground := Ground.phase }, { on := 13, ground := Ground.phase }, { on := 14, ground := Ground.phase }], guard := none }) (v := ?vk32) rfl (by kernel_rfl) (by kernel_rfl) (by kernel_rfl) (fun _ _ _ h => h) (Or.inl ⟨by rfl, ?hk32⟩) hS ?rk32
      case hk32 => (intro wz hSw; (try dsimp only at hSw); go_simp; try with_reducible rfl)
      (try simp only [Act.put]); (try simp only [List.setIfInBounds_toArray]); (try simp only [List.set_cons_succ]); (try simp only [List.set_cons_zero])
      refine wpAnyH_ready (rs := [17]) (by kernel_rfl) (by simp) ?_
      refine AllReadyH.cons (o := { dst := none, op := Op.store 2 (Operand.tmp 57) (Operand.tmp 55), type := 0, pos := "preds.go:41", after := #[{ on := 16, ground := Ground.data }, { on := 14, ground := Ground.data }, { on := 0, ground := Ground.phase }, { on := 1, ground := Ground.phase }, { on := 2, ground := Ground.phase }, { on := 3, ground := Ground.phase }, { on := 4, ground := Ground.phase }, { on := 5, ground := Ground.phase }, { on := 6, ground := Ground.phase }, { on := 7, ground := Ground.phase }, { on := 8, ground := Ground.phase }, { on := 9, ground := Ground.phase }, { on := 10, ground := Ground.phase }, { on := 11, ground := Ground.phase }, { on := 12, ground := Ground.phase }, { on := 13, ground := Ground.phase }, { on := 14, ground := Ground.phase }], guard := none }) rfl (fun K hK => ?_) AllReadyH.nil
      · skip
        refine stepStoreN ?_ (.tmp 57) (.tmp 55) ?_ g (k * 5 + 4) u ?_ ?_ c4 cf ?_
        · rfl
        · rfl
        · rfl
        · rfl
        refine hK.out _ _ hS2 (fun _ => ?_)
        clear hK K
        (try simp only [Act.put]); (try simp only [List.setIfInBounds_toArray]); (try simp only [List.set_cons_succ]); (try simp only [List.set_cons_zero])
        refine wpAnyH_done (by kernel_rfl) ?_ _
        refine NoPanic.normal ?_
        go_wp2
        exact bodyPost_ret (v := .int .i64 0) (by simp [results, Try.results7, go_sem]) rfl HE.out

set_option maxHeartbeats 4000000 in
set_option maxRecDepth 20000 in
theorem put_full (base b : Nat) (most n : Int) (v : Value) (L : List It) (x y : Nat) (p q : Bool) (hx : Fl.W x) (hy : Fl.W y) (w : World) (h : TabAt base w b most v L) (hG : Good L) (hL : L.length ≤ 1000000) (hE : Fl.csE x y p q = false) (h1 : ¬ n < 1) (h2 : ¬ 1099511627776 < n) (ht : there (skc x y p q) L = false) (hm : most ≤ (L.length : Int)) :
    Calls Try.prog 7 #[.pointer (some ⟨b, 0, none⟩), .agg #[.float .f64 x, .float .f64 y, .bool p, .bool q], .int .i64 n] w fun e w' => PutPost base b most v 3 L w e w' := by
  have hV := hid ((Old.refl w).alloc (.cells #[.float .f64 x, .float .f64 y, .bool p, .bool q] 32))
  have HSp := hid (show SpAt w.heap.size x y p q (w.alloc (.cells #[.float .f64 x, .float .f64 y, .bool p, .bool q] 32)) by simp [SpAt])
  have HT1 := hid (h.old hV.out)
  have HF := hid (find_t base b most v L x y p q hx hy _ HT1.out hG hL)
  have HEm := hid (fun W => empty_old x y hx hy p q W)
  rw [hE] at HEm
  rw [ht] at HF
  have HE := hid (fun w' (u : Old w w') => putPost_same (code := 3) h u)
  have HT := hid h
  obtain ⟨a, c, hv⟩ := h.2.2.2.2.1.len
  subst hv
  clear h hG ht hE HT1
  generalize pos (skc x y p q) L = k at *
  generalize hN : L.length = N at *
  go_enter Try.func7, Try.ntmps7
  go_upto_region 1 with fail
  generalize w.alloc (.cells #[.float .f64 x, .float .f64 y, .bool p, .bool q] 32) = w1 at *
  obtain ⟨s0, s1, s2, s3⟩ := HSp.out
  go_upto_region 9 with (first | (go_at_call 20; refine HF.out.mono ?_; rintro e w3 ⟨rfl, u3⟩; have U3 := hid (hV.out.trans u3); have SP3 := hid (SpAt.old u3 HSp.out); obtain ⟨r0, r1, r2, r3⟩ := SP3.out; clear u3) | (go_at_call 21; refine (HEm.out _).mono ?_; rintro e w4 ⟨rfl, u4⟩; have U4 := hid (U3.out.trans u4); have SP4 := hid (SpAt.old u4 SP3.out); clear u4))
  obtain ⟨tb, t0, hS, tf, tw, tn⟩ := HT.out.old U4.out
  clear tw tn tf tb s0 s1 s2 s3 r0 r1 r2 r3
  have hle : decide ((most : Int) ≤ (N : Int)) = true := by simpa using hm
  go_quiet (fail)
  go_wp2
  exact bodyPost_ret (v := .int .i64 3) (by simp [results, Try.results7, go_sem]) rfl (HE.out _ (U4.out.drewN _))
set_option maxHeartbeats 8000000 in
set_option maxRecDepth 20000 in
theorem put_new (base b : Nat) (most n : Int) (v : Value) (L : List It) (x y : Nat) (p q : Bool) (hx : Fl.W x) (hy : Fl.W y) (w : World) (h : TabAt base w b most v L) (hG : Good L) (hL : L.length ≤ 1000000) (hE : Fl.csE x y p q = false) (h1 : ¬ n < 1) (h2 : ¬ 1099511627776 < n) (ht : there (skc x y p q) L = false) (hm : (L.length : Int) < most) :
    Calls Try.prog 7 #[.pointer (some ⟨b, 0, none⟩), .agg #[.float .f64 x, .float .f64 y, .bool p, .bool q], .int .i64 n] w fun e w' => PutPost base b most v 0 (putL ⟨Fl.csU x y p q, Fl.csV x y p q, false, false, n⟩ L) w e w' := by
  have hV := hid ((Old.refl w).alloc (.cells #[.float .f64 x, .float .f64 y, .bool p, .bool q] 32))
  have HSp := hid (show SpAt w.heap.size x y p q (w.alloc (.cells #[.float .f64 x, .float .f64 y, .bool p, .bool q] 32)) by simp [SpAt])
  have HT1 := hid (h.old hV.out)
  have HF := hid (find_t base b most v L x y p q hx hy _ HT1.out hG hL)
  have HEm := hid (fun W => empty_old x y hx hy p q W)
  rw [hE] at HEm
  rw [ht] at HF
  have hput := put_ins ⟨Fl.csU x y p q, Fl.csV x y p q, false, false, n⟩ L hG.1 (by rw [kc_new x y p q n hE]; intro e; simp [there, e.1, e.2] at ht)
  rw [kc_new x y p q n hE] at hput
  have hpl := pos_le (skc x y p q) L
  have hbase : base ≤ w.heap.size := by have := h.1; have := h.lt; omega
  have HT := hid h
  obtain ⟨a, c, hv⟩ := h.2.2.2.2.1.len
  have HP := hid hput
  have HCn := hid (fun W => (canonS_any x y hx hy p q W).mono fun e w' hh => (⟨hh.1, hh.2.old⟩ : _ ∧ Old W w'))
  rw [hE] at HCn
  clear ht hput hE HT1
  generalize pos (skc x y p q) L = k at *
  have HIns := hid (fun (W : World) (m : Nat) (u : Old w W) (hm' : W.heap[m]? = some (.cells (itc ⟨Fl.csU x y p q, Fl.csV x y p q, false, false, n⟩).toArray 49 (0, 0))) (hmg : w.heap.size ≤ m) => insert_any base v L k ⟨Fl.csU x y p q, Fl.csV x y p q, false, false, n⟩ m W hL hpl (h.2.2.2.2.1.old u) hm' (fun e => by have := (h.2.2.2.2.1.lt _ e).2; omega) (Nat.le_trans hbase u.size))
  have HFin := hid (fun (x' y' : World) (v' : Value) (u : Old w x') (o : Own base y' v' (L.take k ++ ⟨Fl.csU x y p q, Fl.csV x y p q, false, false, n⟩ :: L.drop k)) (cg : Chg v.ownBlock.toList x' y') (hn' : ∀ g, v'.ownBlock = some g → v.ownBlock = some g ∨ x'.heap.size ≤ g) => show y'.cell? ⟨b, 1, none⟩ = some v ∧ y'.frozen? ⟨b, 1, none⟩ = false ∧ PutPost base b most v 0 (putL ⟨Fl.csU x y p q, Fl.csV x y p q, false, false, n⟩ L) w (.returned (.int .i64 0)) (y'.setCell ⟨b, 1, none⟩ v') from by
    have tx := h.old u
    have hb : b ∉ v.ownBlock.toList := fun e => h.2.2.2.2.2 (by simpa [Option.mem_toList] using e)
    obtain ⟨s1, s2⟩ := tx.store cg o hn'
    refine ⟨cg.cell tx.2.2.1 hb, cg.keepF tx.2.2.1 tx.2.2.2.1 hb, ?_⟩
    rw [HP.out]
    exact ⟨v', rfl, s1, (Chg.ofOld u).trans s2, fun k hk => by rcases hn' k hk with q | q; exact .inl q; exact .inr (Nat.le_trans u.size q)⟩)
  have HOwn := hid (fun g (e : v.ownBlock = some g) => (h.2.2.2.2.1.lt g e).2)
  have hblt := h.lt
  subst hv
  clear h hG
  generalize hN : L.length = N at *
  go_enter Try.func7, Try.ntmps7
  go_upto_region 1 with fail
  generalize w.alloc (.cells #[.float .f64 x, .float .f64 y, .bool p, .bool q] 32) = w1 at *
  obtain ⟨s0, s1, s2, s3⟩ := HSp.out
  go_upto_region 9 with (first | (go_at_call 20; refine HF.out.mono ?_; rintro e w3 ⟨rfl, u3⟩; have U3 := hid (hV.out.trans u3); have SP3 := hid (SpAt.old u3 HSp.out); obtain ⟨r0, r1, r2, r3⟩ := SP3.out; clear u3) | (go_at_call 21; refine (HEm.out _).mono ?_; rintro e w4 ⟨rfl, u4⟩; have U4 := hid (U3.out.trans u4); have SP4 := hid (SpAt.old u4 SP3.out); clear u4))
  obtain ⟨tb, t0, hv, tf, tw, tn⟩ := HT.out.old U4.out
  clear tw tn tf tb s0 s1 s2 s3 r0 r1 r2 r3
  have hle : decide ((most : Int) ≤ (N : Int)) = false := by simpa using hm
  go_quiet (fail)
  have U6 := hid (U4.out.drewN nq)
  have SP6 := hid (SpAt.old ((Old.refl w4).drewN nq) SP4.out)
  have hv6 : (w4.drewN nq).cell? ⟨b, 1, none⟩ = some (.slice a N c) := hv
  generalize w4.drewN nq = w6 at *
  generalize hsb : w.heap.size = sb at *
  have hsbb : sb ≠ b := by omega
  have HSpC := hid (fun (x' y' : World) (u : Old w6 x') (cg : Chg (Value.slice a N c).ownBlock.toList x' y') => show SpAt sb x y p q y' from by
    have t := SpAt.old u SP6.out
    have hn : sb ∉ (Value.slice a N c).ownBlock.toList := fun e => by have := HOwn.out sb (by simpa [Option.mem_toList] using e); omega
    exact ⟨cg.cell t.1 hn, cg.cell t.2.1 hn, cg.cell t.2.2.1 hn, cg.cell t.2.2.2 hn⟩)
  clear hv t0 U3 U4 HT HF HP SP3 SP4 hle
  rw [← hsb] at HIns
  go_upto_region 2 with fail
  refine wp_region_noPanic ?_
  refine wp_region_held_drew (S := SpAt sb x y p q) (by kernel_rfl) ?_ (fun hHeld => ?_)
  · exact SpAt.old ((Old.refl w6).drew) SP6.out
  (try simp only [Act.put]); (try simp only [List.setIfInBounds_toArray]); (try simp only [List.set_cons_succ]); (try simp only [List.set_cons_zero])
  clear hHeld
  refine wpAnyH_take (i := 0) (oi := { dst := some 15, op := Op.move (Operand.tmp 0), type := 24, pos := "preds.go:45", after := #[], guard := none }) (v := ?vk33) rfl (by kernel_rfl) (by kernel_rfl) (by kernel_rfl) (fun _ _ _ h => h) (Or.inl ⟨by rfl, ?hk33⟩) (SpAt.old ((Old.refl w6).drew) SP6.out) ?rk33
  case hk33 => (intro wz hSw; (try dsimp only at hSw); go_simp; try with_reducible rfl)
  (try simp only [Act.put]); (try simp only [List.setIfInBounds_toArray]); (try simp only [List.set_cons_succ]); (try simp only [List.set_cons_zero])
  refine wpAnyH_take (i := 1) (oi := { dst := some 16, op := Op.move (Operand.tmp 0), type := 24, pos := "preds.go:45", after := #[], guard := none }) (v := ?vk34) rfl (by kernel_rfl) (by kernel_rfl) (by kernel_rfl) (fun _ _ _ h => h) (Or.inl ⟨by rfl, ?hk34⟩) (SpAt.old ((Old.refl w6).drew) SP6.out) ?rk34
  case hk34 => (intro wz hSw; (try dsimp only at hSw); go_simp; try with_reducible rfl)
  (try simp only [Act.put]); (try simp only [List.setIfInBounds_toArray]); (try simp only [List.set_cons_succ]); (try simp only [List.set_cons_zero])
  refine wpAnyH_take (i := 2) (oi := { dst := some 17, op := Op.nilCheck (Operand.tmp 16), type := 0, pos := "preds.go:45", after := #[{ on := 1, ground := Ground.data }], guard := none }) (v := ?vk35) rfl (by kernel_rfl) (by kernel_rfl) (by kernel_rfl) (fun _ _ _ h => h) (Or.inl ⟨by rfl, ?hk35⟩) (SpAt.old ((Old.refl w6).drew) SP6.out) ?rk35
  case hk35 => (intro wz hSw; (try dsimp only at hSw); go_simp; try with_reducible rfl)
  (try simp only [Act.put]); (try simp only [List.setIfInBounds_toArray]); (try simp only [List.set_cons_succ]); (try simp only [List.set_cons_zero])
  refine wpAnyH_take (i := 3) (oi := { dst := some 18, op := Op.fieldAddr 58 (Operand.tmp 17) 1, type := 0, pos := "preds.go:45", after := #[{ on := 2, ground := Ground.data }], guard := none }) (v := ?vk36) rfl (by kernel_rfl) (by kernel_rfl) (by kernel_rfl) (fun _ _ _ h => h) (Or.inl ⟨by rfl, ?hk36⟩) (SpAt.old ((Old.refl w6).drew) SP6.out) ?rk36
  case hk36 => (intro wz hSw; (try dsimp only at hSw); go_simp; try with_reducible rfl)
  (try simp only [Act.put]); (try simp only [List.setIfInBounds_toArray]); (try simp only [List.set_cons_succ]); (try simp only [List.set_cons_zero])
  refine wpAnyH_take (i := 5) (oi := { dst := some 20, op := Op.move (Operand.tmp 7), type := 3, pos := "preds.go:45", after := #[], guard := none }) (v := ?vk37) rfl (by kernel_rfl) (by kernel_rfl) (by kernel_rfl) (fun _ _ _ h => h) (Or.inl ⟨by rfl, ?hk37⟩) (SpAt.old ((Old.refl w6).drew) SP6.out) ?rk37
  case hk37 => (intro wz hSw; (try dsimp only at hSw); go_simp; try with_reducible rfl)
  (try simp only [Act.put]); (try simp only [List.setIfInBounds_toArray]); (try simp only [List.set_cons_succ]); (try simp only [List.set_cons_zero])
  refine wpAnyH_take (i := 6) (oi := { dst := some 21, op := Op.load 32 (Operand.tmp 4), type := 32, pos := "preds.go:45", after := #[], guard := none }) (v := ?vk38) rfl (by kernel_rfl) (by kernel_rfl) (by kernel_rfl) (fun _ _ _ h => h) (Or.inl ⟨by rfl, ?hk38⟩) (SpAt.old ((Old.refl w6).drew) SP6.out) ?rk38
  case hk38 => (intro wz hSw; (try dsimp only at hSw); go_simp; try with_reducible rfl)
  (try simp only [Act.put]); (try simp only [List.setIfInBounds_toArray]); (try simp only [List.set_cons_succ]); (try simp only [List.set_cons_zero])
  refine wpAnyH_take (i := 8) (oi := { dst := some 23, op := Op.move (Operand.tmp 2), type := 2, pos := "preds.go:45", after := #[], guard := none }) (v := ?vk39) rfl (by kernel_rfl) (by kernel_rfl) (by kernel_rfl) (fun _ _ _ h => h) (Or.inl ⟨by rfl, ?hk39⟩) (SpAt.old ((Old.refl w6).drew) SP6.out) ?rk39
  case hk39 => (intro wz hSw; (try dsimp only at hSw); go_simp; try with_reducible rfl)
  (try simp only [Act.put]); (try simp only [List.setIfInBounds_toArray]); (try simp only [List.set_cons_succ]); (try simp only [List.set_cons_zero])
  refine wpAnyH_ready (rs := [4, 7]) (by kernel_rfl) (by simp) ?_
  refine AllReadyH.cons (o := { dst := some 19, op := Op.load 44 (Operand.tmp 18), type := 44, pos := "preds.go:45", after := #[{ on := 3, ground := Ground.data }], guard := none }) rfl (fun K hK => ?_) (AllReadyH.cons (o := { dst := some 22, op := Op.call { callee := Callee.value (Operand.func 23), args := #[Operand.tmp 21], argTypes := #[32] }, type := 32, pos := "preds.go:45", after := #[{ on := 6, ground := Ground.data }], guard := none }) rfl (fun K hK => ?_) AllReadyH.nil)
  · skip
    refine stepLoadS ?_ (.tmp 18) ?_ b 1 a N c ?_ (((Old.refl w6).drew).keep hv6) ?_
    · rfl
    · rfl
    · rfl
    refine hK.out _ _ (SpAt.old ((Old.refl w6).drew) SP6.out) (fun _ => ?_)
    clear hK K
    (try simp only [Act.put]); (try simp only [List.setIfInBounds_toArray]); (try simp only [List.set_cons_succ]); (try simp only [List.set_cons_zero])
    refine wpAnyH_ready (rs := [7]) (by kernel_rfl) (by simp) ?_
    refine AllReadyH.cons (o := { dst := some 22, op := Op.call { callee := Callee.value (Operand.func 23), args := #[Operand.tmp 21], argTypes := #[32] }, type := 32, pos := "preds.go:45", after := #[{ on := 6, ground := Ground.data }], guard := none }) rfl (fun K hK => ?_) AllReadyH.nil
    · skip
      refine stepCall1 ?_ 23 (.tmp 21) #[32] ?_ (.agg #[.float .f64 x, .float .f64 y, .bool p, .bool q]) ?_ ?_ (ent_canonP _ _) ?_
      · rfl
      · rfl
      · rfl
      · rfl
      refine (HCn.out _).mono ?_
      rintro e y40 ⟨rfl, b40⟩
      refine ⟨_, rfl, ?_⟩
      have U40 : Old w6 y40 := ((Old.refl w6).drew).trans b40
      refine hK.out _ _ (SpAt.old U40 SP6.out) (fun _ => ?_)
      clear hK K
      (try simp only [Act.put]); (try simp only [List.setIfInBounds_toArray]); (try simp only [List.set_cons_succ]); (try simp only [List.set_cons_zero])
      refine wpAnyH_take (i := 9) (oi := { dst := some 24, op := Op.build 49 #[(0, Operand.tmp 22), (1, Operand.tmp 23)], type := 49, pos := "preds.go:45", after := #[{ on := 7, ground := Ground.data }, { on := 8, ground := Ground.data }], guard := none }) (v := ?vk41) rfl (by kernel_rfl) (by kernel_rfl) (by kernel_rfl) (fun _ _ _ h => h) (Or.inl ⟨by rfl, ?hk41⟩) (SpAt.old U40 SP6.out) ?rk41
      case hk41 => (intro wz hSw; (try dsimp only at hSw); go_simp; try with_reducible rfl)
      (try simp only [Act.put]); (try simp only [List.setIfInBounds_toArray]); (try simp only [List.set_cons_succ]); (try simp only [List.set_cons_zero])
      refine wpAnyH_ready (rs := [10]) (by kernel_rfl) (by simp) ?_
      refine AllReadyH.cons (o := { dst := some 25, op := Op.buildSlice 44 1 #[(0, Operand.tmp 24)], type := 44, pos := "preds.go:45", after := #[{ on := 9, ground := Ground.data }], guard := none }) rfl (fun K hK => ?_) AllReadyH.nil
      · skip
        refine stepBuildI ?_ (.tmp 24) ?_ ⟨Fl.csU x y p q, Fl.csV x y p q, false, false, n⟩ ?_ ?_
        · rfl
        · rfl
        · rfl
        intro m42 x42 hm42 hx42
        have HX42 := hid (newRow y40 m42 x42 ⟨Fl.csU x y p q, Fl.csV x y p q, false, false, n⟩ hm42 hx42)
        clear hm42 hx42
        have U42 : Old w6 x42 := U40.trans HX42.out.1
        have M42 : w6.heap.size ≤ m42 := Nat.le_trans U40.size HX42.out.2.2
        refine hK.out _ _ (SpAt.old U42 SP6.out) (fun _ => ?_)
        clear hK K
        (try simp only [Act.put]); (try simp only [List.setIfInBounds_toArray]); (try simp only [List.set_cons_succ]); (try simp only [List.set_cons_zero])
        refine wpAnyH_ready (rs := [11]) (by kernel_rfl) (by simp) ?_
        refine AllReadyH.cons (o := { dst := some 26, op := Op.call { callee := Callee.value (Operand.func 22), args := #[Operand.tmp 19, Operand.tmp 20, Operand.tmp 25], argTypes := #[44, 3, 44] }, type := 44, pos := "preds.go:45", after := #[{ on := 4, ground := Ground.data }, { on := 5, ground := Ground.data }, { on := 10, ground := Ground.data }, { on := 7, ground := Ground.chain }], guard := none }) rfl (fun K hK => ?_) AllReadyH.nil
        · skip
          refine stepCall3 ?_ 22 (.tmp 19) (.tmp 20) (.tmp 25) #[44, 3, 44] ?_ (.slice a N c) (.int .i64 (k : Nat)) (.slice (some ⟨m42, 0, none⟩) 1 1) ?_ ?_ ?_ ?_ (ent_ins _ _) ?_
          · rfl
          · rfl
          · rfl
          · rfl
          · rfl
          · rfl
          refine (HIns.out x42 m42 (U6.out.trans U42) HX42.out.2.1 (Nat.le_trans U6.out.size M42)).mono ?_
          rintro e y43 ⟨v43, rfl, o43, c43, n43⟩
          obtain ⟨a43, k43, hv43⟩ := o43.len
          subst hv43
          have ST43 := hid (HFin.out x42 y43 _ (U6.out.trans U42) o43 c43 n43)
          have q43 := ST43.out.1
          have r43 := ST43.out.2.1
          have sp43 : SpAt sb x y p q y43 := HSpC.out x42 y43 U42 c43
          refine ⟨_, rfl, ?_⟩
          refine hK.out _ _ sp43 (fun _ => ?_)
          clear hK K
          (try simp only [Act.put]); (try simp only [List.setIfInBounds_toArray]); (try simp only [List.set_cons_succ]); (try simp only [List.set_cons_zero])
          refine wpAnyH_take (i := 12) (oi := { dst := some 27, op := Op.nilCheck (Operand.tmp 15), type := 0, pos := "preds.go:45", after := #[{ on := 0, ground := Ground.data }, { on := 0, ground := Ground.phase }, { on := 1, ground := Ground.phase }, { on := 2, ground := Ground.phase }, { on := 3, ground := Ground.phase }, { on := 4, ground := Ground.phase }, { on := 5, ground := Ground.phase }, { on := 6, ground := Ground.phase }, { on := 7, ground := Ground.phase }, { on := 8, ground := Ground.phase }, { on := 9, ground := Ground.phase }, { on := 10, ground := Ground.phase }, { on := 11, ground := Ground.phase }], guard := none }) (v := ?vk44) rfl (by kernel_rfl) (by kernel_rfl) (by kernel_rfl) (fun _ _ _ h => h) (Or.inl ⟨by rfl, ?hk44⟩) sp43 ?rk44
          case hk44 => (intro wz hSw; (try dsimp only at hSw); go_simp; try with_reducible rfl)
          (try simp only [Act.put]); (try simp only [List.setIfInBounds_toArray]); (try simp only [List.set_cons_succ]); (try simp only [List.set_cons_zero])
          refine wpAnyH_take (i := 13) (oi := { dst := some 28, op := Op.fieldAddr 58 (Operand.tmp 27) 1, type := 0, pos := "preds.go:45", after := #[{ on := 12, ground := Ground.data }, { on := 0, ground := Ground.phase }, { on := 1, ground := Ground.phase }, { on := 2, ground := Ground.phase }, { on := 3, ground := Ground.phase }, { on := 4, ground := Ground.phase }, { on := 5, ground := Ground.phase }, { on := 6, ground := Ground.phase }, { on := 7, ground := Ground.phase }, { on := 8, ground := Ground.phase }, { on := 9, ground := Ground.phase }, { on := 10, ground := Ground.phase }, { on := 11, ground := Ground.phase }], guard := none }) (v := ?vk45) rfl (by kernel_rfl) (by kernel_rfl) (by kernel_rfl) (fun _ _ _ h => h) (Or.inl ⟨by rfl, ?hk45⟩) sp43 ?rk45
          case hk45 => (intro wz hSw; (try dsimp only at hSw); go_simp; try with_reducible rfl)
          (try simp only [Act.put]); (try simp only [List.setIfInBounds_toArray]); (try simp only [List.set_cons_succ]); (try simp only [List.set_cons_zero])
          refine wpAnyH_ready (rs := [14]) (by kernel_rfl) (by simp) ?_
          refine AllReadyH.cons (o := { dst := none, op := Op.store 44 (Operand.tmp 28) (Operand.tmp 26), type := 0, pos := "preds.go:45", after := #[{ on := 13, ground := Ground.data }, { on := 11, ground := Ground.data }, { on := 11, ground := Ground.chain }, { on := 0, ground := Ground.phase }, { on := 1, ground := Ground.phase }, { on := 2, ground := Ground.phase }, { on := 3, ground := Ground.phase }, { on := 4, ground := Ground.phase }, { on := 5, ground := Ground.phase }, { on := 6, ground := Ground.phase }, { on := 7, ground := Ground.phase }, { on := 8, ground := Ground.phase }, { on := 9, ground := Ground.phase }, { on := 10, ground := Ground.phase }, { on := 11, ground := Ground.phase }], guard := none }) rfl (fun K hK => ?_) AllReadyH.nil
          · skip
            refine stepStoreS ?_ (.tmp 28) (.tmp 26) ?_ b 1 a43 (L.take k ++ ⟨Fl.csU x y p q, Fl.csV x y p q, false, false, n⟩ :: L.drop k).length k43 ?_ ?_ q43 r43 ?_
            · rfl
            · rfl
            · rfl
            · rfl
            refine hK.out _ _ (SpAt.farC hsbb sp43 1 _) (fun _ => ?_)
            clear hK K
            (try simp only [Act.put]); (try simp only [List.setIfInBounds_toArray]); (try simp only [List.set_cons_succ]); (try simp only [List.set_cons_zero])
            refine wpAnyH_done (by kernel_rfl) ?_ _
            refine NoPanic.normal ?_
            go_wp2
            exact bodyPost_ret (v := .int .i64 0) (by simp [results, Try.results7, go_sem]) rfl ST43.out.2.2
  · skip
    refine stepCall1 ?_ 23 (.tmp 21) #[32] ?_ (.agg #[.float .f64 x, .float .f64 y, .bool p, .bool q]) ?_ ?_ (ent_canonP _ _) ?_
    · rfl
    · rfl
    · rfl
    · rfl
    refine (HCn.out _).mono ?_
    rintro e y46 ⟨rfl, b46⟩
    refine ⟨_, rfl, ?_⟩
    have U46 : Old w6 y46 := ((Old.refl w6).drew).trans b46
    refine hK.out _ _ (SpAt.old U46 SP6.out) (fun _ => ?_)
    clear hK K
    (try simp only [Act.put]); (try simp only [List.setIfInBounds_toArray]); (try simp only [List.set_cons_succ]); (try simp only [List.set_cons_zero])
    refine wpAnyH_take (i := 9) (oi := { dst := some 24, op := Op.build 49 #[(0, Operand.tmp 22), (1, Operand.tmp 23)], type := 49, pos := "preds.go:45", after := #[{ on := 7, ground := Ground.data }, { on := 8, ground := Ground.data }], guard := none }) (v := ?vk47) rfl (by kernel_rfl) (by kernel_rfl) (by kernel_rfl) (fun _ _ _ h => h) (Or.inl ⟨by rfl, ?hk47⟩) (SpAt.old U46 SP6.out) ?rk47
    case hk47 => (intro wz hSw; (try dsimp only at hSw); go_simp; try with_reducible rfl)
    (try simp only [Act.put]); (try simp only [List.setIfInBounds_toArray]); (try simp only [List.set_cons_succ]); (try simp only [List.set_cons_zero])
    refine wpAnyH_ready (rs := [4, 10]) (by kernel_rfl) (by simp) ?_
    refine AllReadyH.cons (o := { dst := some 19, op := Op.load 44 (Operand.tmp 18), type := 44, pos := "preds.go:45", after := #[{ on := 3, ground := Ground.data }], guard := none }) rfl (fun K hK => ?_) (AllReadyH.cons (o := { dst := some 25, op := Op.buildSlice 44 1 #[(0, Operand.tmp 24)], type := 44, pos := "preds.go:45", after := #[{ on := 9, ground := Ground.data }], guard := none }) rfl (fun K hK => ?_) AllReadyH.nil)
    · skip
      refine stepLoadS ?_ (.tmp 18) ?_ b 1 a N c ?_ (U46.keep hv6) ?_
      · rfl
      · rfl
      · rfl
      refine hK.out _ _ (SpAt.old U46 SP6.out) (fun _ => ?_)
      clear hK K
      (try simp only [Act.put]); (try simp only [List.setIfInBounds_toArray]); (try simp only [List.set_cons_succ]); (try simp only [List.set_cons_zero])
      refine wpAnyH_ready (rs := [10]) (by kernel_rfl) (by simp) ?_
      refine AllReadyH.cons (o := { dst := some 25, op := Op.buildSlice 44 1 #[(0, Operand.tmp 24)], type := 44, pos := "preds.go:45", after := #[{ on := 9, ground := Ground.data }], guard := none }) rfl (fun K hK => ?_) AllReadyH.nil
      · skip
        refine stepBuildI ?_ (.tmp 24) ?_ ⟨Fl.csU x y p q, Fl.csV x y p q, false, false, n⟩ ?_ ?_
        · rfl
        · rfl
        · rfl
        intro m48 x48 hm48 hx48
        have HX48 := hid (newRow y46 m48 x48 ⟨Fl.csU x y p q, Fl.csV x y p q, false, false, n⟩ hm48 hx48)
        clear hm48 hx48
        have U48 : Old w6 x48 := U46.trans HX48.out.1
        have M48 : w6.heap.size ≤ m48 := Nat.le_trans U46.size HX48.out.2.2
        refine hK.out _ _ (SpAt.old U48 SP6.out) (fun _ => ?_)
        clear hK K
        (try simp only [Act.put]); (try simp only [List.setIfInBounds_toArray]); (try simp only [List.set_cons_succ]); (try simp only [List.set_cons_zero])
        refine wpAnyH_ready (rs := [11]) (by kernel_rfl) (by simp) ?_
        refine AllReadyH.cons (o := { dst := some 26, op := Op.call { callee := Callee.value (Operand.func 22), args := #[Operand.tmp 19, Operand.tmp 20, Operand.tmp 25], argTypes := #[44, 3, 44] }, type := 44, pos := "preds.go:45", after := #[{ on := 4, ground := Ground.data }, { on := 5, ground := Ground.data }, { on := 10, ground := Ground.data }, { on := 7, ground := Ground.chain }], guard := none }) rfl (fun K hK => ?_) AllReadyH.nil
        · skip
          refine stepCall3 ?_ 22 (.tmp 19) (.tmp 20) (.tmp 25) #[44, 3, 44] ?_ (.slice a N c) (.int .i64 (k : Nat)) (.slice (some ⟨m48, 0, none⟩) 1 1) ?_ ?_ ?_ ?_ (ent_ins _ _) ?_
          · rfl
          · rfl
          · rfl
          · rfl
          · rfl
          · rfl
          refine (HIns.out x48 m48 (U6.out.trans U48) HX48.out.2.1 (Nat.le_trans U6.out.size M48)).mono ?_
          rintro e y49 ⟨v49, rfl, o49, c49, n49⟩
          obtain ⟨a49, k49, hv49⟩ := o49.len
          subst hv49
          have ST49 := hid (HFin.out x48 y49 _ (U6.out.trans U48) o49 c49 n49)
          have q49 := ST49.out.1
          have r49 := ST49.out.2.1
          have sp49 : SpAt sb x y p q y49 := HSpC.out x48 y49 U48 c49
          refine ⟨_, rfl, ?_⟩
          refine hK.out _ _ sp49 (fun _ => ?_)
          clear hK K
          (try simp only [Act.put]); (try simp only [List.setIfInBounds_toArray]); (try simp only [List.set_cons_succ]); (try simp only [List.set_cons_zero])
          refine wpAnyH_take (i := 12) (oi := { dst := some 27, op := Op.nilCheck (Operand.tmp 15), type := 0, pos := "preds.go:45", after := #[{ on := 0, ground := Ground.data }, { on := 0, ground := Ground.phase }, { on := 1, ground := Ground.phase }, { on := 2, ground := Ground.phase }, { on := 3, ground := Ground.phase }, { on := 4, ground := Ground.phase }, { on := 5, ground := Ground.phase }, { on := 6, ground := Ground.phase }, { on := 7, ground := Ground.phase }, { on := 8, ground := Ground.phase }, { on := 9, ground := Ground.phase }, { on := 10, ground := Ground.phase }, { on := 11, ground := Ground.phase }], guard := none }) (v := ?vk50) rfl (by kernel_rfl) (by kernel_rfl) (by kernel_rfl) (fun _ _ _ h => h) (Or.inl ⟨by rfl, ?hk50⟩) sp49 ?rk50
          case hk50 => (intro wz hSw; (try dsimp only at hSw); go_simp; try with_reducible rfl)
          (try simp only [Act.put]); (try simp only [List.setIfInBounds_toArray]); (try simp only [List.set_cons_succ]); (try simp only [List.set_cons_zero])
          refine wpAnyH_take (i := 13) (oi := { dst := some 28, op := Op.fieldAddr 58 (Operand.tmp 27) 1, type := 0, pos := "preds.go:45", after := #[{ on := 12, ground := Ground.data }, { on := 0, ground := Ground.phase }, { on := 1, ground := Ground.phase }, { on := 2, ground := Ground.phase }, { on := 3, ground := Ground.phase }, { on := 4, ground := Ground.phase }, { on := 5, ground := Ground.phase }, { on := 6, ground := Ground.phase }, { on := 7, ground := Ground.phase }, { on := 8, ground := Ground.phase }, { on := 9, ground := Ground.phase }, { on := 10, ground := Ground.phase }, { on := 11, ground := Ground.phase }], guard := none }) (v := ?vk51) rfl (by kernel_rfl) (by kernel_rfl) (by kernel_rfl) (fun _ _ _ h => h) (Or.inl ⟨by rfl, ?hk51⟩) sp49 ?rk51
          case hk51 => (intro wz hSw; (try dsimp only at hSw); go_simp; try with_reducible rfl)
          (try simp only [Act.put]); (try simp only [List.setIfInBounds_toArray]); (try simp only [List.set_cons_succ]); (try simp only [List.set_cons_zero])
          refine wpAnyH_ready (rs := [14]) (by kernel_rfl) (by simp) ?_
          refine AllReadyH.cons (o := { dst := none, op := Op.store 44 (Operand.tmp 28) (Operand.tmp 26), type := 0, pos := "preds.go:45", after := #[{ on := 13, ground := Ground.data }, { on := 11, ground := Ground.data }, { on := 11, ground := Ground.chain }, { on := 0, ground := Ground.phase }, { on := 1, ground := Ground.phase }, { on := 2, ground := Ground.phase }, { on := 3, ground := Ground.phase }, { on := 4, ground := Ground.phase }, { on := 5, ground := Ground.phase }, { on := 6, ground := Ground.phase }, { on := 7, ground := Ground.phase }, { on := 8, ground := Ground.phase }, { on := 9, ground := Ground.phase }, { on := 10, ground := Ground.phase }, { on := 11, ground := Ground.phase }], guard := none }) rfl (fun K hK => ?_) AllReadyH.nil
          · skip
            refine stepStoreS ?_ (.tmp 28) (.tmp 26) ?_ b 1 a49 (L.take k ++ ⟨Fl.csU x y p q, Fl.csV x y p q, false, false, n⟩ :: L.drop k).length k49 ?_ ?_ q49 r49 ?_
            · rfl
            · rfl
            · rfl
            · rfl
            refine hK.out _ _ (SpAt.farC hsbb sp49 1 _) (fun _ => ?_)
            clear hK K
            (try simp only [Act.put]); (try simp only [List.setIfInBounds_toArray]); (try simp only [List.set_cons_succ]); (try simp only [List.set_cons_zero])
            refine wpAnyH_done (by kernel_rfl) ?_ _
            refine NoPanic.normal ?_
            go_wp2
            exact bodyPost_ret (v := .int .i64 0) (by simp [results, Try.results7, go_sem]) rfl ST49.out.2.2
    · skip
      refine stepBuildI ?_ (.tmp 24) ?_ ⟨Fl.csU x y p q, Fl.csV x y p q, false, false, n⟩ ?_ ?_
      · rfl
      · rfl
      · rfl
      intro m52 x52 hm52 hx52
      have HX52 := hid (newRow y46 m52 x52 ⟨Fl.csU x y p q, Fl.csV x y p q, false, false, n⟩ hm52 hx52)
      clear hm52 hx52
      have U52 : Old w6 x52 := U46.trans HX52.out.1
      have M52 : w6.heap.size ≤ m52 := Nat.le_trans U46.size HX52.out.2.2
      refine hK.out _ _ (SpAt.old U52 SP6.out) (fun _ => ?_)
      clear hK K
      (try simp only [Act.put]); (try simp only [List.setIfInBounds_toArray]); (try simp only [List.set_cons_succ]); (try simp only [List.set_cons_zero])
      refine wpAnyH_ready (rs := [4]) (by kernel_rfl) (by simp) ?_
      refine AllReadyH.cons (o := { dst := some 19, op := Op.load 44 (Operand.tmp 18), type := 44, pos := "preds.go:45", after := #[{ on := 3, ground := Ground.data }], guard := none }) rfl (fun K hK => ?_) AllReadyH.nil
      · skip
        refine stepLoadS ?_ (.tmp 18) ?_ b 1 a N c ?_ (U52.keep hv6) ?_
        · rfl
        · rfl
        · rfl
        refine hK.out _ _ (SpAt.old U52 SP6.out) (fun _ => ?_)
        clear hK K
        (try simp only [Act.put]); (try simp only [List.setIfInBounds_toArray]); (try simp only [List.set_cons_succ]); (try simp only [List.set_cons_zero])
        refine wpAnyH_ready (rs := [11]) (by kernel_rfl) (by simp) ?_
        refine AllReadyH.cons (o := { dst := some 26, op := Op.call { callee := Callee.value (Operand.func 22), args := #[Operand.tmp 19, Operand.tmp 20, Operand.tmp 25], argTypes := #[44, 3, 44] }, type := 44, pos := "preds.go:45", after := #[{ on := 4, ground := Ground.data }, { on := 5, ground := Ground.data }, { on := 10, ground := Ground.data }, { on := 7, ground := Ground.chain }], guard := none }) rfl (fun K hK => ?_) AllReadyH.nil
        · skip
          refine stepCall3 ?_ 22 (.tmp 19) (.tmp 20) (.tmp 25) #[44, 3, 44] ?_ (.slice a N c) (.int .i64 (k : Nat)) (.slice (some ⟨m52, 0, none⟩) 1 1) ?_ ?_ ?_ ?_ (ent_ins _ _) ?_
          · rfl
          · rfl
          · rfl
          · rfl
          · rfl
          · rfl
          refine (HIns.out x52 m52 (U6.out.trans U52) HX52.out.2.1 (Nat.le_trans U6.out.size M52)).mono ?_
          rintro e y53 ⟨v53, rfl, o53, c53, n53⟩
          obtain ⟨a53, k53, hv53⟩ := o53.len
          subst hv53
          have ST53 := hid (HFin.out x52 y53 _ (U6.out.trans U52) o53 c53 n53)
          have q53 := ST53.out.1
          have r53 := ST53.out.2.1
          have sp53 : SpAt sb x y p q y53 := HSpC.out x52 y53 U52 c53
          refine ⟨_, rfl, ?_⟩
          refine hK.out _ _ sp53 (fun _ => ?_)
          clear hK K
          (try simp only [Act.put]); (try simp only [List.setIfInBounds_toArray]); (try simp only [List.set_cons_succ]); (try simp only [List.set_cons_zero])
          refine wpAnyH_take (i := 12) (oi := { dst := some 27, op := Op.nilCheck (Operand.tmp 15), type := 0, pos := "preds.go:45", after := #[{ on := 0, ground := Ground.data }, { on := 0, ground := Ground.phase }, { on := 1, ground := Ground.phase }, { on := 2, ground := Ground.phase }, { on := 3, ground := Ground.phase }, { on := 4, ground := Ground.phase }, { on := 5, ground := Ground.phase }, { on := 6, ground := Ground.phase }, { on := 7, ground := Ground.phase }, { on := 8, ground := Ground.phase }, { on := 9, ground := Ground.phase }, { on := 10, ground := Ground.phase }, { on := 11, ground := Ground.phase }], guard := none }) (v := ?vk54) rfl (by kernel_rfl) (by kernel_rfl) (by kernel_rfl) (fun _ _ _ h => h) (Or.inl ⟨by rfl, ?hk54⟩) sp53 ?rk54
          case hk54 => (intro wz hSw; (try dsimp only at hSw); go_simp; try with_reducible rfl)
          (try simp only [Act.put]); (try simp only [List.setIfInBounds_toArray]); (try simp only [List.set_cons_succ]); (try simp only [List.set_cons_zero])
          refine wpAnyH_take (i := 13) (oi := { dst := some 28, op := Op.fieldAddr 58 (Operand.tmp 27) 1, type := 0, pos := "preds.go:45", after := #[{ on := 12, ground := Ground.data }, { on := 0, ground := Ground.phase }, { on := 1, ground := Ground.phase }, { on := 2, ground := Ground.phase }, { on := 3, ground := Ground.phase }, { on := 4, ground := Ground.phase }, { on := 5, ground := Ground.phase }, { on := 6, ground := Ground.phase }, { on := 7, ground := Ground.phase }, { on := 8, ground := Ground.phase }, { on := 9, ground := Ground.phase }, { on := 10, ground := Ground.phase }, { on := 11, ground := Ground.phase }], guard := none }) (v := ?vk55) rfl (by kernel_rfl) (by kernel_rfl) (by kernel_rfl) (fun _ _ _ h => h) (Or.inl ⟨by rfl, ?hk55⟩) sp53 ?rk55
          case hk55 => (intro wz hSw; (try dsimp only at hSw); go_simp; try with_reducible rfl)
          (try simp only [Act.put]); (try simp only [List.setIfInBounds_toArray]); (try simp only [List.set_cons_succ]); (try simp only [List.set_cons_zero])
          refine wpAnyH_ready (rs := [14]) (by kernel_rfl) (by simp) ?_
          refine AllReadyH.cons (o := { dst := none, op := Op.store 44 (Operand.tmp 28) (Operand.tmp 26), type := 0, pos := "preds.go:45", after := #[{ on := 13, ground := Ground.data }, { on := 11, ground := Ground.data }, { on := 11, ground := Ground.chain }, { on := 0, ground := Ground.phase }, { on := 1, ground := Ground.phase }, { on := 2, ground := Ground.phase }, { on := 3, ground := Ground.phase }, { on := 4, ground := Ground.phase }, { on := 5, ground := Ground.phase }, { on := 6, ground := Ground.phase }, { on := 7, ground := Ground.phase }, { on := 8, ground := Ground.phase }, { on := 9, ground := Ground.phase }, { on := 10, ground := Ground.phase }, { on := 11, ground := Ground.phase }], guard := none }) rfl (fun K hK => ?_) AllReadyH.nil
          · skip
            refine stepStoreS ?_ (.tmp 28) (.tmp 26) ?_ b 1 a53 (L.take k ++ ⟨Fl.csU x y p q, Fl.csV x y p q, false, false, n⟩ :: L.drop k).length k53 ?_ ?_ q53 r53 ?_
            · rfl
            · rfl
            · rfl
            · rfl
            refine hK.out _ _ (SpAt.farC hsbb sp53 1 _) (fun _ => ?_)
            clear hK K
            (try simp only [Act.put]); (try simp only [List.setIfInBounds_toArray]); (try simp only [List.set_cons_succ]); (try simp only [List.set_cons_zero])
            refine wpAnyH_done (by kernel_rfl) ?_ _
            refine NoPanic.normal ?_
            go_wp2
            exact bodyPost_ret (v := .int .i64 0) (by simp [results, Try.results7, go_sem]) rfl ST53.out.2.2

/-- Put at every table. -/
def putR (x y : Nat) (p q : Bool) (n most : Int) (L : List It) : Int × List It := if Fl.csE x y p q = true then (41, L) else if n < 1 ∨ 1099511627776 < n then (43, L) else if there (skc x y p q) L = true then (0, putL ⟨Fl.csU x y p q, Fl.csV x y p q, false, false, n⟩ L) else if most ≤ (L.length : Int) then (3, L) else (0, putL ⟨Fl.csU x y p q, Fl.csV x y p q, false, false, n⟩ L)
theorem put_any (base b : Nat) (most n : Int) (v : Value) (L : List It) (x y : Nat) (p q : Bool) (hx : Fl.W x) (hy : Fl.W y) (w : World) (h : TabAt base w b most v L) (hG : Good L) (hL : L.length ≤ 1000000) :
    Calls Try.prog 7 #[.pointer (some ⟨b, 0, none⟩), .agg #[.float .f64 x, .float .f64 y, .bool p, .bool q], .int .i64 n] w fun e w' => PutPost base b most v (putR x y p q n most L).1 (putR x y p q n most L).2 w e w' := by
  unfold putR
  by_cases hn : Fl.csE x y p q = true
  · rw [if_pos hn]; exact put_empty base b most n v L x y p q hx hy w h hG hL hn
  · rw [if_neg hn]
    have hn2 : Fl.csE x y p q = false := by simpa using hn
    by_cases hb : n < 1 ∨ 1099511627776 < n
    · rw [if_pos hb]; exact put_num base b most n v L x y p q hx hy w h hG hL hn2 hb
    · rw [if_neg hb]
      have b1 : ¬ n < 1 := fun e => hb (.inl e)
      have b2 : ¬ 1099511627776 < n := fun e => hb (.inr e)
      by_cases ht : there (skc x y p q) L = true
      · rw [if_pos ht]; exact put_there base b most n v L x y p q hx hy w h hG hL hn2 b1 b2 ht
      · rw [if_neg ht]
        have ht2 : there (skc x y p q) L = false := by simpa using ht
        by_cases hm : most ≤ (L.length : Int)
        · rw [if_pos hm]; exact put_full base b most n v L x y p q hx hy w h hG hL hn2 b1 b2 ht2 hm
        · rw [if_neg hm]; exact put_new base b most n v L x y p q hx hy w h hG hL hn2 b1 b2 ht2 (by omega)
end Go.Proofs.Ytodoogcllahfgaa
