/- vers: Put at every table; conditions: the lengths fit. -/
import Derived.Test.YtbjikfcegiagjaaXg
import Derived.Test.YtbjikfcegiagjaaXs
namespace Go.Proofs.Ytbjikfcegiagjaa
open Go.RowKit Go.Lib
set_option linter.unusedVariables false
set_option linter.unusedSimpArgs false
set_option maxRecDepth 20000
/-- What Put leaves behind. -/
def PutPost (base b : Nat) (most : Int) (v : Value) (code : Int) (L' : List It) (w : World) (e : Ending) (w' : World) : Prop := ∃ v', e = .returned (.int .i64 code) ∧ TabAt base w' b most v' L' ∧ Chg (blks b v) w w' ∧ ∀ g, v'.ownBlock = some g → v.ownBlock = some g ∨ w.heap.size ≤ g
theorem putPost_same {base b : Nat} {most : Int} {v : Value} {code : Int} {L : List It} {w w' : World} (h : TabAt base w b most v L) (u : Old w w') : PutPost base b most v code L w (.returned (.int .i64 code)) w' := ⟨v, rfl, h.old u, Chg.ofOld u, fun g hg => .inl hg⟩
theorem newRow (w : World) (m : Nat) (x : World) (y : It) (hm : m = w.drew.heap.size) (hx : x = w.drew.alloc (.cells (itc y).toArray 52)) : Old w x ∧ x.heap[m]? = some (.cells (itc y).toArray 52 (0, 0)) ∧ w.heap.size ≤ m := by
  subst hm hx
  exact ⟨((Old.refl w).drew).alloc _, alloc_heap w.drew _ _ rfl, Nat.le_refl _⟩
theorem ent_canon (args : Array Value) (w : World) : (callFunc 47 args).run Try.prog w = .ok (.enter 47 args) w := by kernel_rfl
theorem kc_new (key : Nat) (n : Int) : kc ⟨Fl.canon key, n⟩ = Fl.code key := Fl.code_canon key
attribute [local go_sem] run_bits run_frombits run_store_float
set_option maxHeartbeats 1000000 in
set_option maxRecDepth 20000 in
theorem put_nan (base b : Nat) (most n : Int) (v : Value) (L : List It) (key : Nat) (hk : Fl.W key) (w : World) (h : TabAt base w b most v L) (hG : Good L) (hL : L.length ≤ 1000000) (hn : Fl.nan key = true) :
    Calls Try.prog 12 #[.pointer (some ⟨b, 0, none⟩), .float .f64 key, .int .i64 n] w fun e w' => PutPost base b most v 40 L w e w' := by
  have HF := hid (find_t base b most v L key hk w h hG hL)
  have HE := hid (fun w' (u : Old w w') => putPost_same (code := 40) h u)
  clear h hG
  generalize pos (Fl.code key) L = p at *
  generalize there (Fl.code key) L = r at *
  go_enter Try.func12, Try.ntmps12
  go_wp2_with (first | (go_at_call 44; refine HF.out.mono ?_; rintro e w3 ⟨rfl, u3⟩; have U3 := hid u3; clear u3) | (go_at_call 45; refine (isNaN_any _ hk _).mono ?_; rintro e w4 ⟨rfl, hw4⟩; have hw5 := hw4.symm; subst hw5))
  exact bodyPost_ret (v := .int .i64 40) (by simp [results, Try.results12, go_sem]) rfl (HE.out _ U3.out)
set_option maxHeartbeats 1000000 in
set_option maxRecDepth 20000 in
theorem put_num (base b : Nat) (most n : Int) (v : Value) (L : List It) (key : Nat) (hk : Fl.W key) (w : World) (h : TabAt base w b most v L) (hG : Good L) (hL : L.length ≤ 1000000) (hn : Fl.nan key = false) (hb : n < 1 ∨ 1099511627776 < n) :
    Calls Try.prog 12 #[.pointer (some ⟨b, 0, none⟩), .float .f64 key, .int .i64 n] w fun e w' => PutPost base b most v 43 L w e w' := by
  have HF := hid (find_t base b most v L key hk w h hG hL)
  have HE := hid (fun w' (u : Old w w') => putPost_same (code := 43) h u)
  clear h hG
  generalize pos (Fl.code key) L = p at *
  generalize there (Fl.code key) L = r at *
  rcases hb with hb | hb
  · go_enter Try.func12, Try.ntmps12
    go_wp2_with (first | (go_at_call 44; refine HF.out.mono ?_; rintro e w3 ⟨rfl, u3⟩; have U3 := hid u3; clear u3) | (go_at_call 45; refine (isNaN_any _ hk _).mono ?_; rintro e w4 ⟨rfl, hw4⟩; have hw5 := hw4.symm; subst hw5))
    exact bodyPost_ret (v := .int .i64 43) (by simp [results, Try.results12, go_sem]) rfl (HE.out _ U3.out)
  · have hb2 : ¬ n < 1 := by omega
    go_enter Try.func12, Try.ntmps12
    go_wp2_with (first | (go_at_call 44; refine HF.out.mono ?_; rintro e w3 ⟨rfl, u3⟩; have U3 := hid u3; clear u3) | (go_at_call 45; refine (isNaN_any _ hk _).mono ?_; rintro e w4 ⟨rfl, hw4⟩; have hw5 := hw4.symm; subst hw5))
    exact bodyPost_ret (v := .int .i64 43) (by simp [results, Try.results12, go_sem]) rfl (HE.out _ U3.out)
set_option maxHeartbeats 4000000 in
set_option maxRecDepth 20000 in
theorem put_there (base b : Nat) (most n : Int) (v : Value) (L : List It) (key : Nat) (hk : Fl.W key) (w : World) (h : TabAt base w b most v L) (hG : Good L) (hL : L.length ≤ 1000000) (hn : Fl.nan key = false) (h1 : ¬ n < 1) (h2 : ¬ 1099511627776 < n) (ht : there (Fl.code key) L = true) :
    Calls Try.prog 12 #[.pointer (some ⟨b, 0, none⟩), .float .f64 key, .int .i64 n] w fun e w' => PutPost base b most v 0 (putL ⟨Fl.canon key, n⟩ L) w e w' := by
  have HF := hid (find_t base b most v L key hk w h hG hL)
  rw [ht] at HF
  have hpl : pos (Fl.code key) L < L.length := by simp [there] at ht; exact ht.1
  have hkp : kc (atI L (pos (Fl.code key) L)) = Fl.code key := by simp [there] at ht; exact ht.2
  have hput := put_set ⟨Fl.canon key, n⟩ L hG.1 (by rw [kc_new]; exact hpl) (by rw [kc_new]; exact hkp)
  rw [kc_new] at hput
  have HP := hid hput
  have HT := hid h
  clear hput hkp ht h hG
  generalize pos (Fl.code key) L = p at *
  obtain ⟨g, cap, hvs, hgb, hgl, hit, hfz⟩ := HT.out.2.2.2.2.1.shape (by omega)
  subst hvs
  have hi := hit p hpl
  have hgne : g ≠ b := fun e => HT.out.2.2.2.2.2 (by rw [e]; rfl)
  have hfp := hfz (p * 2 + 1)
  clear hit hfz
  have HI := hid (And.intro hi hfp)
  clear hi hfp
  have l1 : (0 : Int) ≤ (p : Int) := by omega
  have l2 : (p : Int) < ((L.length : Nat) : Int) := by omega
  have hbN : L.length ≤ 9223372036854775807 := by omega
  have HE0 := hid (fun (w3 : World) (val : Int) (u : Old w w3) (hv : val = max (atI L p).n n) => show PutPost base b most (.slice (some ⟨g, 0, none⟩) L.length cap) 0 (putL ⟨Fl.canon key, n⟩ L) w (.returned (.int .i64 0)) (w3.drew.setCell ⟨g, p * 2 + 1, none⟩ (.int .i64 val)) from by
    rw [HP.out, hv]
    have t3 := HT.out.old u.drew
    have hC : Chg [g] w3.drew (w3.drew.setCell ⟨g, p * 2 + 1, none⟩ (.int .i64 (max (atI L p).n n))) := Chg.set _ _ _ (by simp)
    have hbg : b ∉ [g] := by simp; exact fun e => hgne e.symm
    refine ⟨_, rfl, ⟨t3.1, hC.cell t3.2.1 hbg, hC.cell t3.2.2.1 hbg, hC.keepF t3.2.2.1 t3.2.2.2.1 hbg, t3.2.2.2.2.1.setN hpl _, t3.2.2.2.2.2⟩, (Chg.ofOld u.drew).trans (hC.mono fun k hk _ => by simp at hk; subst hk; simp [blks, Value.ownBlock]), fun k hk => .inl hk⟩)
  generalize hN : L.length = N at *
  go_enter Try.func12, Try.ntmps12
  go_upto_region 8 with (first | (go_at_call 44; refine HF.out.mono ?_; rintro e w3 ⟨rfl, u3⟩; have U3 := hid u3; clear u3) | (go_at_call 45; refine (isNaN_any _ hk _).mono ?_; rintro e w4 ⟨rfl, hw4⟩; have hw5 := hw4.symm; subst hw5))
  obtain ⟨tb, t0, hS, tf, tw, tn⟩ := HT.out.old U3.out
  obtain ⟨⟨c0, c1⟩, cf⟩ := And.intro (HI.out.1.old U3.out) (U3.out.keepF HI.out.1.2 HI.out.2)
  clear tw tn t0 tf tb
  generalize hq : (atI L p).n = q at *
  rcases (show q < n ∨ n ≤ q by omega) with hlt | hge
  · have HE := hid (HE0.out w3 n U3.out (by omega))
    have hS2 : (w3.drew.setCell ⟨g, p * 2 + 1, none⟩ (.int .i64 n)).cell? ⟨b, 1, none⟩ = some (.slice (some ⟨g, 0, none⟩) N cap) := by rw [World.cell?_setCell_other _ _ _ _ (by intro e; first | exact hgne (congrArg Addr.block e) | exact hgne (congrArg Addr.block e).symm)]; exact hS
    clear HE0
    refine wp_region_noPanic ?_
    refine wp_region_held_drew (S := fun W => W.cell? ⟨b, 1, none⟩ = some (.slice (some ⟨g, 0, none⟩) N cap)) (by kernel_rfl) ?_ (fun hHeld => ?_)
    · exact hS
    (try simp only [Act.put]); (try simp only [List.setIfInBounds_toArray]); (try simp only [List.set_cons_succ]); (try simp only [List.set_cons_zero])
    clear hHeld
    refine wpAnyH_take (i := 0) (oi := { dst := some 41, op := Op.move (Operand.tmp 0), type := 26, pos := "vers.go:43", after := #[], guard := none }) (v := ?vk1) rfl (by kernel_rfl) (by kernel_rfl) (by kernel_rfl) (fun _ _ _ h => h) (Or.inl ⟨by rfl, ?hk1⟩) hS ?rk1
    case hk1 => (intro wz hSw; (try dsimp only at hSw); go_simp; try with_reducible rfl)
    (try simp only [Act.put]); (try simp only [List.setIfInBounds_toArray]); (try simp only [List.set_cons_succ]); (try simp only [List.set_cons_zero])
    refine wpAnyH_take (i := 1) (oi := { dst := some 42, op := Op.nilCheck (Operand.tmp 41), type := 0, pos := "vers.go:43", after := #[{ on := 0, ground := Ground.data }], guard := none }) (v := ?vk2) rfl (by kernel_rfl) (by kernel_rfl) (by kernel_rfl) (fun _ _ _ h => h) (Or.inl ⟨by rfl, ?hk2⟩) hS ?rk2
    case hk2 => (intro wz hSw; (try dsimp only at hSw); go_simp; try with_reducible rfl)
    (try simp only [Act.put]); (try simp only [List.setIfInBounds_toArray]); (try simp only [List.set_cons_succ]); (try simp only [List.set_cons_zero])
    refine wpAnyH_take (i := 2) (oi := { dst := some 43, op := Op.fieldAddr 89 (Operand.tmp 42) 1, type := 0, pos := "vers.go:43", after := #[{ on := 1, ground := Ground.data }], guard := none }) (v := ?vk3) rfl (by kernel_rfl) (by kernel_rfl) (by kernel_rfl) (fun _ _ _ h => h) (Or.inl ⟨by rfl, ?hk3⟩) hS ?rk3
    case hk3 => (intro wz hSw; (try dsimp only at hSw); go_simp; try with_reducible rfl)
    (try simp only [Act.put]); (try simp only [List.setIfInBounds_toArray]); (try simp only [List.set_cons_succ]); (try simp only [List.set_cons_zero])
    refine wpAnyH_take (i := 3) (oi := { dst := some 44, op := Op.load 46 (Operand.tmp 43), type := 46, pos := "vers.go:43", after := #[{ on := 2, ground := Ground.data }], guard := none }) (v := ?vk4) rfl (by kernel_rfl) (by kernel_rfl) (by kernel_rfl) (fun _ _ _ h => h) (Or.inl ⟨by rfl, ?hk4⟩) hS ?rk4
    case hk4 => (intro wz hSw; (try dsimp only at hSw); go_simp; try with_reducible rfl)
    (try simp only [Act.put]); (try simp only [List.setIfInBounds_toArray]); (try simp only [List.set_cons_succ]); (try simp only [List.set_cons_zero])
    refine wpAnyH_take (i := 4) (oi := { dst := some 45, op := Op.move (Operand.tmp 7), type := 3, pos := "vers.go:43", after := #[], guard := none }) (v := ?vk5) rfl (by kernel_rfl) (by kernel_rfl) (by kernel_rfl) (fun _ _ _ h => h) (Or.inl ⟨by rfl, ?hk5⟩) hS ?rk5
    case hk5 => (intro wz hSw; (try dsimp only at hSw); go_simp; try with_reducible rfl)
    (try simp only [Act.put]); (try simp only [List.setIfInBounds_toArray]); (try simp only [List.set_cons_succ]); (try simp only [List.set_cons_zero])
    refine wpAnyH_take (i := 5) (oi := { dst := some 46, op := Op.move (Operand.tmp 0), type := 26, pos := "vers.go:43", after := #[], guard := none }) (v := ?vk6) rfl (by kernel_rfl) (by kernel_rfl) (by kernel_rfl) (fun _ _ _ h => h) (Or.inl ⟨by rfl, ?hk6⟩) hS ?rk6
    case hk6 => (intro wz hSw; (try dsimp only at hSw); go_simp; try with_reducible rfl)
    (try simp only [Act.put]); (try simp only [List.setIfInBounds_toArray]); (try simp only [List.set_cons_succ]); (try simp only [List.set_cons_zero])
    refine wpAnyH_take (i := 6) (oi := { dst := some 47, op := Op.nilCheck (Operand.tmp 46), type := 0, pos := "vers.go:43", after := #[{ on := 5, ground := Ground.data }], guard := none }) (v := ?vk7) rfl (by kernel_rfl) (by kernel_rfl) (by kernel_rfl) (fun _ _ _ h => h) (Or.inl ⟨by rfl, ?hk7⟩) hS ?rk7
    case hk7 => (intro wz hSw; (try dsimp only at hSw); go_simp; try with_reducible rfl)
    (try simp only [Act.put]); (try simp only [List.setIfInBounds_toArray]); (try simp only [List.set_cons_succ]); (try simp only [List.set_cons_zero])
    refine wpAnyH_take (i := 7) (oi := { dst := some 48, op := Op.fieldAddr 89 (Operand.tmp 47) 1, type := 0, pos := "vers.go:43", after := #[{ on := 6, ground := Ground.data }], guard := none }) (v := ?vk8) rfl (by kernel_rfl) (by kernel_rfl) (by kernel_rfl) (fun _ _ _ h => h) (Or.inl ⟨by rfl, ?hk8⟩) hS ?rk8
    case hk8 => (intro wz hSw; (try dsimp only at hSw); go_simp; try with_reducible rfl)
    (try simp only [Act.put]); (try simp only [List.setIfInBounds_toArray]); (try simp only [List.set_cons_succ]); (try simp only [List.set_cons_zero])
    refine wpAnyH_take (i := 8) (oi := { dst := some 49, op := Op.load 46 (Operand.tmp 48), type := 46, pos := "vers.go:43", after := #[{ on := 7, ground := Ground.data }], guard := none }) (v := ?vk9) rfl (by kernel_rfl) (by kernel_rfl) (by kernel_rfl) (fun _ _ _ h => h) (Or.inl ⟨by rfl, ?hk9⟩) hS ?rk9
    case hk9 => (intro wz hSw; (try dsimp only at hSw); go_simp; try with_reducible rfl)
    (try simp only [Act.put]); (try simp only [List.setIfInBounds_toArray]); (try simp only [List.set_cons_succ]); (try simp only [List.set_cons_zero])
    refine wpAnyH_take (i := 9) (oi := { dst := some 50, op := Op.move (Operand.tmp 7), type := 3, pos := "vers.go:43", after := #[], guard := none }) (v := ?vk10) rfl (by kernel_rfl) (by kernel_rfl) (by kernel_rfl) (fun _ _ _ h => h) (Or.inl ⟨by rfl, ?hk10⟩) hS ?rk10
    case hk10 => (intro wz hSw; (try dsimp only at hSw); go_simp; try with_reducible rfl)
    (try simp only [Act.put]); (try simp only [List.setIfInBounds_toArray]); (try simp only [List.set_cons_succ]); (try simp only [List.set_cons_zero])
    refine wpAnyH_take (i := 10) (oi := { dst := some 51, op := Op.indexAddr 46 (Operand.tmp 49) (Operand.tmp 50), type := 0, pos := "vers.go:43", after := #[{ on := 8, ground := Ground.data }, { on := 9, ground := Ground.data }], guard := none }) (v := ?vk11) rfl (by kernel_rfl) (by kernel_rfl) (by kernel_rfl) (fun _ _ _ h => h) (Or.inl ⟨by rfl, ?hk11⟩) hS ?rk11
    case hk11 => (intro wz hSw; (try dsimp only at hSw); go_simp; try with_reducible rfl)
    (try simp only [Act.put]); (try simp only [List.setIfInBounds_toArray]); (try simp only [List.set_cons_succ]); (try simp only [List.set_cons_zero])
    refine wpAnyH_take (i := 11) (oi := { dst := some 52, op := Op.fieldAddr 52 (Operand.tmp 51) 1, type := 0, pos := "vers.go:43", after := #[{ on := 10, ground := Ground.data }], guard := none }) (v := ?vk12) rfl (by kernel_rfl) (by kernel_rfl) (by kernel_rfl) (fun _ _ _ h => h) (Or.inl ⟨by rfl, ?hk12⟩) hS ?rk12
    case hk12 => (intro wz hSw; (try dsimp only at hSw); go_simp; try with_reducible rfl)
    (try simp only [Act.put]); (try simp only [List.setIfInBounds_toArray]); (try simp only [List.set_cons_succ]); (try simp only [List.set_cons_zero])
    refine wpAnyH_take (i := 13) (oi := { dst := some 54, op := Op.move (Operand.tmp 2), type := 2, pos := "vers.go:43", after := #[], guard := none }) (v := ?vk13) rfl (by kernel_rfl) (by kernel_rfl) (by kernel_rfl) (fun _ _ _ h => h) (Or.inl ⟨by rfl, ?hk13⟩) hS ?rk13
    case hk13 => (intro wz hSw; (try dsimp only at hSw); go_simp; try with_reducible rfl)
    (try simp only [Act.put]); (try simp only [List.setIfInBounds_toArray]); (try simp only [List.set_cons_succ]); (try simp only [List.set_cons_zero])
    refine wpAnyH_ready (rs := [12]) (by kernel_rfl) (by simp) ?_
    refine AllReadyH.cons (o := { dst := some 53, op := Op.load 2 (Operand.tmp 52), type := 2, pos := "vers.go:43", after := #[{ on := 11, ground := Ground.data }], guard := none }) rfl (fun K hK => ?_) AllReadyH.nil
    · skip
      refine stepLoadN ?_ (.tmp 52) ?_ g (p * 2 + 1) q ?_ c1 ?_
      · rfl
      · rfl
      · rfl
      refine hK.out _ _ hS (fun _ => ?_)
      clear hK K
      (try simp only [Act.put]); (try simp only [List.setIfInBounds_toArray]); (try simp only [List.set_cons_succ]); (try simp only [List.set_cons_zero])
      refine wpAnyH_take (i := 14) (oi := { dst := some 55, op := Op.call { callee := Callee.builtin Builtin.max, args := #[Operand.tmp 53, Operand.tmp 54], argTypes := #[2, 2] }, type := 2, pos := "vers.go:43", after := #[{ on := 12, ground := Ground.data }, { on := 13, ground := Ground.data }], guard := none }) (v := ?vk14) rfl (by kernel_rfl) (by kernel_rfl) (by kernel_rfl) (fun _ _ _ h => h) (Or.inl ⟨by rfl, ?hk14⟩) hS ?rk14
      case hk14 => (intro wz hSw; (try dsimp only at hSw); go_simp; try with_reducible rfl)
      (try simp only [Act.put]); (try simp only [List.setIfInBounds_toArray]); (try simp only [List.set_cons_succ]); (try simp only [List.set_cons_zero])
      refine wpAnyH_take (i := 15) (oi := { dst := some 56, op := Op.indexAddr 46 (Operand.tmp 44) (Operand.tmp 45), type := 0, pos := "vers.go:43", after := #[{ on := 3, ground := Ground.data }, { on := 4, ground := Ground.data }, { on := 0, ground := Ground.phase }, { on := 1, ground := Ground.phase }, { on := 2, ground := Ground.phase }, { on := 3, ground := Ground.phase }, { on := 4, ground := Ground.phase }, { on := 5, ground := Ground.phase }, { on := 6, ground := Ground.phase }, { on := 7, ground := Ground.phase }, { on := 8, ground := Ground.phase }, { on := 9, ground := Ground.phase }, { on := 10, ground := Ground.phase }, { on := 11, ground := Ground.phase }, { on := 12, ground := Ground.phase }, { on := 13, ground := Ground.phase }, { on := 14, ground := Ground.phase }], guard := none }) (v := ?vk15) rfl (by kernel_rfl) (by kernel_rfl) (by kernel_rfl) (fun _ _ _ h => h) (Or.inl ⟨by rfl, ?hk15⟩) hS ?rk15
      case hk15 => (intro wz hSw; (try dsimp only at hSw); go_simp; try with_reducible rfl)
      (try simp only [Act.put]); (try simp only [List.setIfInBounds_toArray]); (try simp only [List.set_cons_succ]); (try simp only [List.set_cons_zero])
      refine wpAnyH_take (i := 16) (oi := { dst := some 57, op := Op.fieldAddr 52 (Operand.tmp 56) 1, type := 0, pos := "vers.go:43", after := #[{ on := 15, ground := Ground.data }, { on := 0, ground := Ground.phase }, { on := 1, ground := Ground.phase }, { on := 2, ground := Ground.phase }, { on := 3, ground := Ground.phase }, { on := 4, ground := Ground.phase }, { on := 5, ground := Ground.phase }, { on := 6, ground := Ground.phase }, { on := 7, ground := Ground.phase }, { on := 8, ground := Ground.phase }, { on := 9, ground := Ground.phase }, { on := 10, ground := Ground.phase }, { on := 11, ground := Ground.phase }, { on := 12, ground := Ground.phase }, { on := 13, ground := Ground.phase }, { on := 14, ground := Ground.phase }], guard := none }) (v := ?vk16) rfl (by kernel_rfl) (by kernel_rfl) (by kernel_rfl) (fun _ _ _ h => h) (Or.inl ⟨by rfl, ?hk16⟩) hS ?rk16
      case hk16 => (intro wz hSw; (try dsimp only at hSw); go_simp; try with_reducible rfl)
      (try simp only [Act.put]); (try simp only [List.setIfInBounds_toArray]); (try simp only [List.set_cons_succ]); (try simp only [List.set_cons_zero])
      refine wpAnyH_ready (rs := [17]) (by kernel_rfl) (by simp) ?_
      refine AllReadyH.cons (o := { dst := none, op := Op.store 2 (Operand.tmp 57) (Operand.tmp 55), type := 0, pos := "vers.go:43", after := #[{ on := 16, ground := Ground.data }, { on := 14, ground := Ground.data }, { on := 0, ground := Ground.phase }, { on := 1, ground := Ground.phase }, { on := 2, ground := Ground.phase }, { on := 3, ground := Ground.phase }, { on := 4, ground := Ground.phase }, { on := 5, ground := Ground.phase }, { on := 6, ground := Ground.phase }, { on := 7, ground := Ground.phase }, { on := 8, ground := Ground.phase }, { on := 9, ground := Ground.phase }, { on := 10, ground := Ground.phase }, { on := 11, ground := Ground.phase }, { on := 12, ground := Ground.phase }, { on := 13, ground := Ground.phase }, { on := 14, ground := Ground.phase }], guard := none }) rfl (fun K hK => ?_) AllReadyH.nil
      · skip
        refine stepStoreN ?_ (.tmp 57) (.tmp 55) ?_ g (p * 2 + 1) n ?_ ?_ c1 cf ?_
        · rfl
        · rfl
        · rfl
        · rfl
        refine hK.out _ _ hS2 (fun _ => ?_)
        clear hK K
        (try simp only [Act.put]); (try simp only [List.setIfInBounds_toArray]); (try simp only [List.set_cons_succ]); (try simp only [List.set_cons_zero])
        refine wpAnyH_done (by kernel_rfl) ?_ _
        refine NoPanic.normal ?_
        go_wp2
        exact bodyPost_ret (v := .int .i64 0) (by simp [results, Try.results12, go_sem]) rfl HE.out

  · have hge2 : ¬ q < n := by omega
    have HE := hid (HE0.out w3 q U3.out (by omega))
    have hS2 : (w3.drew.setCell ⟨g, p * 2 + 1, none⟩ (.int .i64 q)).cell? ⟨b, 1, none⟩ = some (.slice (some ⟨g, 0, none⟩) N cap) := by rw [World.cell?_setCell_other _ _ _ _ (by intro e; first | exact hgne (congrArg Addr.block e) | exact hgne (congrArg Addr.block e).symm)]; exact hS
    clear HE0
    refine wp_region_noPanic ?_
    refine wp_region_held_drew (S := fun W => W.cell? ⟨b, 1, none⟩ = some (.slice (some ⟨g, 0, none⟩) N cap)) (by kernel_rfl) ?_ (fun hHeld => ?_)
    · exact hS
    (try simp only [Act.put]); (try simp only [List.setIfInBounds_toArray]); (try simp only [List.set_cons_succ]); (try simp only [List.set_cons_zero])
    clear hHeld
    refine wpAnyH_take (i := 0) (oi := { dst := some 41, op := Op.move (Operand.tmp 0), type := 26, pos := "vers.go:43", after := #[], guard := none }) (v := ?vk17) rfl (by kernel_rfl) (by kernel_rfl) (by kernel_rfl) (fun _ _ _ h => h) (Or.inl ⟨by rfl, ?hk17⟩) hS ?rk17
    case hk17 => (intro wz hSw; (try dsimp only at hSw); go_simp; try with_reducible rfl)
    (try simp only [Act.put]); (try simp only [List.setIfInBounds_toArray]); (try simp only [List.set_cons_succ]); (try simp only [List.set_cons_zero])
    refine wpAnyH_take (i := 1) (oi := { dst := some 42, op := Op.nilCheck (Operand.tmp 41), type := 0, pos := "vers.go:43", after := #[{ on := 0, ground := Ground.data }], guard := none }) (v := ?vk18) rfl (by kernel_rfl) (by kernel_rfl) (by kernel_rfl) (fun _ _ _ h => h) (Or.inl ⟨by rfl, ?hk18⟩) hS ?rk18
    case hk18 => (intro wz hSw; (try dsimp only at hSw); go_simp; try with_reducible rfl)
    (try simp only [Act.put]); (try simp only [List.setIfInBounds_toArray]); (try simp only [List.set_cons_succ]); (try simp only [List.set_cons_zero])
    refine wpAnyH_take (i := 2) (oi := { dst := some 43, op := Op.fieldAddr 89 (Operand.tmp 42) 1, type := 0, pos := "vers.go:43", after := #[{ on := 1, ground := Ground.data }], guard := none }) (v := ?vk19) rfl (by kernel_rfl) (by kernel_rfl) (by kernel_rfl) (fun _ _ _ h => h) (Or.inl ⟨by rfl, ?hk19⟩) hS ?rk19
    case hk19 => (intro wz hSw; (try dsimp only at hSw); go_simp; try with_reducible rfl)
    (try simp only [Act.put]); (try simp only [List.setIfInBounds_toArray]); (try simp only [List.set_cons_succ]); (try simp only [List.set_cons_zero])
    refine wpAnyH_take (i := 3) (oi := { dst := some 44, op := Op.load 46 (Operand.tmp 43), type := 46, pos := "vers.go:43", after := #[{ on := 2, ground := Ground.data }], guard := none }) (v := ?vk20) rfl (by kernel_rfl) (by kernel_rfl) (by kernel_rfl) (fun _ _ _ h => h) (Or.inl ⟨by rfl, ?hk20⟩) hS ?rk20
    case hk20 => (intro wz hSw; (try dsimp only at hSw); go_simp; try with_reducible rfl)
    (try simp only [Act.put]); (try simp only [List.setIfInBounds_toArray]); (try simp only [List.set_cons_succ]); (try simp only [List.set_cons_zero])
    refine wpAnyH_take (i := 4) (oi := { dst := some 45, op := Op.move (Operand.tmp 7), type := 3, pos := "vers.go:43", after := #[], guard := none }) (v := ?vk21) rfl (by kernel_rfl) (by kernel_rfl) (by kernel_rfl) (fun _ _ _ h => h) (Or.inl ⟨by rfl, ?hk21⟩) hS ?rk21
    case hk21 => (intro wz hSw; (try dsimp only at hSw); go_simp; try with_reducible rfl)
    (try simp only [Act.put]); (try simp only [List.setIfInBounds_toArray]); (try simp only [List.set_cons_succ]); (try simp only [List.set_cons_zero])
    refine wpAnyH_take (i := 5) (oi := { dst := some 46, op := Op.move (Operand.tmp 0), type := 26, pos := "vers.go:43", after := #[], guard := none }) (v := ?vk22) rfl (by kernel_rfl) (by kernel_rfl) (by kernel_rfl) (fun _ _ _ h => h) (Or.inl ⟨by rfl, ?hk22⟩) hS ?rk22
    case hk22 => (intro wz hSw; (try dsimp only at hSw); go_simp; try with_reducible rfl)
    (try simp only [Act.put]); (try simp only [List.setIfInBounds_toArray]); (try simp only [List.set_cons_succ]); (try simp only [List.set_cons_zero])
    refine wpAnyH_take (i := 6) (oi := { dst := some 47, op := Op.nilCheck (Operand.tmp 46), type := 0, pos := "vers.go:43", after := #[{ on := 5, ground := Ground.data }], guard := none }) (v := ?vk23) rfl (by kernel_rfl) (by kernel_rfl) (by kernel_rfl) (fun _ _ _ h => h) (Or.inl ⟨by rfl, ?hk23⟩) hS ?rk23
    case hk23 => (intro wz hSw; (try dsimp only at hSw); go_simp; try with_reducible rfl)
    (try simp only [Act.put]); (try simp only [List.setIfInBounds_toArray]); (try simp only [List.set_cons_succ]); (try simp only [List.set_cons_zero])
    refine wpAnyH_take (i := 7) (oi := { dst := some 48, op := Op.fieldAddr 89 (Operand.tmp 47) 1, type := 0, pos := "vers.go:43", after := #[{ on := 6, ground := Ground.data }], guard := none }) (v := ?vk24) rfl (by kernel_rfl) (by kernel_rfl) (by kernel_rfl) (fun _ _ _ h => h) (Or.inl ⟨by rfl, ?hk24⟩) hS ?rk24
    case hk24 => (intro wz hSw; (try dsimp only at hSw); go_simp; try with_reducible rfl)
    (try simp only [Act.put]); (try simp only [List.setIfInBounds_toArray]); (try simp only [List.set_cons_succ]); (try simp only [List.set_cons_zero])
    refine wpAnyH_take (i := 8) (oi := { dst := some 49, op := Op.load 46 (Operand.tmp 48), type := 46, pos := "vers.go:43", after := #[{ on := 7, ground := Ground.data }], guard := none }) (v := ?vk25) rfl (by kernel_rfl) (by kernel_rfl) (by kernel_rfl) (fun _ _ _ h => h) (Or.inl ⟨by rfl, ?hk25⟩) hS ?rk25
    case hk25 => (intro wz hSw; (try dsimp only at hSw); go_simp; try with_reducible rfl)
    (try simp only [Act.put]); (try simp only [List.setIfInBounds_toArray]); (try simp only [List.set_cons_succ]); (try simp only [List.set_cons_zero])
    refine wpAnyH_take (i := 9) (oi := { dst := some 50, op := Op.move (Operand.tmp 7), type := 3, pos := "vers.go:43", after := #[], guard := none }) (v := ?vk26) rfl (by kernel_rfl) (by kernel_rfl) (by kernel_rfl) (fun _ _ _ h => h) (Or.inl ⟨by rfl, ?hk26⟩) hS ?rk26
    case hk26 => (intro wz hSw; (try dsimp only at hSw); go_simp; try with_reducible rfl)
    (try simp only [Act.put]); (try simp only [List.setIfInBounds_toArray]); (try simp only [List.set_cons_succ]); (try simp only [List.set_cons_zero])
    refine wpAnyH_take (i := 10) (oi := { dst := some 51, op := Op.indexAddr 46 (Operand.tmp 49) (Operand.tmp 50), type := 0, pos := "vers.go:43", after := #[{ on := 8, ground := Ground.data }, { on := 9, ground := Ground.data }], guard := none }) (v := ?vk27) rfl (by kernel_rfl) (by kernel_rfl) (by kernel_rfl) (fun _ _ _ h => h) (Or.inl ⟨by rfl, ?hk27⟩) hS ?rk27
    case hk27 => (intro wz hSw; (try dsimp only at hSw); go_simp; try with_reducible rfl)
    (try simp only [Act.put]); (try simp only [List.setIfInBounds_toArray]); (try simp only [List.set_cons_succ]); (try simp only [List.set_cons_zero])
    refine wpAnyH_take (i := 11) (oi := { dst := some 52, op := Op.fieldAddr 52 (Operand.tmp 51) 1, type := 0, pos := "vers.go:43", after := #[{ on := 10, ground := Ground.data }], guard := none }) (v := ?vk28) rfl (by kernel_rfl) (by kernel_rfl) (by kernel_rfl) (fun _ _ _ h => h) (Or.inl ⟨by rfl, ?hk28⟩) hS ?rk28
    case hk28 => (intro wz hSw; (try dsimp only at hSw); go_simp; try with_reducible rfl)
    (try simp only [Act.put]); (try simp only [List.setIfInBounds_toArray]); (try simp only [List.set_cons_succ]); (try simp only [List.set_cons_zero])
    refine wpAnyH_take (i := 13) (oi := { dst := some 54, op := Op.move (Operand.tmp 2), type := 2, pos := "vers.go:43", after := #[], guard := none }) (v := ?vk29) rfl (by kernel_rfl) (by kernel_rfl) (by kernel_rfl) (fun _ _ _ h => h) (Or.inl ⟨by rfl, ?hk29⟩) hS ?rk29
    case hk29 => (intro wz hSw; (try dsimp only at hSw); go_simp; try with_reducible rfl)
    (try simp only [Act.put]); (try simp only [List.setIfInBounds_toArray]); (try simp only [List.set_cons_succ]); (try simp only [List.set_cons_zero])
    refine wpAnyH_ready (rs := [12]) (by kernel_rfl) (by simp) ?_
    refine AllReadyH.cons (o := { dst := some 53, op := Op.load 2 (Operand.tmp 52), type := 2, pos := "vers.go:43", after := #[{ on := 11, ground := Ground.data }], guard := none }) rfl (fun K hK => ?_) AllReadyH.nil
    · skip
      refine stepLoadN ?_ (.tmp 52) ?_ g (p * 2 + 1) q ?_ c1 ?_
      · rfl
      · rfl
      · rfl
      refine hK.out _ _ hS (fun _ => ?_)
      clear hK K
      (try simp only [Act.put]); (try simp only [List.setIfInBounds_toArray]); (try simp only [List.set_cons_succ]); (try simp only [List.set_cons_zero])
      refine wpAnyH_take (i := 14) (oi := { dst := some 55, op := Op.call { callee := Callee.builtin Builtin.max, args := #[Operand.tmp 53, Operand.tmp 54], argTypes := #[2, 2] }, type := 2, pos := "vers.go:43", after := #[{ on := 12, ground := Ground.data }, { on := 13, ground := Ground.data }], guard := none }) (v := ?vk30) rfl (by kernel_rfl) (by kernel_rfl) (by kernel_rfl) (fun _ _ _ h => h) (Or.inl ⟨by rfl, ?hk30⟩) hS ?rk30
      case hk30 => (intro wz hSw; (try dsimp only at hSw); go_simp; try with_reducible rfl)
      (try simp only [Act.put]); (try simp only [List.setIfInBounds_toArray]); (try simp only [List.set_cons_succ]); (try simp only [List.set_cons_zero])
      refine wpAnyH_take (i := 15) (oi := { dst := some 56, op := Op.indexAddr 46 (Operand.tmp 44) (Operand.tmp 45), type := 0, pos := "vers.go:43", after := #[{ on := 3, ground := Ground.data }, { on := 4, ground := Ground.data }, { on := 0, ground := Ground.phase }, { on := 1, ground := Ground.phase }, { on := 2, ground := Ground.phase }, { on := 3, ground := Ground.phase }, { on := 4, ground := Ground.phase }, { on := 5, ground := Ground.phase }, { on := 6, ground := Ground.phase }, { on := 7, ground := Ground.phase }, { on := 8, ground := Ground.phase }, { on := 9, ground := Ground.phase }, { on := 10, ground := Ground.phase }, { on := 11, ground := Ground.phase }, { on := 12, ground := Ground.phase }, { on := 13, ground := Ground.phase }, { on := 14, ground := Ground.phase }], guard := none }) (v := ?vk31) rfl (by kernel_rfl) (by kernel_rfl) (by kernel_rfl) (fun _ _ _ h => h) (Or.inl ⟨by rfl, ?hk31⟩) hS ?rk31
      case hk31 => (intro wz hSw; (try dsimp only at hSw); go_simp; try with_reducible rfl)
      (try simp only [Act.put]); (try simp only [List.setIfInBounds_toArray]); (try simp only [List.set_cons_succ]); (try simp only [List.set_cons_zero])
      refine wpAnyH_take (i := 16) (oi := { dst := some 57, op := Op.fieldAddr 52 (Operand.tmp 56) 1, type := 0, pos := "vers.go:43", after := #[{ on := 15, ground := Ground.data }, { on := 0, ground := Ground.phase }, { on := 1, ground := Ground.phase }, { on := 2, ground := Ground.phase }, { on := 3, ground := Ground.phase }, { on := 4, ground := Ground.phase }, { on := 5, ground := Ground.phase }, { on := 6, ground := Ground.phase }, { on := 7, ground := Ground.phase }, { on := 8, ground := Ground.phase }, { on := 9, ground := Ground.phase }, { on := 10, ground := Ground.phase }, { on := 11, ground := Ground.phase }, { on := 12, ground := Ground.phase }, { on := 13, ground := Ground.phase }, { on := 14, ground := Ground.phase }], guard := none }) (v := ?vk32) rfl (by kernel_rfl) (by kernel_rfl) (by kernel_rfl) (fun _ _ _ h => h) (Or.inl ⟨by rfl, ?hk32⟩) hS ?rk32
      case hk32 => (intro wz hSw; (try dsimp only at hSw); go_simp; try with_reducible rfl)
      (try simp only [Act.put]); (try simp only [List.setIfInBounds_toArray]); (try simp only [List.set_cons_succ]); (try simp only [List.set_cons_zero])
      refine wpAnyH_ready (rs := [17]) (by kernel_rfl) (by simp) ?_
      refine AllReadyH.cons (o := { dst := none, op := Op.store 2 (Operand.tmp 57) (Operand.tmp 55), type := 0, pos := "vers.go:43", after := #[{ on := 16, ground := Ground.data }, { on := 14, ground := Ground.data }, { on := 0, ground := Ground.phase }, { on := 1, ground := Ground.phase }, { on := 2, ground := Ground.phase }, { on := 3, ground := Ground.phase }, { on := 4, ground := Ground.phase }, { on := 5, ground := Ground.phase }, { on := 6, ground := Ground.phase }, { on := 7, ground := Ground.phase }, { on := 8, ground := Ground.phase }, { on := 9, ground := Ground.phase }, { on := 10, ground := Ground.phase }, { on := 11, ground := Ground.phase }, { on := 12, ground := Ground.phase }, { on := 13, ground := Ground.phase }, { on := 14, ground := Ground.phase }], guard := none }) rfl (fun K hK => ?_) AllReadyH.nil
      · skip
        refine stepStoreN ?_ (.tmp 57) (.tmp 55) ?_ g (p * 2 + 1) q ?_ ?_ c1 cf ?_
        · rfl
        · rfl
        · rfl
        · rfl
        refine hK.out _ _ hS2 (fun _ => ?_)
        clear hK K
        (try simp only [Act.put]); (try simp only [List.setIfInBounds_toArray]); (try simp only [List.set_cons_succ]); (try simp only [List.set_cons_zero])
        refine wpAnyH_done (by kernel_rfl) ?_ _
        refine NoPanic.normal ?_
        go_wp2
        exact bodyPost_ret (v := .int .i64 0) (by simp [results, Try.results12, go_sem]) rfl HE.out

set_option maxHeartbeats 4000000 in
set_option maxRecDepth 20000 in
theorem put_full (base b : Nat) (most n : Int) (v : Value) (L : List It) (key : Nat) (hk : Fl.W key) (w : World) (h : TabAt base w b most v L) (hG : Good L) (hL : L.length ≤ 1000000) (hn : Fl.nan key = false) (h1 : ¬ n < 1) (h2 : ¬ 1099511627776 < n) (ht : there (Fl.code key) L = false) (hm : most ≤ (L.length : Int)) :
    Calls Try.prog 12 #[.pointer (some ⟨b, 0, none⟩), .float .f64 key, .int .i64 n] w fun e w' => PutPost base b most v 3 L w e w' := by
  have HF := hid (find_t base b most v L key hk w h hG hL)
  rw [ht] at HF
  have HE := hid (fun w' (u : Old w w') => putPost_same (code := 3) h u)
  have HT := hid h
  obtain ⟨a, c, hv⟩ := h.2.2.2.2.1.len
  subst hv
  clear h hG ht
  generalize pos (Fl.code key) L = p at *
  generalize hN : L.length = N at *
  go_enter Try.func12, Try.ntmps12
  go_upto_region 9 with (first | (go_at_call 44; refine HF.out.mono ?_; rintro e w3 ⟨rfl, u3⟩; have U3 := hid u3; clear u3) | (go_at_call 45; refine (isNaN_any _ hk _).mono ?_; rintro e w4 ⟨rfl, hw4⟩; have hw5 := hw4.symm; subst hw5))
  obtain ⟨tb, t0, hS, tf, tw, tn⟩ := HT.out.old U3.out
  clear tw tn tf tb
  have hle : decide ((most : Int) ≤ (N : Int)) = true := by simpa using hm
  go_quiet (fail)
  go_wp2
  exact bodyPost_ret (v := .int .i64 3) (by simp [results, Try.results12, go_sem]) rfl (HE.out _ (U3.out.drewN _))
set_option maxHeartbeats 8000000 in
set_option maxRecDepth 20000 in
theorem put_new (base b : Nat) (most n : Int) (v : Value) (L : List It) (key : Nat) (hk : Fl.W key) (w : World) (h : TabAt base w b most v L) (hG : Good L) (hL : L.length ≤ 1000000) (hn : Fl.nan key = false) (h1 : ¬ n < 1) (h2 : ¬ 1099511627776 < n) (ht : there (Fl.code key) L = false) (hm : (L.length : Int) < most) :
    Calls Try.prog 12 #[.pointer (some ⟨b, 0, none⟩), .float .f64 key, .int .i64 n] w fun e w' => PutPost base b most v 0 (putL ⟨Fl.canon key, n⟩ L) w e w' := by
  have HF := hid (find_t base b most v L key hk w h hG hL)
  rw [ht] at HF
  have hput := put_ins ⟨Fl.canon key, n⟩ L hG.1 (by rw [kc_new]; intro e; simp [there, e.1, e.2] at ht)
  rw [kc_new] at hput
  have hpl := pos_le (Fl.code key) L
  have hbase : base ≤ w.heap.size := by have := h.1; have := h.lt; omega
  have HT := hid h
  obtain ⟨a, c, hv⟩ := h.2.2.2.2.1.len
  have HP := hid hput
  clear ht hput
  generalize pos (Fl.code key) L = p at *
  have HIns := hid (fun (W : World) (m : Nat) (u : Old w W) (hm' : W.heap[m]? = some (.cells (itc ⟨Fl.canon key, n⟩).toArray 52 (0, 0))) (hmg : w.heap.size ≤ m) => insert_any base v L p ⟨Fl.canon key, n⟩ m W hL hpl (h.2.2.2.2.1.old u) hm' (fun e => by have := (h.2.2.2.2.1.lt _ e).2; omega) (Nat.le_trans hbase u.size))
  have HFin := hid (fun (x y : World) (v' : Value) (u : Old w x) (o : Own base y v' (L.take p ++ ⟨Fl.canon key, n⟩ :: L.drop p)) (cg : Chg v.ownBlock.toList x y) (hn' : ∀ g, v'.ownBlock = some g → v.ownBlock = some g ∨ x.heap.size ≤ g) => show y.cell? ⟨b, 1, none⟩ = some v ∧ y.frozen? ⟨b, 1, none⟩ = false ∧ PutPost base b most v 0 (putL ⟨Fl.canon key, n⟩ L) w (.returned (.int .i64 0)) (y.setCell ⟨b, 1, none⟩ v') from by
    have tx := h.old u
    have hb : b ∉ v.ownBlock.toList := fun e => h.2.2.2.2.2 (by simpa [Option.mem_toList] using e)
    obtain ⟨s1, s2⟩ := tx.store cg o hn'
    refine ⟨cg.cell tx.2.2.1 hb, cg.keepF tx.2.2.1 tx.2.2.2.1 hb, ?_⟩
    rw [HP.out]
    exact ⟨v', rfl, s1, (Chg.ofOld u).trans s2, fun k hk => by rcases hn' k hk with q | q; exact .inl q; exact .inr (Nat.le_trans u.size q)⟩)
  subst hv
  clear h hG
  generalize hN : L.length = N at *
  have HR := hid (fun (W : World) (u : Old w W) => HT.out.old u)
  go_enter Try.func12, Try.ntmps12
  go_upto_region 9 with (first | (go_at_call 44; refine HF.out.mono ?_; rintro e w3 ⟨rfl, u3⟩; have U3 := hid u3; clear u3) | (go_at_call 45; refine (isNaN_any _ hk _).mono ?_; rintro e w4 ⟨rfl, hw4⟩; have hw5 := hw4.symm; subst hw5))
  have hle : decide ((most : Int) ≤ (N : Int)) = false := by simpa using hm
  obtain ⟨tb, t0, hv, tf, tw, tn⟩ := HR.out _ U3.out
  clear tw tn tf tb
  go_quiet (fail)
  have U6 := hid (U3.out.drewN nq)
  have hv6 : (w3.drewN nq).cell? ⟨b, 1, none⟩ = some (.slice a N c) := hv
  generalize w3.drewN nq = w6 at *
  clear hv t0 U3 HT HR HF HP
  go_upto_region 2 with fail
  refine wp_region_noPanic ?_
  refine wp_region_held_drew (S := fun _ => True) (by kernel_rfl) ?_ (fun hHeld => ?_)
  · exact trivial
  (try simp only [Act.put]); (try simp only [List.setIfInBounds_toArray]); (try simp only [List.set_cons_succ]); (try simp only [List.set_cons_zero])
  clear hHeld
  refine wpAnyH_take (i := 0) (oi := { dst := some 15, op := Op.move (Operand.tmp 0), type := 26, pos := "vers.go:47", after := #[], guard := none }) (v := ?vk33) rfl (by kernel_rfl) (by kernel_rfl) (by kernel_rfl) (fun _ _ _ h => h) (Or.inl ⟨by rfl, ?hk33⟩) trivial ?rk33
  case hk33 => (intro wz hSw; (try dsimp only at hSw); go_simp; try with_reducible rfl)
  (try simp only [Act.put]); (try simp only [List.setIfInBounds_toArray]); (try simp only [List.set_cons_succ]); (try simp only [List.set_cons_zero])
  refine wpAnyH_take (i := 1) (oi := { dst := some 16, op := Op.move (Operand.tmp 0), type := 26, pos := "vers.go:47", after := #[], guard := none }) (v := ?vk34) rfl (by kernel_rfl) (by kernel_rfl) (by kernel_rfl) (fun _ _ _ h => h) (Or.inl ⟨by rfl, ?hk34⟩) trivial ?rk34
  case hk34 => (intro wz hSw; (try dsimp only at hSw); go_simp; try with_reducible rfl)
  (try simp only [Act.put]); (try simp only [List.setIfInBounds_toArray]); (try simp only [List.set_cons_succ]); (try simp only [List.set_cons_zero])
  refine wpAnyH_take (i := 2) (oi := { dst := some 17, op := Op.nilCheck (Operand.tmp 16), type := 0, pos := "vers.go:47", after := #[{ on := 1, ground := Ground.data }], guard := none }) (v := ?vk35) rfl (by kernel_rfl) (by kernel_rfl) (by kernel_rfl) (fun _ _ _ h => h) (Or.inl ⟨by rfl, ?hk35⟩) trivial ?rk35
  case hk35 => (intro wz hSw; (try dsimp only at hSw); go_simp; try with_reducible rfl)
  (try simp only [Act.put]); (try simp only [List.setIfInBounds_toArray]); (try simp only [List.set_cons_succ]); (try simp only [List.set_cons_zero])
  refine wpAnyH_take (i := 3) (oi := { dst := some 18, op := Op.fieldAddr 89 (Operand.tmp 17) 1, type := 0, pos := "vers.go:47", after := #[{ on := 2, ground := Ground.data }], guard := none }) (v := ?vk36) rfl (by kernel_rfl) (by kernel_rfl) (by kernel_rfl) (fun _ _ _ h => h) (Or.inl ⟨by rfl, ?hk36⟩) trivial ?rk36
  case hk36 => (intro wz hSw; (try dsimp only at hSw); go_simp; try with_reducible rfl)
  (try simp only [Act.put]); (try simp only [List.setIfInBounds_toArray]); (try simp only [List.set_cons_succ]); (try simp only [List.set_cons_zero])
  refine wpAnyH_take (i := 5) (oi := { dst := some 20, op := Op.move (Operand.tmp 7), type := 3, pos := "vers.go:47", after := #[], guard := none }) (v := ?vk37) rfl (by kernel_rfl) (by kernel_rfl) (by kernel_rfl) (fun _ _ _ h => h) (Or.inl ⟨by rfl, ?hk37⟩) trivial ?rk37
  case hk37 => (intro wz hSw; (try dsimp only at hSw); go_simp; try with_reducible rfl)
  (try simp only [Act.put]); (try simp only [List.setIfInBounds_toArray]); (try simp only [List.set_cons_succ]); (try simp only [List.set_cons_zero])
  refine wpAnyH_take (i := 6) (oi := { dst := some 21, op := Op.move (Operand.tmp 1), type := 23, pos := "vers.go:47", after := #[], guard := none }) (v := ?vk38) rfl (by kernel_rfl) (by kernel_rfl) (by kernel_rfl) (fun _ _ _ h => h) (Or.inl ⟨by rfl, ?hk38⟩) trivial ?rk38
  case hk38 => (intro wz hSw; (try dsimp only at hSw); go_simp; try with_reducible rfl)
  (try simp only [Act.put]); (try simp only [List.setIfInBounds_toArray]); (try simp only [List.set_cons_succ]); (try simp only [List.set_cons_zero])
  refine wpAnyH_take (i := 8) (oi := { dst := some 23, op := Op.move (Operand.tmp 2), type := 2, pos := "vers.go:47", after := #[], guard := none }) (v := ?vk39) rfl (by kernel_rfl) (by kernel_rfl) (by kernel_rfl) (fun _ _ _ h => h) (Or.inl ⟨by rfl, ?hk39⟩) trivial ?rk39
  case hk39 => (intro wz hSw; (try dsimp only at hSw); go_simp; try with_reducible rfl)
  (try simp only [Act.put]); (try simp only [List.setIfInBounds_toArray]); (try simp only [List.set_cons_succ]); (try simp only [List.set_cons_zero])
  refine wpAnyH_ready (rs := [4, 7]) (by kernel_rfl) (by simp) ?_
  refine AllReadyH.cons (o := { dst := some 19, op := Op.load 46 (Operand.tmp 18), type := 46, pos := "vers.go:47", after := #[{ on := 3, ground := Ground.data }], guard := none }) rfl (fun K hK => ?_) (AllReadyH.cons (o := { dst := some 22, op := Op.call { callee := Callee.value (Operand.func 47), args := #[Operand.tmp 21], argTypes := #[23] }, type := 23, pos := "vers.go:47", after := #[{ on := 6, ground := Ground.data }], guard := none }) rfl (fun K hK => ?_) AllReadyH.nil)
  · skip
    refine stepLoadS ?_ (.tmp 18) ?_ b 1 a N c ?_ hv6 ?_
    · rfl
    · rfl
    · rfl
    refine hK.out _ _ trivial (fun _ => ?_)
    clear hK K
    (try simp only [Act.put]); (try simp only [List.setIfInBounds_toArray]); (try simp only [List.set_cons_succ]); (try simp only [List.set_cons_zero])
    refine wpAnyH_ready (rs := [7]) (by kernel_rfl) (by simp) ?_
    refine AllReadyH.cons (o := { dst := some 22, op := Op.call { callee := Callee.value (Operand.func 47), args := #[Operand.tmp 21], argTypes := #[23] }, type := 23, pos := "vers.go:47", after := #[{ on := 6, ground := Ground.data }], guard := none }) rfl (fun K hK => ?_) AllReadyH.nil
    · skip
      refine stepCall1 ?_ 47 (.tmp 21) #[23] ?_ (.float .f64 key) ?_ ?_ (ent_canon _ _) ?_
      · rfl
      · rfl
      · rfl
      · rfl
      refine (canon_any key hk _).mono ?_
      rintro e y40 ⟨rfl, rfl⟩
      refine ⟨_, rfl, ?_⟩
      refine hK.out _ _ trivial (fun _ => ?_)
      clear hK K
      (try simp only [Act.put]); (try simp only [List.setIfInBounds_toArray]); (try simp only [List.set_cons_succ]); (try simp only [List.set_cons_zero])
      refine wpAnyH_take (i := 9) (oi := { dst := some 24, op := Op.build 52 #[(0, Operand.tmp 22), (1, Operand.tmp 23)], type := 52, pos := "vers.go:47", after := #[{ on := 7, ground := Ground.data }, { on := 8, ground := Ground.data }], guard := none }) (v := ?vk41) rfl (by kernel_rfl) (by kernel_rfl) (by kernel_rfl) (fun _ _ _ h => h) (Or.inl ⟨by rfl, ?hk41⟩) trivial ?rk41
      case hk41 => (intro wz hSw; (try dsimp only at hSw); go_simp; try with_reducible rfl)
      (try simp only [Act.put]); (try simp only [List.setIfInBounds_toArray]); (try simp only [List.set_cons_succ]); (try simp only [List.set_cons_zero])
      refine wpAnyH_ready (rs := [10]) (by kernel_rfl) (by simp) ?_
      refine AllReadyH.cons (o := { dst := some 25, op := Op.buildSlice 46 1 #[(0, Operand.tmp 24)], type := 46, pos := "vers.go:47", after := #[{ on := 9, ground := Ground.data }], guard := none }) rfl (fun K hK => ?_) AllReadyH.nil
      · skip
        refine stepBuildI ?_ (.tmp 24) ?_ ⟨Fl.canon key, n⟩ ?_ ?_
        · rfl
        · rfl
        · rfl
        intro m42 x42 hm42 hx42
        have HX42 := hid (newRow w6 m42 x42 ⟨Fl.canon key, n⟩ hm42 hx42)
        clear hm42 hx42
        have hc42 := HX42.out.1.keep hv6
        refine hK.out _ _ trivial (fun _ => ?_)
        clear hK K
        (try simp only [Act.put]); (try simp only [List.setIfInBounds_toArray]); (try simp only [List.set_cons_succ]); (try simp only [List.set_cons_zero])
        refine wpAnyH_ready (rs := [11]) (by kernel_rfl) (by simp) ?_
        refine AllReadyH.cons (o := { dst := some 26, op := Op.call { callee := Callee.value (Operand.func 46), args := #[Operand.tmp 19, Operand.tmp 20, Operand.tmp 25], argTypes := #[46, 3, 46] }, type := 46, pos := "vers.go:47", after := #[{ on := 4, ground := Ground.data }, { on := 5, ground := Ground.data }, { on := 10, ground := Ground.data }, { on := 7, ground := Ground.chain }], guard := none }) rfl (fun K hK => ?_) AllReadyH.nil
        · skip
          refine stepCall3 ?_ 46 (.tmp 19) (.tmp 20) (.tmp 25) #[46, 3, 46] ?_ (.slice a N c) (.int .i64 (p : Nat)) (.slice (some ⟨m42, 0, none⟩) 1 1) ?_ ?_ ?_ ?_ (ent_ins _ _) ?_
          · rfl
          · rfl
          · rfl
          · rfl
          · rfl
          · rfl
          refine (HIns.out x42 m42 (U6.out.trans HX42.out.1) HX42.out.2.1 (Nat.le_trans U6.out.size HX42.out.2.2)).mono ?_
          rintro e y43 ⟨v43, rfl, o43, c43, n43⟩
          obtain ⟨a43, k43, hv43⟩ := o43.len
          subst hv43
          have ST43 := hid (HFin.out x42 y43 _ (U6.out.trans HX42.out.1) o43 c43 n43)
          have q43 := ST43.out.1
          have r43 := ST43.out.2.1
          refine ⟨_, rfl, ?_⟩
          refine hK.out _ _ trivial (fun _ => ?_)
          clear hK K
          (try simp only [Act.put]); (try simp only [List.setIfInBounds_toArray]); (try simp only [List.set_cons_succ]); (try simp only [List.set_cons_zero])
          refine wpAnyH_take (i := 12) (oi := { dst := some 27, op := Op.nilCheck (Operand.tmp 15), type := 0, pos := "vers.go:47", after := #[{ on := 0, ground := Ground.data }, { on := 0, ground := Ground.phase }, { on := 1, ground := Ground.phase }, { on := 2, ground := Ground.phase }, { on := 3, ground := Ground.phase }, { on := 4, ground := Ground.phase }, { on := 5, ground := Ground.phase }, { on := 6, ground := Ground.phase }, { on := 7, ground := Ground.phase }, { on := 8, ground := Ground.phase }, { on := 9, ground := Ground.phase }, { on := 10, ground := Ground.phase }, { on := 11, ground := Ground.phase }], guard := none }) (v := ?vk44) rfl (by kernel_rfl) (by kernel_rfl) (by kernel_rfl) (fun _ _ _ h => h) (Or.inl ⟨by rfl, ?hk44⟩) trivial ?rk44
          case hk44 => (intro wz hSw; (try dsimp only at hSw); go_simp; try with_reducible rfl)
          (try simp only [Act.put]); (try simp only [List.setIfInBounds_toArray]); (try simp only [List.set_cons_succ]); (try simp only [List.set_cons_zero])
          refine wpAnyH_take (i := 13) (oi := { dst := some 28, op := Op.fieldAddr 89 (Operand.tmp 27) 1, type := 0, pos := "vers.go:47", after := #[{ on := 12, ground := Ground.data }, { on := 0, ground := Ground.phase }, { on := 1, ground := Ground.phase }, { on := 2, ground := Ground.phase }, { on := 3, ground := Ground.phase }, { on := 4, ground := Ground.phase }, { on := 5, ground := Ground.phase }, { on := 6, ground := Ground.phase }, { on := 7, ground := Ground.phase }, { on := 8, ground := Ground.phase }, { on := 9, ground := Ground.phase }, { on := 10, ground := Ground.phase }, { on := 11, ground := Ground.phase }], guard := none }) (v := ?vk45) rfl (by kernel_rfl) (by kernel_rfl) (by kernel_rfl) (fun _ _ _ h => h) (Or.inl ⟨by rfl, ?hk45⟩) trivial ?rk45
          case hk45 => (intro wz hSw; (try dsimp only at hSw); go_simp; try with_reducible rfl)
          (try simp only [Act.put]); (try simp only [List.setIfInBounds_toArray]); (try simp only [List.set_cons_succ]); (try simp only [List.set_cons_zero])
          refine wpAnyH_ready (rs := [14]) (by kernel_rfl) (by simp) ?_
          refine AllReadyH.cons (o := { dst := none, op := Op.store 46 (Operand.tmp 28) (Operand.tmp 26), type := 0, pos := "vers.go:47", after := #[{ on := 13, ground := Ground.data }, { on := 11, ground := Ground.data }, { on := 11, ground := Ground.chain }, { on := 0, ground := Ground.phase }, { on := 1, ground := Ground.phase }, { on := 2, ground := Ground.phase }, { on := 3, ground := Ground.phase }, { on := 4, ground := Ground.phase }, { on := 5, ground := Ground.phase }, { on := 6, ground := Ground.phase }, { on := 7, ground := Ground.phase }, { on := 8, ground := Ground.phase }, { on := 9, ground := Ground.phase }, { on := 10, ground := Ground.phase }, { on := 11, ground := Ground.phase }], guard := none }) rfl (fun K hK => ?_) AllReadyH.nil
          · skip
            refine stepStoreS ?_ (.tmp 28) (.tmp 26) ?_ b 1 a43 (L.take p ++ ⟨Fl.canon key, n⟩ :: L.drop p).length k43 ?_ ?_ q43 r43 ?_
            · rfl
            · rfl
            · rfl
            · rfl
            refine hK.out _ _ trivial (fun _ => ?_)
            clear hK K
            (try simp only [Act.put]); (try simp only [List.setIfInBounds_toArray]); (try simp only [List.set_cons_succ]); (try simp only [List.set_cons_zero])
            refine wpAnyH_done (by kernel_rfl) ?_ _
            refine NoPanic.normal ?_
            go_wp2
            exact bodyPost_ret (v := .int .i64 0) (by simp [results, Try.results12, go_sem]) rfl ST43.out.2.2
  · skip
    refine stepCall1 ?_ 47 (.tmp 21) #[23] ?_ (.float .f64 key) ?_ ?_ (ent_canon _ _) ?_
    · rfl
    · rfl
    · rfl
    · rfl
    refine (canon_any key hk _).mono ?_
    rintro e y46 ⟨rfl, rfl⟩
    refine ⟨_, rfl, ?_⟩
    refine hK.out _ _ trivial (fun _ => ?_)
    clear hK K
    (try simp only [Act.put]); (try simp only [List.setIfInBounds_toArray]); (try simp only [List.set_cons_succ]); (try simp only [List.set_cons_zero])
    refine wpAnyH_take (i := 9) (oi := { dst := some 24, op := Op.build 52 #[(0, Operand.tmp 22), (1, Operand.tmp 23)], type := 52, pos := "vers.go:47", after := #[{ on := 7, ground := Ground.data }, { on := 8, ground := Ground.data }], guard := none }) (v := ?vk47) rfl (by kernel_rfl) (by kernel_rfl) (by kernel_rfl) (fun _ _ _ h => h) (Or.inl ⟨by rfl, ?hk47⟩) trivial ?rk47
    case hk47 => (intro wz hSw; (try dsimp only at hSw); go_simp; try with_reducible rfl)
    (try simp only [Act.put]); (try simp only [List.setIfInBounds_toArray]); (try simp only [List.set_cons_succ]); (try simp only [List.set_cons_zero])
    refine wpAnyH_ready (rs := [4, 10]) (by kernel_rfl) (by simp) ?_
    refine AllReadyH.cons (o := { dst := some 19, op := Op.load 46 (Operand.tmp 18), type := 46, pos := "vers.go:47", after := #[{ on := 3, ground := Ground.data }], guard := none }) rfl (fun K hK => ?_) (AllReadyH.cons (o := { dst := some 25, op := Op.buildSlice 46 1 #[(0, Operand.tmp 24)], type := 46, pos := "vers.go:47", after := #[{ on := 9, ground := Ground.data }], guard := none }) rfl (fun K hK => ?_) AllReadyH.nil)
    · skip
      refine stepLoadS ?_ (.tmp 18) ?_ b 1 a N c ?_ hv6 ?_
      · rfl
      · rfl
      · rfl
      refine hK.out _ _ trivial (fun _ => ?_)
      clear hK K
      (try simp only [Act.put]); (try simp only [List.setIfInBounds_toArray]); (try simp only [List.set_cons_succ]); (try simp only [List.set_cons_zero])
      refine wpAnyH_ready (rs := [10]) (by kernel_rfl) (by simp) ?_
      refine AllReadyH.cons (o := { dst := some 25, op := Op.buildSlice 46 1 #[(0, Operand.tmp 24)], type := 46, pos := "vers.go:47", after := #[{ on := 9, ground := Ground.data }], guard := none }) rfl (fun K hK => ?_) AllReadyH.nil
      · skip
        refine stepBuildI ?_ (.tmp 24) ?_ ⟨Fl.canon key, n⟩ ?_ ?_
        · rfl
        · rfl
        · rfl
        intro m48 x48 hm48 hx48
        have HX48 := hid (newRow w6 m48 x48 ⟨Fl.canon key, n⟩ hm48 hx48)
        clear hm48 hx48
        have hc48 := HX48.out.1.keep hv6
        refine hK.out _ _ trivial (fun _ => ?_)
        clear hK K
        (try simp only [Act.put]); (try simp only [List.setIfInBounds_toArray]); (try simp only [List.set_cons_succ]); (try simp only [List.set_cons_zero])
        refine wpAnyH_ready (rs := [11]) (by kernel_rfl) (by simp) ?_
        refine AllReadyH.cons (o := { dst := some 26, op := Op.call { callee := Callee.value (Operand.func 46), args := #[Operand.tmp 19, Operand.tmp 20, Operand.tmp 25], argTypes := #[46, 3, 46] }, type := 46, pos := "vers.go:47", after := #[{ on := 4, ground := Ground.data }, { on := 5, ground := Ground.data }, { on := 10, ground := Ground.data }, { on := 7, ground := Ground.chain }], guard := none }) rfl (fun K hK => ?_) AllReadyH.nil
        · skip
          refine stepCall3 ?_ 46 (.tmp 19) (.tmp 20) (.tmp 25) #[46, 3, 46] ?_ (.slice a N c) (.int .i64 (p : Nat)) (.slice (some ⟨m48, 0, none⟩) 1 1) ?_ ?_ ?_ ?_ (ent_ins _ _) ?_
          · rfl
          · rfl
          · rfl
          · rfl
          · rfl
          · rfl
          refine (HIns.out x48 m48 (U6.out.trans HX48.out.1) HX48.out.2.1 (Nat.le_trans U6.out.size HX48.out.2.2)).mono ?_
          rintro e y49 ⟨v49, rfl, o49, c49, n49⟩
          obtain ⟨a49, k49, hv49⟩ := o49.len
          subst hv49
          have ST49 := hid (HFin.out x48 y49 _ (U6.out.trans HX48.out.1) o49 c49 n49)
          have q49 := ST49.out.1
          have r49 := ST49.out.2.1
          refine ⟨_, rfl, ?_⟩
          refine hK.out _ _ trivial (fun _ => ?_)
          clear hK K
          (try simp only [Act.put]); (try simp only [List.setIfInBounds_toArray]); (try simp only [List.set_cons_succ]); (try simp only [List.set_cons_zero])
          refine wpAnyH_take (i := 12) (oi := { dst := some 27, op := Op.nilCheck (Operand.tmp 15), type := 0, pos := "vers.go:47", after := #[{ on := 0, ground := Ground.data }, { on := 0, ground := Ground.phase }, { on := 1, ground := Ground.phase }, { on := 2, ground := Ground.phase }, { on := 3, ground := Ground.phase }, { on := 4, ground := Ground.phase }, { on := 5, ground := Ground.phase }, { on := 6, ground := Ground.phase }, { on := 7, ground := Ground.phase }, { on := 8, ground := Ground.phase }, { on := 9, ground := Ground.phase }, { on := 10, ground := Ground.phase }, { on := 11, ground := Ground.phase }], guard := none }) (v := ?vk50) rfl (by kernel_rfl) (by kernel_rfl) (by kernel_rfl) (fun _ _ _ h => h) (Or.inl ⟨by rfl, ?hk50⟩) trivial ?rk50
          case hk50 => (intro wz hSw; (try dsimp only at hSw); go_simp; try with_reducible rfl)
          (try simp only [Act.put]); (try simp only [List.setIfInBounds_toArray]); (try simp only [List.set_cons_succ]); (try simp only [List.set_cons_zero])
          refine wpAnyH_take (i := 13) (oi := { dst := some 28, op := Op.fieldAddr 89 (Operand.tmp 27) 1, type := 0, pos := "vers.go:47", after := #[{ on := 12, ground := Ground.data }, { on := 0, ground := Ground.phase }, { on := 1, ground := Ground.phase }, { on := 2, ground := Ground.phase }, { on := 3, ground := Ground.phase }, { on := 4, ground := Ground.phase }, { on := 5, ground := Ground.phase }, { on := 6, ground := Ground.phase }, { on := 7, ground := Ground.phase }, { on := 8, ground := Ground.phase }, { on := 9, ground := Ground.phase }, { on := 10, ground := Ground.phase }, { on := 11, ground := Ground.phase }], guard := none }) (v := ?vk51) rfl (by kernel_rfl) (by kernel_rfl) (by kernel_rfl) (fun _ _ _ h => h) (Or.inl ⟨by rfl, ?hk51⟩) trivial ?rk51
          case hk51 => (intro wz hSw; (try dsimp only at hSw); go_simp; try with_reducible rfl)
          (try simp only [Act.put]); (try simp only [List.setIfInBounds_toArray]); (try simp only [List.set_cons_succ]); (try simp only [List.set_cons_zero])
          refine wpAnyH_ready (rs := [14]) (by kernel_rfl) (by simp) ?_
          refine AllReadyH.cons (o := { dst := none, op := Op.store 46 (Operand.tmp 28) (Operand.tmp 26), type := 0, pos := "vers.go:47", after := #[{ on := 13, ground := Ground.data }, { on := 11, ground := Ground.data }, { on := 11, ground := Ground.chain }, { on := 0, ground := Ground.phase }, { on := 1, ground := Ground.phase }, { on := 2, ground := Ground.phase }, { on := 3, ground := Ground.phase }, { on := 4, ground := Ground.phase }, { on := 5, ground := Ground.phase }, { on := 6, ground := Ground.phase }, { on := 7, ground := Ground.phase }, { on := 8, ground := Ground.phase }, { on := 9, ground := Ground.phase }, { on := 10, ground := Ground.phase }, { on := 11, ground := Ground.phase }], guard := none }) rfl (fun K hK => ?_) AllReadyH.nil
          · skip
            refine stepStoreS ?_ (.tmp 28) (.tmp 26) ?_ b 1 a49 (L.take p ++ ⟨Fl.canon key, n⟩ :: L.drop p).length k49 ?_ ?_ q49 r49 ?_
            · rfl
            · rfl
            · rfl
            · rfl
            refine hK.out _ _ trivial (fun _ => ?_)
            clear hK K
            (try simp only [Act.put]); (try simp only [List.setIfInBounds_toArray]); (try simp only [List.set_cons_succ]); (try simp only [List.set_cons_zero])
            refine wpAnyH_done (by kernel_rfl) ?_ _
            refine NoPanic.normal ?_
            go_wp2
            exact bodyPost_ret (v := .int .i64 0) (by simp [results, Try.results12, go_sem]) rfl ST49.out.2.2
    · skip
      refine stepBuildI ?_ (.tmp 24) ?_ ⟨Fl.canon key, n⟩ ?_ ?_
      · rfl
      · rfl
      · rfl
      intro m52 x52 hm52 hx52
      have HX52 := hid (newRow w6 m52 x52 ⟨Fl.canon key, n⟩ hm52 hx52)
      clear hm52 hx52
      have hc52 := HX52.out.1.keep hv6
      refine hK.out _ _ trivial (fun _ => ?_)
      clear hK K
      (try simp only [Act.put]); (try simp only [List.setIfInBounds_toArray]); (try simp only [List.set_cons_succ]); (try simp only [List.set_cons_zero])
      refine wpAnyH_ready (rs := [4]) (by kernel_rfl) (by simp) ?_
      refine AllReadyH.cons (o := { dst := some 19, op := Op.load 46 (Operand.tmp 18), type := 46, pos := "vers.go:47", after := #[{ on := 3, ground := Ground.data }], guard := none }) rfl (fun K hK => ?_) AllReadyH.nil
      · skip
        refine stepLoadS ?_ (.tmp 18) ?_ b 1 a N c ?_ hc52 ?_
        · rfl
        · rfl
        · rfl
        refine hK.out _ _ trivial (fun _ => ?_)
        clear hK K
        (try simp only [Act.put]); (try simp only [List.setIfInBounds_toArray]); (try simp only [List.set_cons_succ]); (try simp only [List.set_cons_zero])
        refine wpAnyH_ready (rs := [11]) (by kernel_rfl) (by simp) ?_
        refine AllReadyH.cons (o := { dst := some 26, op := Op.call { callee := Callee.value (Operand.func 46), args := #[Operand.tmp 19, Operand.tmp 20, Operand.tmp 25], argTypes := #[46, 3, 46] }, type := 46, pos := "vers.go:47", after := #[{ on := 4, ground := Ground.data }, { on := 5, ground := Ground.data }, { on := 10, ground := Ground.data }, { on := 7, ground := Ground.chain }], guard := none }) rfl (fun K hK => ?_) AllReadyH.nil
        · skip
          refine stepCall3 ?_ 46 (.tmp 19) (.tmp 20) (.tmp 25) #[46, 3, 46] ?_ (.slice a N c) (.int .i64 (p : Nat)) (.slice (some ⟨m52, 0, none⟩) 1 1) ?_ ?_ ?_ ?_ (ent_ins _ _) ?_
          · rfl
          · rfl
          · rfl
          · rfl
          · rfl
          · rfl
          refine (HIns.out x52 m52 (U6.out.trans HX52.out.1) HX52.out.2.1 (Nat.le_trans U6.out.size HX52.out.2.2)).mono ?_
          rintro e y53 ⟨v53, rfl, o53, c53, n53⟩
          obtain ⟨a53, k53, hv53⟩ := o53.len
          subst hv53
          have ST53 := hid (HFin.out x52 y53 _ (U6.out.trans HX52.out.1) o53 c53 n53)
          have q53 := ST53.out.1
          have r53 := ST53.out.2.1
          refine ⟨_, rfl, ?_⟩
          refine hK.out _ _ trivial (fun _ => ?_)
          clear hK K
          (try simp only [Act.put]); (try simp only [List.setIfInBounds_toArray]); (try simp only [List.set_cons_succ]); (try simp only [List.set_cons_zero])
          refine wpAnyH_take (i := 12) (oi := { dst := some 27, op := Op.nilCheck (Operand.tmp 15), type := 0, pos := "vers.go:47", after := #[{ on := 0, ground := Ground.data }, { on := 0, ground := Ground.phase }, { on := 1, ground := Ground.phase }, { on := 2, ground := Ground.phase }, { on := 3, ground := Ground.phase }, { on := 4, ground := Ground.phase }, { on := 5, ground := Ground.phase }, { on := 6, ground := Ground.phase }, { on := 7, ground := Ground.phase }, { on := 8, ground := Ground.phase }, { on := 9, ground := Ground.phase }, { on := 10, ground := Ground.phase }, { on := 11, ground := Ground.phase }], guard := none }) (v := ?vk54) rfl (by kernel_rfl) (by kernel_rfl) (by kernel_rfl) (fun _ _ _ h => h) (Or.inl ⟨by rfl, ?hk54⟩) trivial ?rk54
          case hk54 => (intro wz hSw; (try dsimp only at hSw); go_simp; try with_reducible rfl)
          (try simp only [Act.put]); (try simp only [List.setIfInBounds_toArray]); (try simp only [List.set_cons_succ]); (try simp only [List.set_cons_zero])
          refine wpAnyH_take (i := 13) (oi := { dst := some 28, op := Op.fieldAddr 89 (Operand.tmp 27) 1, type := 0, pos := "vers.go:47", after := #[{ on := 12, ground := Ground.data }, { on := 0, ground := Ground.phase }, { on := 1, ground := Ground.phase }, { on := 2, ground := Ground.phase }, { on := 3, ground := Ground.phase }, { on := 4, ground := Ground.phase }, { on := 5, ground := Ground.phase }, { on := 6, ground := Ground.phase }, { on := 7, ground := Ground.phase }, { on := 8, ground := Ground.phase }, { on := 9, ground := Ground.phase }, { on := 10, ground := Ground.phase }, { on := 11, ground := Ground.phase }], guard := none }) (v := ?vk55) rfl (by kernel_rfl) (by kernel_rfl) (by kernel_rfl) (fun _ _ _ h => h) (Or.inl ⟨by rfl, ?hk55⟩) trivial ?rk55
          case hk55 => (intro wz hSw; (try dsimp only at hSw); go_simp; try with_reducible rfl)
          (try simp only [Act.put]); (try simp only [List.setIfInBounds_toArray]); (try simp only [List.set_cons_succ]); (try simp only [List.set_cons_zero])
          refine wpAnyH_ready (rs := [14]) (by kernel_rfl) (by simp) ?_
          refine AllReadyH.cons (o := { dst := none, op := Op.store 46 (Operand.tmp 28) (Operand.tmp 26), type := 0, pos := "vers.go:47", after := #[{ on := 13, ground := Ground.data }, { on := 11, ground := Ground.data }, { on := 11, ground := Ground.chain }, { on := 0, ground := Ground.phase }, { on := 1, ground := Ground.phase }, { on := 2, ground := Ground.phase }, { on := 3, ground := Ground.phase }, { on := 4, ground := Ground.phase }, { on := 5, ground := Ground.phase }, { on := 6, ground := Ground.phase }, { on := 7, ground := Ground.phase }, { on := 8, ground := Ground.phase }, { on := 9, ground := Ground.phase }, { on := 10, ground := Ground.phase }, { on := 11, ground := Ground.phase }], guard := none }) rfl (fun K hK => ?_) AllReadyH.nil
          · skip
            refine stepStoreS ?_ (.tmp 28) (.tmp 26) ?_ b 1 a53 (L.take p ++ ⟨Fl.canon key, n⟩ :: L.drop p).length k53 ?_ ?_ q53 r53 ?_
            · rfl
            · rfl
            · rfl
            · rfl
            refine hK.out _ _ trivial (fun _ => ?_)
            clear hK K
            (try simp only [Act.put]); (try simp only [List.setIfInBounds_toArray]); (try simp only [List.set_cons_succ]); (try simp only [List.set_cons_zero])
            refine wpAnyH_done (by kernel_rfl) ?_ _
            refine NoPanic.normal ?_
            go_wp2
            exact bodyPost_ret (v := .int .i64 0) (by simp [results, Try.results12, go_sem]) rfl ST53.out.2.2

/-- Put at every table. -/
def putR (key : Nat) (n most : Int) (L : List It) : Int × List It := if Fl.nan key = true then (40, L) else if n < 1 ∨ 1099511627776 < n then (43, L) else if there (Fl.code key) L = true then (0, putL ⟨Fl.canon key, n⟩ L) else if most ≤ (L.length : Int) then (3, L) else (0, putL ⟨Fl.canon key, n⟩ L)
theorem put_any (base b : Nat) (most n : Int) (v : Value) (L : List It) (key : Nat) (hk : Fl.W key) (w : World) (h : TabAt base w b most v L) (hG : Good L) (hL : L.length ≤ 1000000) :
    Calls Try.prog 12 #[.pointer (some ⟨b, 0, none⟩), .float .f64 key, .int .i64 n] w fun e w' => PutPost base b most v (putR key n most L).1 (putR key n most L).2 w e w' := by
  unfold putR
  by_cases hn : Fl.nan key = true
  · rw [if_pos hn]; exact put_nan base b most n v L key hk w h hG hL hn
  · rw [if_neg hn]
    have hn2 : Fl.nan key = false := by simpa using hn
    by_cases hb : n < 1 ∨ 1099511627776 < n
    · rw [if_pos hb]; exact put_num base b most n v L key hk w h hG hL hn2 hb
    · rw [if_neg hb]
      have b1 : ¬ n < 1 := fun e => hb (.inl e)
      have b2 : ¬ 1099511627776 < n := fun e => hb (.inr e)
      by_cases ht : there (Fl.code key) L = true
      · rw [if_pos ht]; exact put_there base b most n v L key hk w h hG hL hn2 b1 b2 ht
      · rw [if_neg ht]
        have ht2 : there (Fl.code key) L = false := by simpa using ht
        by_cases hm : most ≤ (L.length : Int)
        · rw [if_pos hm]; exact put_full base b most n v L key hk w h hG hL hn2 b1 b2 ht2 hm
        · rw [if_neg hm]; exact put_new base b most n v L key hk w h hG hL hn2 b1 b2 ht2 (by omega)
end Go.Proofs.Ytbjikfcegiagjaa
