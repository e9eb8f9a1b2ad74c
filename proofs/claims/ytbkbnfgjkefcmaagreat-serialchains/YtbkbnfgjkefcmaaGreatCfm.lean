/- What slices.CompactFunc with flo's own function returns at a row of numbers' forms: neighbours that are the same go; conditions: the row lies in memory and may be written. -/
import Derived.Test.YtbkbnfgjkefcmaaGreatOum
import Derived.Test.YtbkbnfgjkefcmaaGreatDt
import Derived.Lib.SliceRun
namespace Go.Proofs.YtbkbnfgjkefcmaaGreat
open Go.RowKit
set_option linter.unusedVariables false
attribute [local go_sem] run_bits run_frombits run_store_float eqF
/-- A row of numbers in the block g that may be written. -/
def RowW (w : World) (g n : Nat) (y : Nat → Nat) : Prop := ∀ i, i < n → w.cell? ⟨g, i, none⟩ = some (.float .f64 (y i)) ∧ w.frozen? ⟨g, i, none⟩ = false
/-- Nothing but the block g has turned. -/
structure Only (g : Nat) (w w' : World) : Prop where
  os : w'.os = w.os
  tape : w'.tape = w.tape
  output : w'.output = w.output
  size : w'.heap.size = w.heap.size
  block : ∀ k, k ≠ g → w'.heap[k]? = w.heap[k]?
theorem Only.refl (g : Nat) (w : World) : Only g w w := ⟨rfl, rfl, rfl, rfl, fun _ _ => rfl⟩
theorem Only.trans {g : Nat} {a b c : World} (h : Only g a b) (k : Only g b c) : Only g a c := ⟨k.os.trans h.os, k.tape.trans h.tape, k.output.trans h.output, k.size.trans h.size, fun i hi => (k.block i hi).trans (h.block i hi)⟩
theorem Only.drewN {g : Nat} {a b : World} (h : Only g a b) (n : Nat) : Only g a (b.drewN n) := ⟨h.os, h.tape, h.output, h.size, h.block⟩
theorem Only.set {g : Nat} {a b : World} (h : Only g a b) (o : Nat) (v : Value) : Only g a (b.setCell ⟨g, o, none⟩ v) := ⟨h.os, h.tape, h.output, by simpa using h.size, fun k hk => (Below.heap_setCell b ⟨g, o, none⟩ v k hk).trans (h.block k hk)⟩
theorem Only.sets {g : Nat} {a : World} : ∀ (vs : List Value) (o : Nat) {b : World}, Only g a b → Only g a (b.setCells g o vs)
  | [], _, _, h => h
  | v :: r, o, _, h => by rw [World.setCells]; exact Only.sets r (o + 1) (h.set o v)
theorem RowW.drewN {w : World} {g n : Nat} {y : Nat → Nat} (h : RowW w g n y) (m : Nat) : RowW (w.drewN m) g n y := h
def up1 (y : Nat → Nat) (k v : Nat) : Nat → Nat := fun i => if i = k then v else y i
theorem RowW.set {w : World} {g n : Nat} {y : Nat → Nat} (h : RowW w g n y) (k v : Nat) (hk : k < n) : RowW (w.setCell ⟨g, k, none⟩ (.float .f64 v)) g n (up1 y k v) := fun i hi => by
  obtain ⟨h1, h2⟩ := h i hi
  refine ⟨?_, by simpa using h2⟩
  by_cases e : i = k
  · subst e
    have := World.cell?_setCells_in g [.float .f64 v] i w (fun j hj => by simp at hj; subst hj; simp [h1]) 0 (by simp)
    simpa [World.setCells, up1] using this
  · have := World.cell?_setCells_out g [.float .f64 v] k w ⟨g, i, none⟩ (fun e2 => by simp at e2 ⊢; omega)
    simpa [World.setCells, up1, e, h1] using this
theorem zeroF (w : World) : (zeroValue 43).run Tryz.prog w = .ok (.float .f64 0) w := by kernel_rfl
/-- A call of two arguments through a function value, as one step of a region that draws. -/
theorem step_callv {P : Program} {ops : Array Oper} {o : Oper} {a : Act} {w : World} {K : Act → World → Prop} {Q : Exit → Act → World → Prop} {E : Prop} (hg : o.guard = none) (F : FuncId) (c s x : Operand) (ts : Array TypeId)
    (hop : o.op = Op.call { callee := Callee.value c, args := #[s, x], argTypes := ts }) (u v : Value) (hs : a.eval s = u) (hx : a.eval x = v) (hF : a.eval c = .func (.func F) #[] #[])
    (henter : (callFunc F #[u, v]).run P w = .ok (.enter F #[u, v]) w)
    (hc : Calls P F #[u, v] w fun e w' => ∃ r, e = .returned r ∧ K (a.put o.dst r) w') :
    if Region.wanted o (yielded ops a.tmps) = true then Oper.wp P o a w K Q else E := by
  have hw : Region.wanted o (yielded ops a.tmps) = true := by simp [Region.wanted, hg]
  rw [if_pos hw]
  unfold Oper.wp
  simp [execOp, hop, resolve, invoke, hs, hx, hF, Deferred.ofValue]
  rw [henter]
  refine hc.mono ?_
  rintro e w' ⟨r, rfl, hk⟩
  exact hk
theorem enter_same (args : Array Value) (w : World) : (callFunc 106 args).run Tryz.prog w = .ok (.enter 106 args) w := by kernel_rfl
set_option maxHeartbeats 400000 in
set_option maxRecDepth 20000 in
theorem same_form (a b : Nat) (ha : Fl.W a) (hb : Fl.W b) (hca : Fl.canon a = a) (hcb : Fl.canon b = b) (w : World) :
    Calls Tryz.prog 106 #[.float .f64 a, .float .f64 b] w fun e w' => e = .returned (.bool (decide (a = b))) ∧ w' = w := by
  have HC := hid (cmp_any a b ha hb w)
  have he : (Fl.cmpc a b == 0) = decide (a = b) := by
    rcases Fl.cmpc_cases a b with ⟨h1, h2⟩ | ⟨h1, h2⟩ | ⟨h1, h2⟩
    · rw [h1]; have : a ≠ b := fun e => by subst e; omega
      simp [this]
    · rw [h1]
      have e : Fl.canon a = Fl.canon b := by rw [← Fl.of_code a ha, ← Fl.of_code b hb, h2]
      rw [hca, hcb] at e
      simp [e]
    · rw [h1]; have : a ≠ b := fun e => by subst e; omega
      simp [this]
  generalize Fl.cmpc a b = C at *
  go_enter Tryz.func106, Tryz.ntmps106
  go_wp2_with (go_at_call 100; refine HC.out.mono ?_; rintro e w' ⟨rfl, hw⟩; have hw2 := hw.symm; subst hw2)
  go_ret
  exact ⟨by first | rfl | exact ret_b he, rfl⟩
set_option maxHeartbeats 400000 in
set_option maxRecDepth 20000 in
theorem compact_short (a : Option Addr) (n c : Nat) (fv : Value) (hn : n < 2) (w : World) :
    Calls Tryz.prog 105 #[.slice a n c, fv] w fun e w' => e = .returned (.slice a n c) ∧ w' = w := by
  go_enter Tryz.func105, Tryz.ntmps105
  go_wp2
  go_ret
  exact ⟨rfl, rfl⟩
set_option maxRecDepth 20000 in
set_option maxHeartbeats 2000000 in
set_option maxRecDepth 20000 in
theorem compact_any (g n cap : Nat) (x : Nat → Nat) (hn : 2 ≤ n) (hnc : n ≤ cap) (hm : cap ≤ maxLen) (w : World) (h : RowW w g n x) (hW : ∀ i, i < n → Fl.W (x i) ∧ Fl.canon (x i) = x i) :
    Calls Tryz.prog 105 #[.slice (some ⟨g, 0, none⟩) n cap, .func (.func 106) #[] #[]] w fun e w' => e = .returned (.slice (some ⟨g, 0, none⟩) (Fl.dt x n).length cap) ∧ (∀ i, i < (Fl.dt x n).length → w'.cell? ⟨g, i, none⟩ = (Fl.dt x n)[i]?.map (Value.float .f64)) ∧ (∀ i, i < n → w'.frozen? ⟨g, i, none⟩ = false) ∧ Only g w w' := by
  unfold maxLen at hm
  have HW := hid hW
  have HR := hid h
  clear h hW
  go_enter Tryz.func105, Tryz.ntmps105
  go_wp2
  go_loopw [5] (fun i wr => ∃ k : Nat, 1 ≤ k ∧ k ≤ n ∧ i = .int .i64 (k : Nat) ∧ (∀ j, 0 < j → j < k → x j ≠ x (j - 1)) ∧ ∃ dn, wr = w.drewN dn) (fun i _ => n - (intOf i).toNat)
  case atStart => exact ⟨1, by omega, by omega, rfl, fun j h1 h2 => by omega, 0, rfl⟩
  case round =>
    obtain ⟨k, hk1, hkn, rfl, hfresh, dn, rfl⟩ := hrel
    have HF := hid hfresh
    clear hfresh
    by_cases hlt : k < n
    · obtain ⟨c1, _⟩ := HR.out k hlt
      obtain ⟨c0, _⟩ := HR.out (k - 1) (by omega)
      obtain ⟨w1, f1⟩ := HW.out k hlt
      obtain ⟨w2, f2⟩ := HW.out (k - 1) (by omega)
      have eS : wrap64 ((k : Int) - 1) = ((k - 1 : Nat) : Int) := by unfold wrap64; omega
      have eS2 : IntKind.i64.wrap ((k : Int) - 1) = ((k - 1 : Nat) : Int) := by rw [IntKind.wrap_i64]; omega
      have HS := hid (fun W => same_form (x k) (x (k - 1)) w1 w2 f1 f2 W)
      have l1 : (k : Int) < (n : Int) := by omega
      have l0 : (0 : Int) ≤ (k : Int) := by omega
      have m1 : ((k - 1 : Nat) : Int) < (n : Int) := by omega
      have hkm : k - 1 < n := by omega
      by_cases he : x k = x (k - 1)
      · rw [show decide (x k = x (k - 1)) = true by simp [he]] at HS
        have hd0 := Fl.dt_fresh x k HF.out
        have hd1 : Fl.dt x (k + 1) = Fl.dt x k := by rw [Fl.dt, if_pos ⟨by omega, he⟩]
        have HD : Hid ((Fl.dt x (k + 1)).length = k ∧ ∀ i, i < k → (Fl.dt x (k + 1))[i]? = some (x i)) := by rw [hd1]; exact hd0
        clear he hd0 hd1
        generalize x k = A at c1 HS
        generalize x (k - 1) = B at c0 HS
        clear w1 f1 w2 f2
        go_wp2
        refine wp_region_held_drew (S := fun W => W.cell? ⟨g, k, none⟩ = some (.float .f64 A) ∧ W.cell? ⟨g, k - 1, none⟩ = some (.float .f64 B)) (by kernel_rfl) ?_ (fun hHeld => ?_)
        · exact ⟨c1, c0⟩
        clear hHeld
        refine wpAnyH_take (i := 0) (oi := { dst := some 18, op := Op.move (Operand.tmp 1), type := 100, pos := "slices.go:401", after := #[], guard := none }) (v := ?vk1) rfl (by kernel_rfl) (by kernel_rfl) (by kernel_rfl) (fun _ _ _ h => h) (Or.inl ⟨by rfl, ?hk1⟩) ⟨c1, c0⟩ ?rk1
        case hk1 => (intro wz hSw; (try dsimp only at hSw); go_simp; try with_reducible rfl)
        (try simp only [Act.put]); (try simp only [List.setIfInBounds_toArray]); (try simp only [List.set_cons_succ]); (try simp only [List.set_cons_zero])
        refine wpAnyH_take (i := 1) (oi := { dst := some 19, op := Op.move (Operand.tmp 0), type := 28, pos := "slices.go:401", after := #[], guard := none }) (v := ?vk2) rfl (by kernel_rfl) (by kernel_rfl) (by kernel_rfl) (fun _ _ _ h => h) (Or.inl ⟨by rfl, ?hk2⟩) ⟨c1, c0⟩ ?rk2
        case hk2 => (intro wz hSw; (try dsimp only at hSw); go_simp; try with_reducible rfl)
        (try simp only [Act.put]); (try simp only [List.setIfInBounds_toArray]); (try simp only [List.set_cons_succ]); (try simp only [List.set_cons_zero])
        refine wpAnyH_take (i := 2) (oi := { dst := some 20, op := Op.move (Operand.tmp 5), type := 3, pos := "slices.go:401", after := #[], guard := none }) (v := ?vk3) rfl (by kernel_rfl) (by kernel_rfl) (by kernel_rfl) (fun _ _ _ h => h) (Or.inl ⟨by rfl, ?hk3⟩) ⟨c1, c0⟩ ?rk3
        case hk3 => (intro wz hSw; (try dsimp only at hSw); go_simp; try with_reducible rfl)
        (try simp only [Act.put]); (try simp only [List.setIfInBounds_toArray]); (try simp only [List.set_cons_succ]); (try simp only [List.set_cons_zero])
        refine wpAnyH_take (i := 3) (oi := { dst := some 21, op := Op.indexAddr 28 (Operand.tmp 19) (Operand.tmp 20), type := 0, pos := "slices.go:401", after := #[{ on := 1, ground := Ground.data }, { on := 2, ground := Ground.data }], guard := none }) (v := ?vk4) rfl (by kernel_rfl) (by kernel_rfl) (by kernel_rfl) (fun _ _ _ h => h) (Or.inl ⟨by rfl, ?hk4⟩) ⟨c1, c0⟩ ?rk4
        case hk4 => (intro wz hSw; (try dsimp only at hSw); go_simp; try with_reducible rfl)
        (try simp only [Act.put]); (try simp only [List.setIfInBounds_toArray]); (try simp only [List.set_cons_succ]); (try simp only [List.set_cons_zero])
        refine wpAnyH_take (i := 4) (oi := { dst := some 22, op := Op.load 43 (Operand.tmp 21), type := 43, pos := "slices.go:401", after := #[{ on := 3, ground := Ground.data }], guard := none }) (v := ?vk5) rfl (by kernel_rfl) (by kernel_rfl) (by kernel_rfl) (fun _ _ _ h => h) (Or.inl ⟨by rfl, ?hk5⟩) ⟨c1, c0⟩ ?rk5
        case hk5 => (intro wz hSw; (try dsimp only at hSw); go_simp; try with_reducible rfl)
        (try simp only [Act.put]); (try simp only [List.setIfInBounds_toArray]); (try simp only [List.set_cons_succ]); (try simp only [List.set_cons_zero])
        refine wpAnyH_take (i := 5) (oi := { dst := some 23, op := Op.move (Operand.tmp 0), type := 28, pos := "slices.go:401", after := #[], guard := none }) (v := ?vk6) rfl (by kernel_rfl) (by kernel_rfl) (by kernel_rfl) (fun _ _ _ h => h) (Or.inl ⟨by rfl, ?hk6⟩) ⟨c1, c0⟩ ?rk6
        case hk6 => (intro wz hSw; (try dsimp only at hSw); go_simp; try with_reducible rfl)
        (try simp only [Act.put]); (try simp only [List.setIfInBounds_toArray]); (try simp only [List.set_cons_succ]); (try simp only [List.set_cons_zero])
        refine wpAnyH_take (i := 6) (oi := { dst := some 24, op := Op.move (Operand.tmp 5), type := 3, pos := "slices.go:401", after := #[], guard := none }) (v := ?vk7) rfl (by kernel_rfl) (by kernel_rfl) (by kernel_rfl) (fun _ _ _ h => h) (Or.inl ⟨by rfl, ?hk7⟩) ⟨c1, c0⟩ ?rk7
        case hk7 => (intro wz hSw; (try dsimp only at hSw); go_simp; try with_reducible rfl)
        (try simp only [Act.put]); (try simp only [List.setIfInBounds_toArray]); (try simp only [List.set_cons_succ]); (try simp only [List.set_cons_zero])
        refine wpAnyH_take (i := 7) (oi := { dst := some 25, op := Op.binOp BinOp.sub 3 (Operand.tmp 24) (Operand.const (Value.int IntKind.i64 1)) 3, type := 3, pos := "slices.go:401", after := #[{ on := 6, ground := Ground.data }], guard := none }) (v := ?vk8) rfl (by kernel_rfl) (by kernel_rfl) (by kernel_rfl) (fun _ _ _ h => h) (Or.inl ⟨by rfl, ?hk8⟩) ⟨c1, c0⟩ ?rk8
        case hk8 => (intro wz hSw; (try dsimp only at hSw); go_simp; try with_reducible rfl)
        (try simp only [Act.put]); (try simp only [List.setIfInBounds_toArray]); (try simp only [List.set_cons_succ]); (try simp only [List.set_cons_zero])
        refine wpAnyH_take (i := 8) (oi := { dst := some 26, op := Op.indexAddr 28 (Operand.tmp 23) (Operand.tmp 25), type := 0, pos := "slices.go:401", after := #[{ on := 5, ground := Ground.data }, { on := 7, ground := Ground.data }], guard := none }) (v := ?vk9) rfl (by kernel_rfl) (by kernel_rfl) (by kernel_rfl) (fun _ _ _ h => h) (Or.inl ⟨by rfl, ?hk9⟩) ⟨c1, c0⟩ ?rk9
        case hk9 => (intro wz hSw; (try dsimp only at hSw); go_simp; try with_reducible rfl)
        (try simp only [Act.put]); (try simp only [List.setIfInBounds_toArray]); (try simp only [List.set_cons_succ]); (try simp only [List.set_cons_zero])
        refine wpAnyH_take (i := 9) (oi := { dst := some 27, op := Op.load 43 (Operand.tmp 26), type := 43, pos := "slices.go:401", after := #[{ on := 8, ground := Ground.data }], guard := none }) (v := ?vk10) rfl (by kernel_rfl) (by kernel_rfl) (by kernel_rfl) (fun _ _ _ h => h) (Or.inl ⟨by rfl, ?hk10⟩) ⟨c1, c0⟩ ?rk10
        case hk10 => (intro wz hSw; (try dsimp only at hSw); go_simp; try with_reducible rfl)
        (try simp only [Act.put]); (try simp only [List.setIfInBounds_toArray]); (try simp only [List.set_cons_succ]); (try simp only [List.set_cons_zero])
        refine wpAnyH_ready (rs := [10]) (by kernel_rfl) (by simp) ?_
        refine AllReadyH.cons (o := { dst := some 28, op := Op.call { callee := Callee.value (Operand.tmp 18), args := #[Operand.tmp 22, Operand.tmp 27], argTypes := #[43, 43] }, type := 4, pos := "slices.go:401", after := #[{ on := 0, ground := Ground.data }, { on := 4, ground := Ground.data }, { on := 9, ground := Ground.data }], guard := none }) rfl (fun K hK => ?_) AllReadyH.nil
        refine step_callv ?_ 106 (.tmp 18) (.tmp 22) (.tmp 27) #[43, 43] ?_ (.float .f64 A) (.float .f64 B) ?_ ?_ ?_ (enter_same _ _) ?_
        · rfl
        · rfl
        · rfl
        · rfl
        · rfl
        refine (HS.out _).mono ?_
        rintro e wq ⟨rfl, hw⟩
        have hw2 := hw.symm
        subst hw2
        refine ⟨_, rfl, ?_⟩
        refine hK.out _ _ ⟨c1, c0⟩ (fun _ => ?_)
        clear hK K
        (try simp only [Act.put]); (try simp only [List.setIfInBounds_toArray]); (try simp only [List.set_cons_succ]); (try simp only [List.set_cons_zero])
        refine wpAnyH_done (by kernel_rfl) ?_ _
        go_wp2
        clear c0 c1 HS eS eS2 l1 l0 m1 hkm
        go_loopw [5, 7] (fun kv jv wr => ∃ (j : Nat) (y : Nat → Nat), 1 ≤ j ∧ j ≤ n - k ∧ jv = .int .i64 (j : Nat) ∧ kv = .int .i64 ((Fl.dt x (k + j)).length : Nat) ∧ (Fl.dt x (k + j)).length ≤ k + j - 1 ∧ RowW wr g n y ∧ (∀ i, i < (Fl.dt x (k + j)).length → (Fl.dt x (k + j))[i]? = some (y i)) ∧ (∀ i, k + j - 1 ≤ i → i < n → y i = x i) ∧ Only g w wr) (fun _ jv _ => n - k - (intOf jv).toNat)
        case atStart => exact ⟨1, x, by omega, by omega, rfl, by rw [HD.out.1], by rw [HD.out.1]; omega, HR.out, fun i hi => HD.out.2 i (by rw [← HD.out.1]; exact hi), fun i _ _ => rfl, ((Only.refl g w).drewN _).drewN 1⟩
        case round =>
          obtain ⟨j, y, hj1, hj2, rfl, rfl, hkk, hrow, hpre, hsuf, hon⟩ := hrel
          have HRow := hid hrow
          have HPre := hid hpre
          have HSuf := hid hsuf
          have HOn := hid hon
          clear hrow hpre hsuf hon HD
          by_cases hjl : j < n - k
          · have hkj : k + j < n := by omega
            have d1 := (HRow.out (k + j) (by omega)).1
            have d0 := (HRow.out (k + (j - 1)) (by omega)).1
            rw [HSuf.out (k + j) (by omega) (by omega)] at d1
            rw [HSuf.out (k + (j - 1)) (by omega) (by omega)] at d0
            obtain ⟨w1, f1⟩ := HW.out (k + j) (by omega)
            obtain ⟨w2, f2⟩ := HW.out (k + (j - 1)) (by omega)
            have HS2 := hid (fun W => same_form (x (k + j)) (x (k + (j - 1))) w1 w2 f1 f2 W)
            have eS : IntKind.i64.wrap ((j : Int) - 1) = ((j - 1 : Nat) : Int) := by rw [IntKind.wrap_i64]; omega
            have l1 : (j : Int) < ((n - k : Nat) : Int) := by omega
            have l0 : (0 : Int) ≤ (j : Int) := by omega
            have m1 : ((j - 1 : Nat) : Int) < ((n - k : Nat) : Int) := by omega
            have m2 : j - 1 < n - k := by omega
            have hdt : Fl.dt x (k + (j + 1)) = if k + j ≠ 0 ∧ x (k + j) = x (k + j - 1) then Fl.dt x (k + j) else Fl.dt x (k + j) ++ [x (k + j)] := rfl
            rw [show k + j - 1 = k + (j - 1) by omega] at hdt
            by_cases he : x (k + j) = x (k + (j - 1))
            · rw [show decide (x (k + j) = x (k + (j - 1))) = true by simp [he]] at HS2
              rw [if_pos ⟨by omega, he⟩] at hdt
              have HNext : Hid (∀ W, RowW W g n y → Only g w W → ∃ (j' : Nat) (y' : Nat → Nat), 1 ≤ j' ∧ j' ≤ n - k ∧ (Value.int .i64 ((j : Int) + 1)) = .int .i64 (j' : Nat) ∧ (Value.int .i64 ((Fl.dt x (k + j)).length : Nat)) = .int .i64 ((Fl.dt x (k + j')).length : Nat) ∧ (Fl.dt x (k + j')).length ≤ k + j' - 1 ∧ RowW W g n y' ∧ (∀ i, i < (Fl.dt x (k + j')).length → (Fl.dt x (k + j'))[i]? = some (y' i)) ∧ (∀ i, k + j' - 1 ≤ i → i < n → y' i = x i) ∧ Only g w W) := fun W h1 h2 => ⟨j + 1, y, by omega, by omega, by simp, by rw [hdt], by rw [hdt]; omega, h1, by rw [hdt]; exact HPre.out, fun i hi1 hi2 => HSuf.out i (by omega) hi2, h2⟩
              clear he hdt w1 w2 f1 f2 HF HPre HSuf HW
              generalize x (k + j) = A at d1 HS2
              generalize x (k + (j - 1)) = B at d0 HS2
              generalize (Fl.dt x (k + j)).length = KK at *
              go_wp2
              refine wp_region_held_drew (S := fun W => W.cell? ⟨g, k + j, none⟩ = some (.float .f64 A) ∧ W.cell? ⟨g, k + (j - 1), none⟩ = some (.float .f64 B)) (by kernel_rfl) ?_ (fun hHeld => ?_)
              · exact ⟨d1, d0⟩
              clear hHeld
              refine wpAnyH_take (i := 0) (oi := { dst := some 38, op := Op.move (Operand.tmp 1), type := 100, pos := "slices.go:404", after := #[], guard := none }) (v := ?vk11) rfl (by kernel_rfl) (by kernel_rfl) (by kernel_rfl) (fun _ _ _ h => h) (Or.inl ⟨by rfl, ?hk11⟩) ⟨d1, d0⟩ ?rk11
              case hk11 => (intro wz hSw; (try dsimp only at hSw); go_simp; try with_reducible rfl)
              (try simp only [Act.put]); (try simp only [List.setIfInBounds_toArray]); (try simp only [List.set_cons_succ]); (try simp only [List.set_cons_zero])
              refine wpAnyH_take (i := 1) (oi := { dst := some 39, op := Op.move (Operand.tmp 6), type := 28, pos := "slices.go:404", after := #[], guard := none }) (v := ?vk12) rfl (by kernel_rfl) (by kernel_rfl) (by kernel_rfl) (fun _ _ _ h => h) (Or.inl ⟨by rfl, ?hk12⟩) ⟨d1, d0⟩ ?rk12
              case hk12 => (intro wz hSw; (try dsimp only at hSw); go_simp; try with_reducible rfl)
              (try simp only [Act.put]); (try simp only [List.setIfInBounds_toArray]); (try simp only [List.set_cons_succ]); (try simp only [List.set_cons_zero])
              refine wpAnyH_take (i := 2) (oi := { dst := some 40, op := Op.move (Operand.tmp 7), type := 3, pos := "slices.go:404", after := #[], guard := none }) (v := ?vk13) rfl (by kernel_rfl) (by kernel_rfl) (by kernel_rfl) (fun _ _ _ h => h) (Or.inl ⟨by rfl, ?hk13⟩) ⟨d1, d0⟩ ?rk13
              case hk13 => (intro wz hSw; (try dsimp only at hSw); go_simp; try with_reducible rfl)
              (try simp only [Act.put]); (try simp only [List.setIfInBounds_toArray]); (try simp only [List.set_cons_succ]); (try simp only [List.set_cons_zero])
              refine wpAnyH_take (i := 3) (oi := { dst := some 41, op := Op.indexAddr 28 (Operand.tmp 39) (Operand.tmp 40), type := 0, pos := "slices.go:404", after := #[{ on := 1, ground := Ground.data }, { on := 2, ground := Ground.data }], guard := none }) (v := ?vk14) rfl (by kernel_rfl) (by kernel_rfl) (by kernel_rfl) (fun _ _ _ h => h) (Or.inl ⟨by rfl, ?hk14⟩) ⟨d1, d0⟩ ?rk14
              case hk14 => (intro wz hSw; (try dsimp only at hSw); go_simp; try with_reducible rfl)
              (try simp only [Act.put]); (try simp only [List.setIfInBounds_toArray]); (try simp only [List.set_cons_succ]); (try simp only [List.set_cons_zero])
              refine wpAnyH_take (i := 4) (oi := { dst := some 42, op := Op.load 43 (Operand.tmp 41), type := 43, pos := "slices.go:404", after := #[{ on := 3, ground := Ground.data }], guard := none }) (v := ?vk15) rfl (by kernel_rfl) (by kernel_rfl) (by kernel_rfl) (fun _ _ _ h => h) (Or.inl ⟨by rfl, ?hk15⟩) ⟨d1, d0⟩ ?rk15
              case hk15 => (intro wz hSw; (try dsimp only at hSw); go_simp; try with_reducible rfl)
              (try simp only [Act.put]); (try simp only [List.setIfInBounds_toArray]); (try simp only [List.set_cons_succ]); (try simp only [List.set_cons_zero])
              refine wpAnyH_take (i := 5) (oi := { dst := some 43, op := Op.move (Operand.tmp 6), type := 28, pos := "slices.go:404", after := #[], guard := none }) (v := ?vk16) rfl (by kernel_rfl) (by kernel_rfl) (by kernel_rfl) (fun _ _ _ h => h) (Or.inl ⟨by rfl, ?hk16⟩) ⟨d1, d0⟩ ?rk16
              case hk16 => (intro wz hSw; (try dsimp only at hSw); go_simp; try with_reducible rfl)
              (try simp only [Act.put]); (try simp only [List.setIfInBounds_toArray]); (try simp only [List.set_cons_succ]); (try simp only [List.set_cons_zero])
              refine wpAnyH_take (i := 6) (oi := { dst := some 44, op := Op.move (Operand.tmp 7), type := 3, pos := "slices.go:404", after := #[], guard := none }) (v := ?vk17) rfl (by kernel_rfl) (by kernel_rfl) (by kernel_rfl) (fun _ _ _ h => h) (Or.inl ⟨by rfl, ?hk17⟩) ⟨d1, d0⟩ ?rk17
              case hk17 => (intro wz hSw; (try dsimp only at hSw); go_simp; try with_reducible rfl)
              (try simp only [Act.put]); (try simp only [List.setIfInBounds_toArray]); (try simp only [List.set_cons_succ]); (try simp only [List.set_cons_zero])
              refine wpAnyH_take (i := 7) (oi := { dst := some 45, op := Op.binOp BinOp.sub 3 (Operand.tmp 44) (Operand.const (Value.int IntKind.i64 1)) 3, type := 3, pos := "slices.go:404", after := #[{ on := 6, ground := Ground.data }], guard := none }) (v := ?vk18) rfl (by kernel_rfl) (by kernel_rfl) (by kernel_rfl) (fun _ _ _ h => h) (Or.inl ⟨by rfl, ?hk18⟩) ⟨d1, d0⟩ ?rk18
              case hk18 => (intro wz hSw; (try dsimp only at hSw); go_simp; try with_reducible rfl)
              (try simp only [Act.put]); (try simp only [List.setIfInBounds_toArray]); (try simp only [List.set_cons_succ]); (try simp only [List.set_cons_zero])
              refine wpAnyH_take (i := 8) (oi := { dst := some 46, op := Op.indexAddr 28 (Operand.tmp 43) (Operand.tmp 45), type := 0, pos := "slices.go:404", after := #[{ on := 5, ground := Ground.data }, { on := 7, ground := Ground.data }], guard := none }) (v := ?vk19) rfl (by kernel_rfl) (by kernel_rfl) (by kernel_rfl) (fun _ _ _ h => h) (Or.inl ⟨by rfl, ?hk19⟩) ⟨d1, d0⟩ ?rk19
              case hk19 => (intro wz hSw; (try dsimp only at hSw); go_simp; try with_reducible rfl)
              (try simp only [Act.put]); (try simp only [List.setIfInBounds_toArray]); (try simp only [List.set_cons_succ]); (try simp only [List.set_cons_zero])
              refine wpAnyH_take (i := 9) (oi := { dst := some 47, op := Op.load 43 (Operand.tmp 46), type := 43, pos := "slices.go:404", after := #[{ on := 8, ground := Ground.data }], guard := none }) (v := ?vk20) rfl (by kernel_rfl) (by kernel_rfl) (by kernel_rfl) (fun _ _ _ h => h) (Or.inl ⟨by rfl, ?hk20⟩) ⟨d1, d0⟩ ?rk20
              case hk20 => (intro wz hSw; (try dsimp only at hSw); go_simp; try with_reducible rfl)
              (try simp only [Act.put]); (try simp only [List.setIfInBounds_toArray]); (try simp only [List.set_cons_succ]); (try simp only [List.set_cons_zero])
              refine wpAnyH_ready (rs := [10]) (by kernel_rfl) (by simp) ?_
              refine AllReadyH.cons (o := { dst := some 48, op := Op.call { callee := Callee.value (Operand.tmp 38), args := #[Operand.tmp 42, Operand.tmp 47], argTypes := #[43, 43] }, type := 4, pos := "slices.go:404", after := #[{ on := 0, ground := Ground.data }, { on := 4, ground := Ground.data }, { on := 9, ground := Ground.data }], guard := none }) rfl (fun K hK => ?_) AllReadyH.nil
              refine step_callv ?_ 106 (.tmp 38) (.tmp 42) (.tmp 47) #[43, 43] ?_ (.float .f64 A) (.float .f64 B) ?_ ?_ ?_ (enter_same _ _) ?_
              · rfl
              · rfl
              · rfl
              · rfl
              · rfl
              refine (HS2.out _).mono ?_
              rintro e wq ⟨rfl, hw⟩
              have hw2 := hw.symm
              subst hw2
              refine ⟨_, rfl, ?_⟩
              refine hK.out _ _ ⟨d1, d0⟩ (fun _ => ?_)
              clear hK K
              (try simp only [Act.put]); (try simp only [List.setIfInBounds_toArray]); (try simp only [List.set_cons_succ]); (try simp only [List.set_cons_zero])
              refine wpAnyH_take (i := 11) (oi := { dst := some 49, op := Op.unOp UnOp.not 4 (Operand.tmp 48), type := 4, pos := "slices.go:404", after := #[{ on := 10, ground := Ground.data }], guard := none }) (v := ?vk21) rfl (by kernel_rfl) (by kernel_rfl) (by kernel_rfl) (fun _ _ _ h => h) (Or.inl ⟨by rfl, ?hk21⟩) ⟨d1, d0⟩ ?rk21
              case hk21 => (intro wz hSw; (try dsimp only at hSw); go_simp; try with_reducible rfl)
              (try simp only [Act.put]); (try simp only [List.setIfInBounds_toArray]); (try simp only [List.set_cons_succ]); (try simp only [List.set_cons_zero])
              refine wpAnyH_done (by kernel_rfl) ?_ _
              go_wp2
              go_roundw
              case rel => exact HNext.out _ HRow.out (HOn.out.drewN 1)
              case measure => simp [intOf]; omega
            · rw [show decide (x (k + j) = x (k + (j - 1))) = false by simp [he]] at HS2
              rw [if_neg (fun h => he h.2)] at hdt
              have hKn : (Fl.dt x (k + j)).length < n := by omega
              obtain ⟨cK, fK⟩ := HRow.out (Fl.dt x (k + j)).length hKn
              have HNext : Hid (∀ W, RowW W g n (up1 y (Fl.dt x (k + j)).length (x (k + j))) → Only g w W → ∃ (j' : Nat) (y' : Nat → Nat), 1 ≤ j' ∧ j' ≤ n - k ∧ (Value.int .i64 ((j : Int) + 1)) = .int .i64 (j' : Nat) ∧ (Value.int .i64 (((Fl.dt x (k + j)).length : Int) + 1)) = .int .i64 ((Fl.dt x (k + j')).length : Nat) ∧ (Fl.dt x (k + j')).length ≤ k + j' - 1 ∧ RowW W g n y' ∧ (∀ i, i < (Fl.dt x (k + j')).length → (Fl.dt x (k + j'))[i]? = some (y' i)) ∧ (∀ i, k + j' - 1 ≤ i → i < n → y' i = x i) ∧ Only g w W) := fun W h1 h2 => by
                refine ⟨j + 1, _, by omega, by omega, by simp, by rw [hdt]; simp, by rw [hdt]; simp; omega, h1, fun i hi => ?_, fun i hi1 hi2 => ?_, h2⟩
                · rw [hdt] at hi ⊢
                  unfold up1
                  by_cases e : i < (Fl.dt x (k + j)).length
                  · rw [List.getElem?_append_left e, HPre.out i e, if_neg (by omega)]
                  · simp at hi
                    obtain rfl : i = (Fl.dt x (k + j)).length := by omega
                    rw [List.getElem?_append_right (Nat.le_refl _)]; simp
                · unfold up1
                  rw [if_neg (by omega)]
                  exact HSuf.out i (by omega) hi2
              clear he hdt w1 w2 f1 f2 HF HPre HSuf HW
              generalize x (k + j) = A at d1 HS2 HNext
              generalize x (k + (j - 1)) = B at d0 HS2
              generalize (Fl.dt x (k + j)).length = KK at *
              have n1 : (KK : Int) < (n : Int) := by omega
              have n0 : (0 : Int) ≤ (KK : Int) := by omega
              go_wp2
              refine wp_region_held_drew (S := fun W => W.cell? ⟨g, k + j, none⟩ = some (.float .f64 A) ∧ W.cell? ⟨g, k + (j - 1), none⟩ = some (.float .f64 B)) (by kernel_rfl) ?_ (fun hHeld => ?_)
              · exact ⟨d1, d0⟩
              clear hHeld
              refine wpAnyH_take (i := 0) (oi := { dst := some 38, op := Op.move (Operand.tmp 1), type := 100, pos := "slices.go:404", after := #[], guard := none }) (v := ?vk22) rfl (by kernel_rfl) (by kernel_rfl) (by kernel_rfl) (fun _ _ _ h => h) (Or.inl ⟨by rfl, ?hk22⟩) ⟨d1, d0⟩ ?rk22
              case hk22 => (intro wz hSw; (try dsimp only at hSw); go_simp; try with_reducible rfl)
              (try simp only [Act.put]); (try simp only [List.setIfInBounds_toArray]); (try simp only [List.set_cons_succ]); (try simp only [List.set_cons_zero])
              refine wpAnyH_take (i := 1) (oi := { dst := some 39, op := Op.move (Operand.tmp 6), type := 28, pos := "slices.go:404", after := #[], guard := none }) (v := ?vk23) rfl (by kernel_rfl) (by kernel_rfl) (by kernel_rfl) (fun _ _ _ h => h) (Or.inl ⟨by rfl, ?hk23⟩) ⟨d1, d0⟩ ?rk23
              case hk23 => (intro wz hSw; (try dsimp only at hSw); go_simp; try with_reducible rfl)
              (try simp only [Act.put]); (try simp only [List.setIfInBounds_toArray]); (try simp only [List.set_cons_succ]); (try simp only [List.set_cons_zero])
              refine wpAnyH_take (i := 2) (oi := { dst := some 40, op := Op.move (Operand.tmp 7), type := 3, pos := "slices.go:404", after := #[], guard := none }) (v := ?vk24) rfl (by kernel_rfl) (by kernel_rfl) (by kernel_rfl) (fun _ _ _ h => h) (Or.inl ⟨by rfl, ?hk24⟩) ⟨d1, d0⟩ ?rk24
              case hk24 => (intro wz hSw; (try dsimp only at hSw); go_simp; try with_reducible rfl)
              (try simp only [Act.put]); (try simp only [List.setIfInBounds_toArray]); (try simp only [List.set_cons_succ]); (try simp only [List.set_cons_zero])
              refine wpAnyH_take (i := 3) (oi := { dst := some 41, op := Op.indexAddr 28 (Operand.tmp 39) (Operand.tmp 40), type := 0, pos := "slices.go:404", after := #[{ on := 1, ground := Ground.data }, { on := 2, ground := Ground.data }], guard := none }) (v := ?vk25) rfl (by kernel_rfl) (by kernel_rfl) (by kernel_rfl) (fun _ _ _ h => h) (Or.inl ⟨by rfl, ?hk25⟩) ⟨d1, d0⟩ ?rk25
              case hk25 => (intro wz hSw; (try dsimp only at hSw); go_simp; try with_reducible rfl)
              (try simp only [Act.put]); (try simp only [List.setIfInBounds_toArray]); (try simp only [List.set_cons_succ]); (try simp only [List.set_cons_zero])
              refine wpAnyH_take (i := 4) (oi := { dst := some 42, op := Op.load 43 (Operand.tmp 41), type := 43, pos := "slices.go:404", after := #[{ on := 3, ground := Ground.data }], guard := none }) (v := ?vk26) rfl (by kernel_rfl) (by kernel_rfl) (by kernel_rfl) (fun _ _ _ h => h) (Or.inl ⟨by rfl, ?hk26⟩) ⟨d1, d0⟩ ?rk26
              case hk26 => (intro wz hSw; (try dsimp only at hSw); go_simp; try with_reducible rfl)
              (try simp only [Act.put]); (try simp only [List.setIfInBounds_toArray]); (try simp only [List.set_cons_succ]); (try simp only [List.set_cons_zero])
              refine wpAnyH_take (i := 5) (oi := { dst := some 43, op := Op.move (Operand.tmp 6), type := 28, pos := "slices.go:404", after := #[], guard := none }) (v := ?vk27) rfl (by kernel_rfl) (by kernel_rfl) (by kernel_rfl) (fun _ _ _ h => h) (Or.inl ⟨by rfl, ?hk27⟩) ⟨d1, d0⟩ ?rk27
              case hk27 => (intro wz hSw; (try dsimp only at hSw); go_simp; try with_reducible rfl)
              (try simp only [Act.put]); (try simp only [List.setIfInBounds_toArray]); (try simp only [List.set_cons_succ]); (try simp only [List.set_cons_zero])
              refine wpAnyH_take (i := 6) (oi := { dst := some 44, op := Op.move (Operand.tmp 7), type := 3, pos := "slices.go:404", after := #[], guard := none }) (v := ?vk28) rfl (by kernel_rfl) (by kernel_rfl) (by kernel_rfl) (fun _ _ _ h => h) (Or.inl ⟨by rfl, ?hk28⟩) ⟨d1, d0⟩ ?rk28
              case hk28 => (intro wz hSw; (try dsimp only at hSw); go_simp; try with_reducible rfl)
              (try simp only [Act.put]); (try simp only [List.setIfInBounds_toArray]); (try simp only [List.set_cons_succ]); (try simp only [List.set_cons_zero])
              refine wpAnyH_take (i := 7) (oi := { dst := some 45, op := Op.binOp BinOp.sub 3 (Operand.tmp 44) (Operand.const (Value.int IntKind.i64 1)) 3, type := 3, pos := "slices.go:404", after := #[{ on := 6, ground := Ground.data }], guard := none }) (v := ?vk29) rfl (by kernel_rfl) (by kernel_rfl) (by kernel_rfl) (fun _ _ _ h => h) (Or.inl ⟨by rfl, ?hk29⟩) ⟨d1, d0⟩ ?rk29
              case hk29 => (intro wz hSw; (try dsimp only at hSw); go_simp; try with_reducible rfl)
              (try simp only [Act.put]); (try simp only [List.setIfInBounds_toArray]); (try simp only [List.set_cons_succ]); (try simp only [List.set_cons_zero])
              refine wpAnyH_take (i := 8) (oi := { dst := some 46, op := Op.indexAddr 28 (Operand.tmp 43) (Operand.tmp 45), type := 0, pos := "slices.go:404", after := #[{ on := 5, ground := Ground.data }, { on := 7, ground := Ground.data }], guard := none }) (v := ?vk30) rfl (by kernel_rfl) (by kernel_rfl) (by kernel_rfl) (fun _ _ _ h => h) (Or.inl ⟨by rfl, ?hk30⟩) ⟨d1, d0⟩ ?rk30
              case hk30 => (intro wz hSw; (try dsimp only at hSw); go_simp; try with_reducible rfl)
              (try simp only [Act.put]); (try simp only [List.setIfInBounds_toArray]); (try simp only [List.set_cons_succ]); (try simp only [List.set_cons_zero])
              refine wpAnyH_take (i := 9) (oi := { dst := some 47, op := Op.load 43 (Operand.tmp 46), type := 43, pos := "slices.go:404", after := #[{ on := 8, ground := Ground.data }], guard := none }) (v := ?vk31) rfl (by kernel_rfl) (by kernel_rfl) (by kernel_rfl) (fun _ _ _ h => h) (Or.inl ⟨by rfl, ?hk31⟩) ⟨d1, d0⟩ ?rk31
              case hk31 => (intro wz hSw; (try dsimp only at hSw); go_simp; try with_reducible rfl)
              (try simp only [Act.put]); (try simp only [List.setIfInBounds_toArray]); (try simp only [List.set_cons_succ]); (try simp only [List.set_cons_zero])
              refine wpAnyH_ready (rs := [10]) (by kernel_rfl) (by simp) ?_
              refine AllReadyH.cons (o := { dst := some 48, op := Op.call { callee := Callee.value (Operand.tmp 38), args := #[Operand.tmp 42, Operand.tmp 47], argTypes := #[43, 43] }, type := 4, pos := "slices.go:404", after := #[{ on := 0, ground := Ground.data }, { on := 4, ground := Ground.data }, { on := 9, ground := Ground.data }], guard := none }) rfl (fun K hK => ?_) AllReadyH.nil
              refine step_callv ?_ 106 (.tmp 38) (.tmp 42) (.tmp 47) #[43, 43] ?_ (.float .f64 A) (.float .f64 B) ?_ ?_ ?_ (enter_same _ _) ?_
              · rfl
              · rfl
              · rfl
              · rfl
              · rfl
              refine (HS2.out _).mono ?_
              rintro e wq ⟨rfl, hw⟩
              have hw2 := hw.symm
              subst hw2
              refine ⟨_, rfl, ?_⟩
              refine hK.out _ _ ⟨d1, d0⟩ (fun _ => ?_)
              clear hK K
              (try simp only [Act.put]); (try simp only [List.setIfInBounds_toArray]); (try simp only [List.set_cons_succ]); (try simp only [List.set_cons_zero])
              refine wpAnyH_take (i := 11) (oi := { dst := some 49, op := Op.unOp UnOp.not 4 (Operand.tmp 48), type := 4, pos := "slices.go:404", after := #[{ on := 10, ground := Ground.data }], guard := none }) (v := ?vk32) rfl (by kernel_rfl) (by kernel_rfl) (by kernel_rfl) (fun _ _ _ h => h) (Or.inl ⟨by rfl, ?hk32⟩) ⟨d1, d0⟩ ?rk32
              case hk32 => (intro wz hSw; (try dsimp only at hSw); go_simp; try with_reducible rfl)
              (try simp only [Act.put]); (try simp only [List.setIfInBounds_toArray]); (try simp only [List.set_cons_succ]); (try simp only [List.set_cons_zero])
              refine wpAnyH_done (by kernel_rfl) ?_ _
              go_wp2
              go_roundw
              case rel => exact HNext.out _ ((HRow.out.drewN 1).set KK A hKn) ((HOn.out.drewN 1).set KK _)
              case measure => simp [intOf]; omega
          · obtain rfl : j = n - k := by omega
            rw [show k + (n - k) = n by omega] at hkk HPre
            have hKn : (Fl.dt x n).length < n := by omega
            have hcc : ¬ cap = (Fl.dt x n).length := by omega
            have eD : Fl.dt x (k + (n - k)) = Fl.dt x n := by rw [show k + (n - k) = n by omega]
            rw [eD]
            have HCc : Hid (∀ i, i < n - (Fl.dt x n).length → (wr.cell? ⟨g, (Fl.dt x n).length + i, none⟩).isSome = true ∧ wr.frozen? ⟨g, (Fl.dt x n).length + i, none⟩ = false) := fun i hi => by
              obtain ⟨q1, q2⟩ := HRow.out ((Fl.dt x n).length + i) (by omega)
              exact ⟨by rw [q1]; rfl, q2⟩
            have HFin : Hid ((∀ i, i < (Fl.dt x n).length → (wr.setCells g (Fl.dt x n).length (List.replicate (n - (Fl.dt x n).length) (.float .f64 0))).cell? ⟨g, i, none⟩ = (Fl.dt x n)[i]?.map (Value.float .f64)) ∧ (∀ i, i < n → (wr.setCells g (Fl.dt x n).length (List.replicate (n - (Fl.dt x n).length) (.float .f64 0))).frozen? ⟨g, i, none⟩ = false) ∧ Only g w (wr.setCells g (Fl.dt x n).length (List.replicate (n - (Fl.dt x n).length) (.float .f64 0)))) := by
              refine ⟨fun i hi => ?_, fun i hi => ?_, Only.sets _ _ HOn.out⟩
              · rw [World.cell?_setCells_out g _ _ wr ⟨g, i, none⟩ (fun _ => by simp; omega), HPre.out i hi]
                exact (HRow.out i (by omega)).1
              · rw [World.frozen?_setCells]; exact (HRow.out i hi).2
            have HKK : Hid ((Fl.dt x n).length = (Fl.dt x n).length) := rfl
            clear HF HPre HSuf HW HRow HOn hjl hj1 hj2 eD
            generalize hKKe : (Fl.dt x n).length = KK at hkk hKn hcc HCc HFin ⊢
            have HKe := hid hKKe
            clear hKKe HKK
            have n1 : (KK : Int) ≤ (n : Int) := by omega
            have n0 : (0 : Int) ≤ (KK : Int) := by omega
            have HRun := hid (Go.Lib.run_clear_slice (P := Tryz.prog) wr 28 43 0 (.float .f64 0) Tryz.underlying28 zeroF rfl rfl g KK (n - KK) (cap - KK) (by omega) (fun i hi => (HCc.out i hi).1) (fun i hi => (HCc.out i hi).2))
            go_wp2
            rw [HRun.out]
            go_wp2
            go_ret
            have hf := HFin.out
            exact ⟨by rw [HKe.out]; rfl, fun i hi => hf.1 i (by rw [← HKe.out]; exact hi), hf.2.1, hf.2.2⟩
      · rw [show decide (x k = x (k - 1)) = false by simp [he]] at HS
        have HN : Hid (∀ j, 0 < j → j < k + 1 → x j ≠ x (j - 1)) := fun j h1 h2 => by
          by_cases e : j = k
          · subst e; exact he
          · exact HF.out j h1 (by omega)
        clear he
        generalize x k = A at c1 HS
        generalize x (k - 1) = B at c0 HS
        clear w1 f1 w2 f2
        go_wp2
        refine wp_region_held_drew (S := fun W => W.cell? ⟨g, k, none⟩ = some (.float .f64 A) ∧ W.cell? ⟨g, k - 1, none⟩ = some (.float .f64 B)) (by kernel_rfl) ?_ (fun hHeld => ?_)
        · exact ⟨c1, c0⟩
        clear hHeld
        refine wpAnyH_take (i := 0) (oi := { dst := some 18, op := Op.move (Operand.tmp 1), type := 100, pos := "slices.go:401", after := #[], guard := none }) (v := ?vk33) rfl (by kernel_rfl) (by kernel_rfl) (by kernel_rfl) (fun _ _ _ h => h) (Or.inl ⟨by rfl, ?hk33⟩) ⟨c1, c0⟩ ?rk33
        case hk33 => (intro wz hSw; (try dsimp only at hSw); go_simp; try with_reducible rfl)
        (try simp only [Act.put]); (try simp only [List.setIfInBounds_toArray]); (try simp only [List.set_cons_succ]); (try simp only [List.set_cons_zero])
        refine wpAnyH_take (i := 1) (oi := { dst := some 19, op := Op.move (Operand.tmp 0), type := 28, pos := "slices.go:401", after := #[], guard := none }) (v := ?vk34) rfl (by kernel_rfl) (by kernel_rfl) (by kernel_rfl) (fun _ _ _ h => h) (Or.inl ⟨by rfl, ?hk34⟩) ⟨c1, c0⟩ ?rk34
        case hk34 => (intro wz hSw; (try dsimp only at hSw); go_simp; try with_reducible rfl)
        (try simp only [Act.put]); (try simp only [List.setIfInBounds_toArray]); (try simp only [List.set_cons_succ]); (try simp only [List.set_cons_zero])
        refine wpAnyH_take (i := 2) (oi := { dst := some 20, op := Op.move (Operand.tmp 5), type := 3, pos := "slices.go:401", after := #[], guard := none }) (v := ?vk35) rfl (by kernel_rfl) (by kernel_rfl) (by kernel_rfl) (fun _ _ _ h => h) (Or.inl ⟨by rfl, ?hk35⟩) ⟨c1, c0⟩ ?rk35
        case hk35 => (intro wz hSw; (try dsimp only at hSw); go_simp; try with_reducible rfl)
        (try simp only [Act.put]); (try simp only [List.setIfInBounds_toArray]); (try simp only [List.set_cons_succ]); (try simp only [List.set_cons_zero])
        refine wpAnyH_take (i := 3) (oi := { dst := some 21, op := Op.indexAddr 28 (Operand.tmp 19) (Operand.tmp 20), type := 0, pos := "slices.go:401", after := #[{ on := 1, ground := Ground.data }, { on := 2, ground := Ground.data }], guard := none }) (v := ?vk36) rfl (by kernel_rfl) (by kernel_rfl) (by kernel_rfl) (fun _ _ _ h => h) (Or.inl ⟨by rfl, ?hk36⟩) ⟨c1, c0⟩ ?rk36
        case hk36 => (intro wz hSw; (try dsimp only at hSw); go_simp; try with_reducible rfl)
        (try simp only [Act.put]); (try simp only [List.setIfInBounds_toArray]); (try simp only [List.set_cons_succ]); (try simp only [List.set_cons_zero])
        refine wpAnyH_take (i := 4) (oi := { dst := some 22, op := Op.load 43 (Operand.tmp 21), type := 43, pos := "slices.go:401", after := #[{ on := 3, ground := Ground.data }], guard := none }) (v := ?vk37) rfl (by kernel_rfl) (by kernel_rfl) (by kernel_rfl) (fun _ _ _ h => h) (Or.inl ⟨by rfl, ?hk37⟩) ⟨c1, c0⟩ ?rk37
        case hk37 => (intro wz hSw; (try dsimp only at hSw); go_simp; try with_reducible rfl)
        (try simp only [Act.put]); (try simp only [List.setIfInBounds_toArray]); (try simp only [List.set_cons_succ]); (try simp only [List.set_cons_zero])
        refine wpAnyH_take (i := 5) (oi := { dst := some 23, op := Op.move (Operand.tmp 0), type := 28, pos := "slices.go:401", after := #[], guard := none }) (v := ?vk38) rfl (by kernel_rfl) (by kernel_rfl) (by kernel_rfl) (fun _ _ _ h => h) (Or.inl ⟨by rfl, ?hk38⟩) ⟨c1, c0⟩ ?rk38
        case hk38 => (intro wz hSw; (try dsimp only at hSw); go_simp; try with_reducible rfl)
        (try simp only [Act.put]); (try simp only [List.setIfInBounds_toArray]); (try simp only [List.set_cons_succ]); (try simp only [List.set_cons_zero])
        refine wpAnyH_take (i := 6) (oi := { dst := some 24, op := Op.move (Operand.tmp 5), type := 3, pos := "slices.go:401", after := #[], guard := none }) (v := ?vk39) rfl (by kernel_rfl) (by kernel_rfl) (by kernel_rfl) (fun _ _ _ h => h) (Or.inl ⟨by rfl, ?hk39⟩) ⟨c1, c0⟩ ?rk39
        case hk39 => (intro wz hSw; (try dsimp only at hSw); go_simp; try with_reducible rfl)
        (try simp only [Act.put]); (try simp only [List.setIfInBounds_toArray]); (try simp only [List.set_cons_succ]); (try simp only [List.set_cons_zero])
        refine wpAnyH_take (i := 7) (oi := { dst := some 25, op := Op.binOp BinOp.sub 3 (Operand.tmp 24) (Operand.const (Value.int IntKind.i64 1)) 3, type := 3, pos := "slices.go:401", after := #[{ on := 6, ground := Ground.data }], guard := none }) (v := ?vk40) rfl (by kernel_rfl) (by kernel_rfl) (by kernel_rfl) (fun _ _ _ h => h) (Or.inl ⟨by rfl, ?hk40⟩) ⟨c1, c0⟩ ?rk40
        case hk40 => (intro wz hSw; (try dsimp only at hSw); go_simp; try with_reducible rfl)
        (try simp only [Act.put]); (try simp only [List.setIfInBounds_toArray]); (try simp only [List.set_cons_succ]); (try simp only [List.set_cons_zero])
        refine wpAnyH_take (i := 8) (oi := { dst := some 26, op := Op.indexAddr 28 (Operand.tmp 23) (Operand.tmp 25), type := 0, pos := "slices.go:401", after := #[{ on := 5, ground := Ground.data }, { on := 7, ground := Ground.data }], guard := none }) (v := ?vk41) rfl (by kernel_rfl) (by kernel_rfl) (by kernel_rfl) (fun _ _ _ h => h) (Or.inl ⟨by rfl, ?hk41⟩) ⟨c1, c0⟩ ?rk41
        case hk41 => (intro wz hSw; (try dsimp only at hSw); go_simp; try with_reducible rfl)
        (try simp only [Act.put]); (try simp only [List.setIfInBounds_toArray]); (try simp only [List.set_cons_succ]); (try simp only [List.set_cons_zero])
        refine wpAnyH_take (i := 9) (oi := { dst := some 27, op := Op.load 43 (Operand.tmp 26), type := 43, pos := "slices.go:401", after := #[{ on := 8, ground := Ground.data }], guard := none }) (v := ?vk42) rfl (by kernel_rfl) (by kernel_rfl) (by kernel_rfl) (fun _ _ _ h => h) (Or.inl ⟨by rfl, ?hk42⟩) ⟨c1, c0⟩ ?rk42
        case hk42 => (intro wz hSw; (try dsimp only at hSw); go_simp; try with_reducible rfl)
        (try simp only [Act.put]); (try simp only [List.setIfInBounds_toArray]); (try simp only [List.set_cons_succ]); (try simp only [List.set_cons_zero])
        refine wpAnyH_ready (rs := [10]) (by kernel_rfl) (by simp) ?_
        refine AllReadyH.cons (o := { dst := some 28, op := Op.call { callee := Callee.value (Operand.tmp 18), args := #[Operand.tmp 22, Operand.tmp 27], argTypes := #[43, 43] }, type := 4, pos := "slices.go:401", after := #[{ on := 0, ground := Ground.data }, { on := 4, ground := Ground.data }, { on := 9, ground := Ground.data }], guard := none }) rfl (fun K hK => ?_) AllReadyH.nil
        refine step_callv ?_ 106 (.tmp 18) (.tmp 22) (.tmp 27) #[43, 43] ?_ (.float .f64 A) (.float .f64 B) ?_ ?_ ?_ (enter_same _ _) ?_
        · rfl
        · rfl
        · rfl
        · rfl
        · rfl
        refine (HS.out _).mono ?_
        rintro e wq ⟨rfl, hw⟩
        have hw2 := hw.symm
        subst hw2
        refine ⟨_, rfl, ?_⟩
        refine hK.out _ _ ⟨c1, c0⟩ (fun _ => ?_)
        clear hK K
        (try simp only [Act.put]); (try simp only [List.setIfInBounds_toArray]); (try simp only [List.set_cons_succ]); (try simp only [List.set_cons_zero])
        refine wpAnyH_done (by kernel_rfl) ?_ _
        go_wp2
        go_roundw
        case rel => exact ⟨k + 1, by omega, by omega, by go_num, HN.out, _, rfl⟩
        case measure => simp [intOf]; omega
    · obtain rfl : n = k := by omega
      have hd := Fl.dt_fresh x n HF.out
      have HD := hid hd
      clear hd HW
      go_wp2
      go_ret
      refine ⟨by rw [HD.out.1]; rfl, fun i hi => ?_, fun i hi => (HR.out i hi).2, (Only.refl g w).drewN _⟩
      rw [HD.out.2 i (by rw [← HD.out.1]; exact hi)]
      exact (HR.out i (by rw [← HD.out.1]; exact hi)).1
end Go.Proofs.YtbkbnfgjkefcmaaGreat
