/- What pack.Read returns, by what the function that reads does: it returns, or ends by the Reader's own panic; conditions: the row lies in memory. -/
import Derived.Test.YtpofccnifecpfaaRd
import Derived.Defers
import Derived.Recover
import Derived.Lib.Builder
namespace Go.Proofs.Ytpofccnifecpfaa
open Go.RowKit
set_option linter.unusedVariables false
theorem infoReader : (Try.prog.info? 60).isSome = true := by kernel_rfl
/-- Old memory is as it was, but for the blocks of S. -/
structure Chg (S : List Nat) (w w' : World) : Prop where
  os : w'.os = w.os
  tape : w'.tape = w.tape
  output : w'.output = w.output
  size : w.heap.size ≤ w'.heap.size
  block : ∀ k, k < w.heap.size → k ∉ S → w'.heap[k]? = w.heap[k]?
theorem Chg.refl (S : List Nat) (w : World) : Chg S w w := ⟨rfl, rfl, rfl, Nat.le_refl _, fun _ _ _ => rfl⟩
theorem Chg.trans {S : List Nat} {a b c : World} (h : Chg S a b) (k : Chg S b c) : Chg S a c :=
  ⟨k.os.trans h.os, k.tape.trans h.tape, k.output.trans h.output, Nat.le_trans h.size k.size, fun i hi hn => (k.block i (Nat.lt_of_lt_of_le hi h.size) hn).trans (h.block i hi hn)⟩
theorem Chg.mono {S T : List Nat} {a b : World} (h : Chg S a b) (hs : ∀ k, k ∈ S → k ∈ T) : Chg T a b := ⟨h.os, h.tape, h.output, h.size, fun i hi hn => h.block i hi (fun e => hn (hs i e))⟩
theorem Chg.of_by {R : Nat} {a b : World} (h : a.grownBy b (some R)) (S : List Nat) (hs : R ∈ S) : Chg S a b := ⟨h.os, h.tape, h.output, h.size, fun i hi hn => h.block i hi (fun e => hn (by cases e; exact hs))⟩
theorem Chg.set {S : List Nat} (w : World) (p : Addr) (v : Value) (hs : p.block ∈ S) : Chg S w (w.setCell p v) :=
  ⟨rfl, rfl, rfl, by simp, fun i hi hn => Below.heap_setCell w p v i (fun e => hn (by rw [e]; exact hs))⟩
theorem Chg.below {S : List Nat} {a b : World} (h : Chg S a b) (B : Nat) (hB : ∀ k, k ∈ S → B ≤ k) (hs : B ≤ a.heap.size) : Below B a b :=
  ⟨h.os, h.tape, h.output, h.size, fun k hk => h.block k (Nat.lt_of_lt_of_le hk hs) (fun e => by have := hB k e; omega)⟩
theorem tmps45 (A B : Value) : (#[A, B] : Array Value) ++ Array.replicate (Try.f33.ntmps - (#[A, B] : Array Value).size) undef = #[A, B, undef, undef, undef, undef, undef, undef, undef, undef, undef, undef, undef, undef, undef, undef, undef, undef, undef] := by rw [Try.ntmps33]; rfl
set_option maxHeartbeats 400000 in
theorem catch_idle (rv cv R : Nat) (a : Option Addr) (n cap : Nat) (F : Int) (hF : F = if 0 < n then 30 else 0) (k : Int) (w : World) (h : Rd w R (.slice a n cap) 0 true) (hr : w.cell? ⟨rv, 0, none⟩ = some (.pointer (some ⟨R, 0, none⟩))) (hc : (shut w R).cell? ⟨cv, 0, none⟩ = some (.int .i64 k)) (hf : (shut w R).frozen? ⟨cv, 0, none⟩ = false) :
    CallsD Try.prog 33 #[.pointer (some ⟨rv, 0, none⟩), .pointer (some ⟨cv, 0, none⟩)] .returning w fun e u' w' => e = .returned (.tuple #[]) ∧ u' = .returning ∧ w' = (shut w R).setCell ⟨cv, 0, none⟩ (.int .i64 F) := by
  have HC := hid (close_ok R a n cap true F hF w h)
  clear h hF
  refine callsD_of_wpS Try.func33 rfl fun c₀ cs hu => ?_
  rw [tmps45]
  apply wpS_seq
  refine wpS_of_wp ?_
  go_wp2_with (go_at_call 34; refine HC.out.mono ?_; rintro e w' ⟨rfl, rfl⟩)
  refine wpS_seq ?_
  apply wpS_region
  generalize hQ : Exit.thenS (Code.wpS Try.prog _ _) _ = QQ
  simp [wpOpsS, go_sem, recoverD, hu]
  subst hQ
  refine wpS_of_wp ?_
  go_wp2
  refine ⟨rfl, .returning, by cases c₀; simp_all, .tuple #[], by simp [results, Try.results33], rfl, rfl, rfl⟩
set_option maxHeartbeats 1000000 in
theorem catch_panic (rv cv R : Nat) (c : Int) (hz : c ≠ 0) (k : Int) (w : World) (h : RF w R c) (hr : (shut w R).cell? ⟨rv, 0, none⟩ = some (.pointer (some ⟨R, 0, none⟩))) (hr0 : w.cell? ⟨rv, 0, none⟩ = some (.pointer (some ⟨R, 0, none⟩))) (hc : (shut w R).cell? ⟨cv, 0, none⟩ = some (.int .i64 k)) (hf : (shut w R).frozen? ⟨cv, 0, none⟩ = false) (hne : rv ≠ cv) :
    CallsD Try.prog 33 #[.pointer (some ⟨rv, 0, none⟩), .pointer (some ⟨cv, 0, none⟩)] (.panicking (ended R)) w fun e u' w' => e = .returned (.tuple #[]) ∧ u' = .panicking [{ v := .iface 63 (.agg #[.pointer (some ⟨R, 0, none⟩)]), recovered := true }] ∧ w' = ((shut w R).setCell ⟨cv, 0, none⟩ (.int .i64 c)).alloc (.cells #[.pointer (some ⟨R, 0, none⟩)] 63) := by
  have HC := hid (close_code R _ c true hz w h)
  have hr2 : ((shut w R).setCell ⟨cv, 0, none⟩ (.int .i64 c)).cell? ⟨rv, 0, none⟩ = some (.pointer (some ⟨R, 0, none⟩)) := by rw [World.cell?_of_block (Below.heap_setCell _ _ _ _ hne)]; exact hr
  have hr3 : (((shut w R).setCell ⟨cv, 0, none⟩ (.int .i64 c)).alloc (.cells #[.pointer (some ⟨R, 0, none⟩)] 63)).cell? ⟨rv, 0, none⟩ = some (.pointer (some ⟨R, 0, none⟩)) := ((Up.refl _).alloc _).keep hr2
  obtain ⟨ji, hji⟩ := Option.isSome_iff_exists.mp infoReader
  have hpp := fun w => Lib.run_neq_ptr_same (P := Try.prog) (w := w) ⟨R, 0, none⟩ Try.underlying41 hji
  have hta : ∀ (v : Value) (w : World), (Instr.typeAssert (.iface 63 v) 20 63 true).run Try.prog w = .ok (.tuple #[v, .bool true]) w := fun _ _ => by kernel_rfl
  clear h hz
  unfold ended
  refine callsD_of_wpS Try.func33 rfl fun c₀ cs hu => ?_
  rw [tmps45]
  apply wpS_seq
  refine wpS_of_wp ?_
  go_wp2_with (go_at_call 34; refine HC.out.mono ?_; rintro e w' ⟨rfl, rfl⟩)
  refine wpS_seq ?_
  apply wpS_region
  generalize hQ : Exit.thenS (Code.wpS Try.prog _ _) _ = QQ
  simp [wpOpsS, go_sem, recoverD, hu]
  subst hQ
  refine wpS_of_wp ?_
  go_wp2
  exact ⟨rfl, _, rfl, .tuple #[], by simp [results, Try.results33], rfl, rfl, rfl⟩
/-- The world in which the function that reads begins. -/
def opened (w : World) (vb : Value) : World := ((w.alloc (.cells #[.int .i64 0] 26)).alloc (.cells #[vb, .int .i64 0, .bool true] 60)).alloc (.cells #[.pointer (some ⟨w.heap.size + 1, 0, none⟩)] 41)
theorem opened_size (w : World) (vb : Value) : (opened w vb).heap.size = w.heap.size + 3 := by simp [opened]
theorem opened_c (w : World) (vb : Value) : (opened w vb).heap[w.heap.size]? = some (.cells #[.int .i64 0] 26 (0, 0)) := by
  unfold opened
  rw [Below.heap_alloc _ _ _ (by simp; omega), Below.heap_alloc _ _ _ (by simp)]; exact heap_new _ _
theorem opened_R (w : World) (vb : Value) : (opened w vb).heap[w.heap.size + 1]? = some (.cells #[vb, .int .i64 0, .bool true] 60 (0, 0)) := by
  unfold opened
  rw [Below.heap_alloc _ _ _ (by simp)]
  have := heap_new (w.alloc (.cells #[.int .i64 0] 26)) (.cells #[vb, .int .i64 0, .bool true] 60)
  rw [show (w.alloc (.cells #[.int .i64 0] 26)).heap.size = w.heap.size + 1 by simp] at this
  exact this
theorem opened_r (w : World) (vb : Value) : (opened w vb).heap[w.heap.size + 1 + 1]? = some (.cells #[.pointer (some ⟨w.heap.size + 1, 0, none⟩)] 41 (0, 0)) := by
  unfold opened
  have := heap_new ((w.alloc (.cells #[.int .i64 0] 26)).alloc (.cells #[vb, .int .i64 0, .bool true] 60)) (.cells #[.pointer (some ⟨w.heap.size + 1, 0, none⟩)] 41)
  rw [show ((w.alloc (.cells #[.int .i64 0] 26)).alloc (.cells #[vb, .int .i64 0, .bool true] 60)).heap.size = w.heap.size + 1 + 1 by simp] at this
  exact this
theorem opened_up (w : World) (vb : Value) : Up w (opened w vb) := (((Up.refl w).alloc _).alloc _).alloc _
theorem shut_other (w : World) (R k : Nat) (h : k ≠ R) : (shut w R).heap[k]? = w.heap[k]? := by
  unfold shut
  rw [Below.heap_setCell _ _ _ _ h, Below.heap_setCell _ _ _ _ h, Below.heap_setCell _ _ _ _ h]
theorem shut_below (w : World) (R B : Nat) (h : B ≤ R) : Below B w (shut w R) :=
  (((Below.refl B w).setCell h _).setCell h _).setCell h _
theorem Chg.alloc {S : List Nat} (w : World) (o : Obj) : Chg S w (w.alloc o) := ⟨rfl, rfl, rfl, by simp, fun k hk _ => Below.heap_alloc w o k hk⟩
theorem shut_chg (w : World) (R : Nat) (S : List Nat) (h : R ∈ S) : Chg S w (shut w R) := ((Chg.set w ⟨R, 0, none⟩ _ h).trans (Chg.set _ ⟨R, 1, none⟩ _ h)).trans (Chg.set _ ⟨R, 2, none⟩ _ h)
set_option maxHeartbeats 1000000 in
theorem read_any2 (F : FuncId) (caps : Array Value) (henter : ∀ args w, (callFunc F args).run Try.prog w = .ok (.enter F args) w) (w : World) (a0 : Option Addr) (n0 c0 : Nat) (OK : World → Nat → Prop) (NO : World → Int → Prop)
    (hf : Calls Try.prog F (#[.pointer (some ⟨w.heap.size + 1, 0, none⟩)] ++ caps) (opened w (.slice a0 n0 c0)) fun e W2 => (W2.heap[w.heap.size]? = (opened w (.slice a0 n0 c0)).heap[w.heap.size]? ∧ W2.heap[w.heap.size + 1 + 1]? = (opened w (.slice a0 n0 c0)).heap[w.heap.size + 1 + 1]?) ∧
      ((e = .returned (.tuple #[]) ∧ ∃ a n cap, Rd W2 (w.heap.size + 1) (.slice a n cap) 0 true ∧ OK W2 n) ∨ (e = .panicked (ended (w.heap.size + 1)) ∧ ∃ cd, cd ≠ 0 ∧ RF W2 (w.heap.size + 1) cd ∧ NO W2 cd))) :
    Calls Try.prog 15 #[.slice a0 n0 c0, .func (.func F) #[] caps] w fun e W4 => ∃ W2, Chg [w.heap.size, w.heap.size + 1] W2 W4 ∧ ((∃ n, OK W2 n ∧ e = .returned (.int .i64 (if 0 < n then 30 else 0))) ∨ (∃ cd, NO W2 cd ∧ e = .returned (.int .i64 cd))) := by
  have hmf : ∀ (fn : Fn) (first cap : Array Value) (w : World), (Instr.makeFunc fn first cap).run Try.prog w = .ok (.func fn first cap) w := fun _ _ _ _ => rfl
  have hfn : ∀ w, (binOp .neq 46 (.func (.func F) #[] caps) .nilFunc).run Try.prog w = .ok (.bool true) w := fun _ => by kernel_rfl
  have HF := hid hf
  clear hf
  go_enter_defers Try.func15, Try.ntmps15
  go_wp2_with (fail)
  refine HF.out.mono ?_
  rintro e W2 ⟨⟨hb0, hb2⟩, hcase⟩
  rw [opened_c] at hb0
  rw [opened_r] at hb2
  have s0 : (shut W2 (w.heap.size + 1)).heap[w.heap.size]? = some (.cells #[.int .i64 0] 26 (0, 0)) := by rw [shut_other _ _ _ (by omega)]; exact hb0
  have s2 : (shut W2 (w.heap.size + 1)).heap[w.heap.size + 1 + 1]? = some (.cells #[.pointer (some ⟨w.heap.size + 1, 0, none⟩)] 41 (0, 0)) := by rw [shut_other _ _ _ (by omega)]; exact hb2
  have hs1 := fun (F : Int) => cell_of_one (one_setCell (u := .int .i64 F) s0)
  rcases hcase with ⟨rfl, a, n, cap, hr, hok⟩ | ⟨rfl, cd, hcd, hr, hno⟩
  · have HR := hid hr
    have H0 := hid s0
    have H1 := hid hs1
    have HB := hid hb2
    have HO := hid hok
    clear hr s0 s2 hs1 hb0 hb2 hok HF henter
    go_wp2
    refine leaves_cons (f := 33) (args := #[.pointer (some ⟨w.heap.size + 1 + 1, 0, none⟩), .pointer (some ⟨w.heap.size, 0, none⟩)]) (by simp) (by simp [go_sem]) ?_
    refine (catch_idle (w.heap.size + 1 + 1) w.heap.size (w.heap.size + 1) a n cap _ rfl 0 W2 HR.out (cell_of_one HB.out) (cell_of_one H0.out) (free_of_one H0.out)).mono ?_
    rintro e u' w'' ⟨rfl, rfl, rfl⟩
    have h1 := H1.out (if 0 < n then 30 else 0)
    simp [Leaves, settle, results, Try.results15, go_sem, h1]
    exact ⟨W2, (shut_chg W2 (w.heap.size + 1) _ (by simp)).trans (Chg.set _ _ _ (by simp)), .inl ⟨n, HO.out, rfl⟩⟩
  · have HR := hid hr
    have H0 := hid s0
    have H2 := hid s2
    have H1 := hid hs1
    have HB := hid hb2
    have HO := hid hno
    have HD := hid hcd
    clear hr s0 s2 hs1 hb0 hb2 hno HF henter hcd
    unfold ended
    go_wp2
    refine leaves_cons (f := 33) (args := #[.pointer (some ⟨w.heap.size + 1 + 1, 0, none⟩), .pointer (some ⟨w.heap.size, 0, none⟩)]) (by simp) (by simp [go_sem]) ?_
    refine (catch_panic (w.heap.size + 1 + 1) w.heap.size (w.heap.size + 1) cd HD.out 0 W2 HR.out (cell_of_one H2.out) (cell_of_one HB.out) (cell_of_one H0.out) (free_of_one H0.out) (by omega)).mono ?_
    rintro e u' w'' ⟨rfl, rfl, rfl⟩
    have h1 : (((shut W2 (w.heap.size + 1)).setCell ⟨w.heap.size, 0, none⟩ (.int .i64 cd)).alloc (.cells #[.pointer (some ⟨w.heap.size + 1, 0, none⟩)] 63)).cell? ⟨w.heap.size, 0, none⟩ = some (.int .i64 cd) := ((Up.refl _).alloc _).keep (H1.out cd)
    have hsz : w.heap.size ≤ (shut W2 (w.heap.size + 1)).heap.size := by have := lt_of_block H0.out; omega
    simp [Leaves, settle, results, Try.results15, go_sem, h1]
    exact ⟨W2, ((shut_chg W2 (w.heap.size + 1) _ (by simp)).trans (Chg.set _ _ _ (by simp))).trans (Chg.alloc _ _), .inr HO.out⟩
set_option maxHeartbeats 1000000 in
theorem read_any (F : FuncId) (caps : Array Value) (henter : ∀ args w, (callFunc F args).run Try.prog w = .ok (.enter F args) w) (w : World) (a0 : Option Addr) (n0 c0 : Nat) (OK : World → Nat → Prop) (NO : World → Int → Prop)
    (hf : Calls Try.prog F (#[.pointer (some ⟨w.heap.size + 1, 0, none⟩)] ++ caps) (opened w (.slice a0 n0 c0)) fun e W2 => (W2.heap[w.heap.size]? = (opened w (.slice a0 n0 c0)).heap[w.heap.size]? ∧ W2.heap[w.heap.size + 1 + 1]? = (opened w (.slice a0 n0 c0)).heap[w.heap.size + 1 + 1]?) ∧
      ((e = .returned (.tuple #[]) ∧ ∃ a n cap, Rd W2 (w.heap.size + 1) (.slice a n cap) 0 true ∧ OK W2 n) ∨ (e = .panicked (ended (w.heap.size + 1)) ∧ ∃ cd, cd ≠ 0 ∧ RF W2 (w.heap.size + 1) cd ∧ NO W2 cd))) :
    Calls Try.prog 15 #[.slice a0 n0 c0, .func (.func F) #[] caps] w fun e W4 => ∃ W2, Below w.heap.size W2 W4 ∧ ((∃ n, OK W2 n ∧ e = .returned (.int .i64 (if 0 < n then 30 else 0))) ∨ (∃ cd, NO W2 cd ∧ e = .returned (.int .i64 cd))) := by
  have hmf : ∀ (fn : Fn) (first cap : Array Value) (w : World), (Instr.makeFunc fn first cap).run Try.prog w = .ok (.func fn first cap) w := fun _ _ _ _ => rfl
  have hfn : ∀ w, (binOp .neq 46 (.func (.func F) #[] caps) .nilFunc).run Try.prog w = .ok (.bool true) w := fun _ => by kernel_rfl
  have HF := hid hf
  clear hf
  go_enter_defers Try.func15, Try.ntmps15
  go_wp2_with (fail)
  refine HF.out.mono ?_
  rintro e W2 ⟨⟨hb0, hb2⟩, hcase⟩
  rw [opened_c] at hb0
  rw [opened_r] at hb2
  have s0 : (shut W2 (w.heap.size + 1)).heap[w.heap.size]? = some (.cells #[.int .i64 0] 26 (0, 0)) := by rw [shut_other _ _ _ (by omega)]; exact hb0
  have s2 : (shut W2 (w.heap.size + 1)).heap[w.heap.size + 1 + 1]? = some (.cells #[.pointer (some ⟨w.heap.size + 1, 0, none⟩)] 41 (0, 0)) := by rw [shut_other _ _ _ (by omega)]; exact hb2
  have hs1 := fun (F : Int) => cell_of_one (one_setCell (u := .int .i64 F) s0)
  rcases hcase with ⟨rfl, a, n, cap, hr, hok⟩ | ⟨rfl, cd, hcd, hr, hno⟩
  · have HR := hid hr
    have H0 := hid s0
    have H1 := hid hs1
    have HB := hid hb2
    have HO := hid hok
    clear hr s0 s2 hs1 hb0 hb2 hok HF henter
    go_wp2
    refine leaves_cons (f := 33) (args := #[.pointer (some ⟨w.heap.size + 1 + 1, 0, none⟩), .pointer (some ⟨w.heap.size, 0, none⟩)]) (by simp) (by simp [go_sem]) ?_
    refine (catch_idle (w.heap.size + 1 + 1) w.heap.size (w.heap.size + 1) a n cap _ rfl 0 W2 HR.out (cell_of_one HB.out) (cell_of_one H0.out) (free_of_one H0.out)).mono ?_
    rintro e u' w'' ⟨rfl, rfl, rfl⟩
    have h1 := H1.out (if 0 < n then 30 else 0)
    simp [Leaves, settle, results, Try.results15, go_sem, h1]
    exact ⟨W2, (shut_below W2 (w.heap.size + 1) w.heap.size (by omega)).setCell (Nat.le_refl w.heap.size) _, .inl ⟨n, HO.out, rfl⟩⟩
  · have HR := hid hr
    have H0 := hid s0
    have H2 := hid s2
    have H1 := hid hs1
    have HB := hid hb2
    have HO := hid hno
    have HD := hid hcd
    clear hr s0 s2 hs1 hb0 hb2 hno HF henter hcd
    unfold ended
    go_wp2
    refine leaves_cons (f := 33) (args := #[.pointer (some ⟨w.heap.size + 1 + 1, 0, none⟩), .pointer (some ⟨w.heap.size, 0, none⟩)]) (by simp) (by simp [go_sem]) ?_
    refine (catch_panic (w.heap.size + 1 + 1) w.heap.size (w.heap.size + 1) cd HD.out 0 W2 HR.out (cell_of_one H2.out) (cell_of_one HB.out) (cell_of_one H0.out) (free_of_one H0.out) (by omega)).mono ?_
    rintro e u' w'' ⟨rfl, rfl, rfl⟩
    have h1 : (((shut W2 (w.heap.size + 1)).setCell ⟨w.heap.size, 0, none⟩ (.int .i64 cd)).alloc (.cells #[.pointer (some ⟨w.heap.size + 1, 0, none⟩)] 63)).cell? ⟨w.heap.size, 0, none⟩ = some (.int .i64 cd) := ((Up.refl _).alloc _).keep (H1.out cd)
    have hsz : w.heap.size ≤ (shut W2 (w.heap.size + 1)).heap.size := by have := lt_of_block H0.out; omega
    simp [Leaves, settle, results, Try.results15, go_sem, h1]
    exact ⟨W2, ((shut_below W2 (w.heap.size + 1) w.heap.size (by omega)).setCell (Nat.le_refl w.heap.size) _).alloc (by simpa using hsz) _, .inr HO.out⟩
end Go.Proofs.Ytpofccnifecpfaa
