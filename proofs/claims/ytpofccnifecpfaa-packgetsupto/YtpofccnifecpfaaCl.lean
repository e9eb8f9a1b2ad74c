/- What the functions that the law PackFails hands to Read do, and the law's own look, reading; conditions: the rows and the variables lie in memory. -/
import Derived.Test.YtpofccnifecpfaaRa
namespace Go.Proofs.Ytpofccnifecpfaa
open Go.RowKit
set_option linter.unusedVariables false
/-- A variable of one number. -/
def Var (w : World) (b : Nat) (t : TypeId) (z : Int) : Prop := w.heap[b]? = some (.cells #[.int .i64 z] t (0, 0))
theorem Var.cell {w : World} {b : Nat} {t : TypeId} {z : Int} (h : Var w b t z) : w.cell? ⟨b, 0, none⟩ = some (.int .i64 z) := cell_of_one h
theorem Var.free {w : World} {b : Nat} {t : TypeId} {z : Int} (h : Var w b t z) : w.frozen? ⟨b, 0, none⟩ = false := free_of_one h
theorem Var.lt {w : World} {b : Nat} {t : TypeId} {z : Int} (h : Var w b t z) : b < w.heap.size := lt_of_block h
theorem Var.put {w : World} {b : Nat} {t : TypeId} {z : Int} (h : Var w b t z) (y : Int) : Var (w.setCell ⟨b, 0, none⟩ (.int .i64 y)) b t y := one_setCell h
theorem Var.chg {S : List Nat} {w w' : World} {b : Nat} {t : TypeId} {z : Int} (h : Var w b t z) (c : Chg S w w') (hn : b ∉ S) : Var w' b t z := (c.block b h.lt hn).trans h
theorem Var.set {w : World} {b : Nat} {t : TypeId} {z : Int} (h : Var w b t z) (p : Addr) (v : Value) (hn : b ≠ p.block) : Var (w.setCell p v) b t z := (Below.heap_setCell w p v b hn).trans h
theorem Var.up {w w' : World} {b : Nat} {t : TypeId} {z : Int} (h : Var w b t z) (u : Up w w') : Var w' b t z := (u.block b h.lt).trans h
theorem Rd.set {w : World} {R : Nat} {v : Value} {c : Int} {l : Bool} (h : Rd w R v c l) (p : Addr) (u : Value) (hn : R ≠ p.block) : Rd (w.setCell p u) R v c l := (Below.heap_setCell w p u R hn).trans h
theorem RS.opened {w : World} {a : Option Addr} {n c : Nat} {x : Nat → Nat} (h : ByRow w (.slice a n c) n x) : RS (opened w (.slice a n c)) (w.heap.size + 1) n x := by
  refine ⟨_, opened_R w _, h.up (opened_up w _), ?_⟩
  rcases h with ⟨rfl, _⟩ | ⟨_, _, b, off, cap, hv, hc, _⟩
  · exact .inl rfl
  · right
    rw [hv]
    have := World.block_lt_of_cell? w _ (hc 0 (by omega)).2
    simp [Value.ownBlock] at this ⊢; omega
theorem RS.rd {w : World} {R n : Nat} {x : Nat → Nat} (h : RS w R n x) : ∃ a c, Rd w R (.slice a n c) 0 true := by
  obtain ⟨v, hr, hv, _⟩ := h
  rcases hv with ⟨rfl, a, c, rfl, _⟩ | ⟨_, _, b, off, cap, rfl, _⟩
  · exact ⟨_, _, hr⟩
  · exact ⟨_, _, hr⟩
theorem enters (F : FuncId) (h : ∀ (args : Array Value) (w : World), (callFunc F args).run Try.prog w = .ok (.enter F args) w) : ∀ args w, (callFunc F args).run Try.prog w = .ok (.enter F args) w := h
set_option maxHeartbeats 400000 in
theorem reading1 (R bm : Nat) (t1 : TypeId) (m0 : Int) (n : Nat) (x : Nat → Nat) (w : World) (h : RS w R n x) (hm : Var w bm t1 m0) (h1 : bm ≠ R) (hk : lnK x n ≠ 0) :
    Calls Try.prog 32 #[.pointer (some ⟨R, 0, none⟩), .pointer (some ⟨bm, 0, none⟩)] w fun e w' => e = .returned (.tuple #[]) ∧ (∃ a c, Rd w' R (.slice a (n - lnK x n) c) 0 true) ∧ Var w' bm t1 (lnV x n) ∧ Chg [R, bm] w w' := by
  have HN := hid (num_ok R n x w h hk)
  have HM := hid hm
  clear h hm
  generalize lnV x n = V at *
  generalize lnK x n = K at *
  go_enter Try.func32, Try.ntmps32
  go_wp2_with (go_at_call 17; refine HN.out.mono ?_; rintro e w1 ⟨rfl, r1, g1⟩; have H1 := hid r1; clear r1; have HM1 := hid (HM.out.chg (Chg.of_by g1 [R] (by simp)) (by simp; omega)); have cm := HM1.out.cell; have fm := HM1.out.free)
  go_end0
  refine ⟨rfl, ?_, ?_, ?_⟩
  · obtain ⟨a, c, hr⟩ := H1.out.rd
    exact ⟨a, c, hr.set _ _ (by simp; omega)⟩
  · exact HM1.out.put V
  · exact (Chg.of_by g1 _ (by simp)).trans (Chg.set _ _ _ (by simp))
set_option maxHeartbeats 400000 in
/-- What a Read leaves, for its caller: S are the variables that the function may write. -/
theorem read_of (F : FuncId) (caps : Array Value) (henter : ∀ args w, (callFunc F args).run Try.prog w = .ok (.enter F args) w) (w : World) (a0 : Option Addr) (n0 c0 : Nat) (S : List Nat) (hS : ∀ k, k ∈ S → k < w.heap.size) (OK : World → Nat → Prop) (NO : World → Int → Prop)
    (hf : Calls Try.prog F (#[.pointer (some ⟨w.heap.size + 1, 0, none⟩)] ++ caps) (opened w (.slice a0 n0 c0)) fun e W2 => Chg ((w.heap.size + 1) :: S) (opened w (.slice a0 n0 c0)) W2 ∧
      ((e = .returned (.tuple #[]) ∧ ∃ n, (∃ a cap, Rd W2 (w.heap.size + 1) (.slice a n cap) 0 true) ∧ OK W2 n) ∨ (e = .panicked (ended (w.heap.size + 1)) ∧ ∃ cd, cd ≠ 0 ∧ RF W2 (w.heap.size + 1) cd ∧ NO W2 cd))) :
    Calls Try.prog 15 #[.slice a0 n0 c0, .func (.func F) #[] caps] w fun e W4 => Chg S w W4 ∧ ∃ W2, Below w.heap.size W2 W4 ∧ ((∃ n, OK W2 n ∧ e = .returned (.int .i64 (if 0 < n then 30 else 0))) ∨ (∃ cd, NO W2 cd ∧ e = .returned (.int .i64 cd))) := by
  refine (read_any F caps henter w a0 n0 c0 (fun W n => Chg ((w.heap.size + 1) :: S) (opened w (.slice a0 n0 c0)) W ∧ OK W n) (fun W cd => Chg ((w.heap.size + 1) :: S) (opened w (.slice a0 n0 c0)) W ∧ NO W cd) (hf.mono ?_)).mono ?_
  · rintro e W2 ⟨hc, hcase⟩
    have hsz := opened_size w (.slice a0 n0 c0)
    refine ⟨⟨hc.block _ (by omega) ?_, hc.block _ (by omega) ?_⟩, ?_⟩
    · intro h; simp at h; have := hS _ h; omega
    · intro h; simp at h; have := hS _ h; omega
    · rcases hcase with ⟨rfl, n, ⟨a, cap, hr⟩, hok⟩ | ⟨rfl, cd, hcd, hr, hno⟩
      · exact .inl ⟨rfl, a, n, cap, hr, hc, hok⟩
      · exact .inr ⟨rfl, cd, hcd, hr, hc, hno⟩
  · rintro e W4 ⟨W2, hb, hcase⟩
    have key : Chg ((w.heap.size + 1) :: S) (opened w (.slice a0 n0 c0)) W2 := by
      rcases hcase with ⟨n, ⟨hc, _⟩, _⟩ | ⟨cd, ⟨hc, _⟩, _⟩ <;> exact hc
    have up := opened_up w (.slice a0 n0 c0)
    refine ⟨⟨hb.os.trans (key.os.trans up.os), hb.tape.trans (key.tape.trans up.tape), hb.output.trans (key.output.trans up.output), Nat.le_trans up.size (Nat.le_trans key.size hb.size), fun k hk hn => ?_⟩, W2, hb, ?_⟩
    · refine (hb.block k hk).trans ((key.block k (by have := up.size; omega) ?_).trans (up.block k hk))
      intro h; simp at h; rcases h with h | h
      · omega
      · exact hn h
    · rcases hcase with ⟨n, ⟨_, hok⟩, he⟩ | ⟨cd, ⟨_, hno⟩, he⟩
      · exact .inl ⟨n, hok, he⟩
      · exact .inr ⟨cd, hno, he⟩
set_option maxHeartbeats 400000 in
/-- What a Read leaves, for its caller: S are the variables that the function may write. -/
theorem read_of2 (F : FuncId) (caps : Array Value) (henter : ∀ args w, (callFunc F args).run Try.prog w = .ok (.enter F args) w) (w : World) (a0 : Option Addr) (n0 c0 : Nat) (S : List Nat) (hS : ∀ k, k ∈ S → k < w.heap.size) (OK : World → Nat → Prop) (NO : World → Int → Prop)
    (hf : Calls Try.prog F (#[.pointer (some ⟨w.heap.size + 1, 0, none⟩)] ++ caps) (opened w (.slice a0 n0 c0)) fun e W2 => Chg ((w.heap.size + 1) :: S) (opened w (.slice a0 n0 c0)) W2 ∧
      ((e = .returned (.tuple #[]) ∧ ∃ n, (∃ a cap, Rd W2 (w.heap.size + 1) (.slice a n cap) 0 true) ∧ OK W2 n) ∨ (e = .panicked (ended (w.heap.size + 1)) ∧ ∃ cd, cd ≠ 0 ∧ RF W2 (w.heap.size + 1) cd ∧ NO W2 cd))) :
    Calls Try.prog 15 #[.slice a0 n0 c0, .func (.func F) #[] caps] w fun e W4 => Chg S w W4 ∧ ∃ W2, Chg [w.heap.size, w.heap.size + 1] W2 W4 ∧ ((∃ n, OK W2 n ∧ e = .returned (.int .i64 (if 0 < n then 30 else 0))) ∨ (∃ cd, NO W2 cd ∧ e = .returned (.int .i64 cd))) := by
  refine (read_any2 F caps henter w a0 n0 c0 (fun W n => Chg ((w.heap.size + 1) :: S) (opened w (.slice a0 n0 c0)) W ∧ OK W n) (fun W cd => Chg ((w.heap.size + 1) :: S) (opened w (.slice a0 n0 c0)) W ∧ NO W cd) (hf.mono ?_)).mono ?_
  · rintro e W2 ⟨hc, hcase⟩
    have hsz := opened_size w (.slice a0 n0 c0)
    refine ⟨⟨hc.block _ (by omega) ?_, hc.block _ (by omega) ?_⟩, ?_⟩
    · intro h; simp at h; have := hS _ h; omega
    · intro h; simp at h; have := hS _ h; omega
    · rcases hcase with ⟨rfl, n, ⟨a, cap, hr⟩, hok⟩ | ⟨rfl, cd, hcd, hr, hno⟩
      · exact .inl ⟨rfl, a, n, cap, hr, hc, hok⟩
      · exact .inr ⟨rfl, cd, hcd, hr, hc, hno⟩
  · rintro e W4 ⟨W2, hb, hcase⟩
    have key : Chg ((w.heap.size + 1) :: S) (opened w (.slice a0 n0 c0)) W2 := by
      rcases hcase with ⟨n, ⟨hc, _⟩, _⟩ | ⟨cd, ⟨hc, _⟩, _⟩ <;> exact hc
    have up := opened_up w (.slice a0 n0 c0)
    refine ⟨⟨hb.os.trans (key.os.trans up.os), hb.tape.trans (key.tape.trans up.tape), hb.output.trans (key.output.trans up.output), Nat.le_trans up.size (Nat.le_trans key.size hb.size), fun k hk hn => ?_⟩, W2, hb, ?_⟩
    · refine (hb.block k (by have := up.size; have := key.size; omega) (by simp; omega)).trans ((key.block k (by have := up.size; omega) ?_).trans (up.block k hk))
      intro h; simp at h; rcases h with h | h
      · omega
      · exact hn h
    · rcases hcase with ⟨n, ⟨_, hok⟩, he⟩ | ⟨cd, ⟨_, hno⟩, he⟩
      · exact .inl ⟨n, hok, he⟩
      · exact .inr ⟨cd, hno, he⟩
end Go.Proofs.Ytpofccnifecpfaa
