/- What pack.Get returns for one number: the value that the bytes are; conditions: the rows lie in memory and the number is there. -/
import Derived.Test.YtpofccnifecpfaaVa
import Derived.Test.YtpofccnifecpfaaCl
import Derived.Deep.RegionHeld3
import Derived.Laws.AppendOwnNone
namespace Go.Proofs.Ytpofccnifecpfaa
open Go.RowKit
set_option linter.unusedVariables false
attribute [local go_sem] run_store_float
/-- A variable that holds one value of five parts. -/
def Box (w : World) (b : Nat) (p : Array Value) : Prop := w.heap[b]? = some (.cells p 35 (0, 0))
theorem Box.cell {w : World} {b : Nat} {p : Array Value} (h : Box w b p) (j : Nat) (u : Value) (hj : p[j]? = some u) : w.cell? ⟨b, j, none⟩ = some u := by unfold Box at h; simp [World.cell?, h, hj]
theorem Box.free {w : World} {b : Nat} {p : Array Value} (h : Box w b p) (j : Nat) : w.frozen? ⟨b, j, none⟩ = false := by unfold Box at h; simp [World.frozen?, h]
theorem Box.lt {w : World} {b : Nat} {p : Array Value} (h : Box w b p) : b < w.heap.size := lt_of_block h
theorem Box.put {w : World} {b : Nat} {p : Array Value} (h : Box w b p) (j : Nat) (u : Value) : Box (w.setCell ⟨b, j, none⟩ u) b (p.setIfInBounds j u) := heap_setCell_same w b j _ _ u h
theorem Chg.new {S : List Nat} {a b : World} (h : Chg S a b) (p : Addr) (v : Value) (hp : a.heap.size ≤ p.block) : Chg S a (b.setCell p v) :=
  ⟨h.os, h.tape, h.output, by simpa using h.size, fun k hk hn => (Below.heap_setCell b p v k (by omega)).trans (h.block k hk hn)⟩
theorem Chg.up {S : List Nat} {a b c : World} (u : Up a b) (h : Chg S b c) : Chg S a c :=
  ⟨h.os.trans u.os, h.tape.trans u.tape, h.output.trans u.output, Nat.le_trans (Below.size u) h.size, fun k hk hn => (h.block k (Nat.lt_of_lt_of_le hk (Below.size u)) hn).trans (u.block k hk)⟩
theorem box_ne {w : World} {b : Nat} {p : Array Value} (h : Box w b p) (hp : ∀ (j : Nat) (z : Int), p[j]? ≠ some (Value.int .u8 z)) {v : Value} {n : Nat} {x : Nat → Nat} (hv : ByRow w v n x) : n = 0 ∨ v.ownBlock ≠ some b := by
  rcases hv with ⟨e, _⟩ | ⟨hn, _, b', off, cap, rfl, hc, _⟩
  · exact .inl e
  · right
    intro e
    simp [Value.ownBlock] at e
    subst e
    have h1 := (hc 0 (by omega)).2
    unfold Box at h
    simp [World.cell?, h] at h1
    exact hp _ _ h1
theorem no_u8 (k n : Int) (x : Nat) (v : Value) (o : Bool) (hv : ∀ z : Int, v ≠ Value.int .u8 z) : ∀ (j : Nat) (z : Int), (#[.int .i64 k, .int .i64 n, .float .f64 x, v, .bool o] : Array Value)[j]? ≠ some (Value.int .u8 z) := by
  intro j z
  match j with
  | 0 => simp
  | 1 => simp
  | 2 => simp
  | 3 => simp; exact hv z
  | 4 => simp
  | j + 5 => simp
theorem RS.box {w : World} {R n b : Nat} {x : Nat → Nat} {p : Array Value} (h : RS w R n x) (hb : Box w b p) (hp : ∀ (j : Nat) (z : Int), p[j]? ≠ some (Value.int .u8 z)) (hR : R ≠ b) (j : Nat) (u : Value) : RS (w.setCell ⟨b, j, none⟩ u) R n x := by
  obtain ⟨v, hr, hv, hne⟩ := h
  refine ⟨v, (Below.heap_setCell w ⟨b, j, none⟩ u R hR).trans hr, hv.grown (row := some b) ⟨rfl, rfl, rfl, by simp, fun k _ hk => Below.heap_setCell w ⟨b, j, none⟩ u k (fun e => hk (by rw [e]))⟩ (box_ne hb hp hv), hne⟩
theorem RS.set {w : World} {R n : Nat} {x : Nat → Nat} (h : RS w R n x) (p : Addr) (u : Value) (hR : R ≠ p.block) (hb : ∀ v, Rd w R v 0 true → n = 0 ∨ v.ownBlock ≠ some p.block) : RS (w.setCell p u) R n x := by
  obtain ⟨v, hr, hv, hne⟩ := h
  refine ⟨v, hr.set p u hR, hv.grown (row := some p.block) ⟨rfl, rfl, rfl, by simp, fun k _ hk => Below.heap_setCell w p u k (fun e => hk (by rw [e]))⟩ (hb v hr), hne⟩
set_option maxHeartbeats 1000000 in
theorem val_num (R n : Nat) (x : Nat → Nat) (w : World) (h : RS w R n x) (hk : lnK x n ≠ 0) :
    Calls Try.prog 28 #[.pointer (some ⟨R, 0, none⟩), .int .i64 1] w fun e w' => e = .returned (.agg #[.int .i64 1, .int .i64 (lnV x n), .float .f64 0, .slice none 0 0, .bool false]) ∧ RS w' R (n - lnK x n) (sh (lnK x n) x) ∧ Chg [R] w w' := by
  have hlt : R < w.heap.size := by obtain ⟨v, hr, _⟩ := h; exact lt_of_block hr
  have HN := hid (fun (W : World) (hW : RS W R n x) => num_ok R n x W hW hk)
  have HR := hid h
  clear h hk
  generalize lnV x n = V at *
  generalize lnK x n = K at *
  go_enter Try.func28, Try.ntmps28
  go_wp2_with (fail)
  have up0 : Up w ((w.alloc (.cells #[.int .i64 0, .int .i64 0, .float .f64 0, .slice none 0 0, .bool false] 35)).alloc (.cells #[.int .i64 1, .int .i64 0, .float .f64 0, .slice none 0 0, .bool false] 35)) := ((Up.refl w).alloc _).alloc _
  have hr0 : RS ((w.alloc (.cells #[.int .i64 0, .int .i64 0, .float .f64 0, .slice none 0 0, .bool false] 35)).alloc (.cells #[.int .i64 1, .int .i64 0, .float .f64 0, .slice none 0 0, .bool false] 35)) R n x := by
    obtain ⟨v, hr, hv, hne⟩ := HR.out
    exact ⟨v, (up0.block R hlt).trans hr, hv.up up0, hne⟩
  have hb4 : Box ((w.alloc (.cells #[.int .i64 0, .int .i64 0, .float .f64 0, .slice none 0 0, .bool false] 35)).alloc (.cells #[.int .i64 1, .int .i64 0, .float .f64 0, .slice none 0 0, .bool false] 35)) w.heap.size #[.int .i64 0, .int .i64 0, .float .f64 0, .slice none 0 0, .bool false] := by
    unfold Box; rw [Below.heap_alloc _ _ _ (by simp)]; exact heap_new _ _
  have hb5 : Box ((w.alloc (.cells #[.int .i64 0, .int .i64 0, .float .f64 0, .slice none 0 0, .bool false] 35)).alloc (.cells #[.int .i64 1, .int .i64 0, .float .f64 0, .slice none 0 0, .bool false] 35)) (w.heap.size + 1) #[.int .i64 1, .int .i64 0, .float .f64 0, .slice none 0 0, .bool false] := by
    have := heap_new (w.alloc (.cells #[.int .i64 0, .int .i64 0, .float .f64 0, .slice none 0 0, .bool false] 35)) (.cells #[.int .i64 1, .int .i64 0, .float .f64 0, .slice none 0 0, .bool false] 35)
    rw [show (w.alloc (.cells #[.int .i64 0, .int .i64 0, .float .f64 0, .slice none 0 0, .bool false] 35)).heap.size = w.heap.size + 1 by simp] at this
    exact this
  refine (HN.out _ hr0).mono ?_
  rintro e w1 ⟨rfl, r1, g1⟩
  have hb4' : Box w1 w.heap.size _ := (g1.block _ hb4.lt (by simp; omega)).trans hb4
  have hb5' : Box w1 (w.heap.size + 1) _ := (g1.block _ hb5.lt (by simp; omega)).trans hb5
  have H1 := hid r1
  have G1 := hid g1
  have U0 := hid up0
  clear r1 g1 hr0 hb4 hb5 up0 HR HN
  have d0 := hb5'.cell 0 _ rfl
  have d1 := hb5'.cell 1 _ rfl
  have d2 := hb5'.cell 2 _ rfl
  have d3 := hb5'.cell 3 _ rfl
  have d4 := hb5'.cell 4 _ rfl
  have f1 := hb5'.free 1
  have hq : Box (w1.setCell ⟨w.heap.size + 1, 1, none⟩ (.int .i64 V)) (w.heap.size + 1) #[.int .i64 1, .int .i64 V, .float .f64 0, .slice none 0 0, .bool false] := heap_setCell_same w1 (w.heap.size + 1) 1 _ _ (.int .i64 V) hb5'
  have hp : Box (w1.setCell ⟨w.heap.size + 1, 1, none⟩ (.int .i64 V)) w.heap.size #[.int .i64 0, .int .i64 0, .float .f64 0, .slice none 0 0, .bool false] := (Below.heap_setCell _ _ _ _ (by simp)).trans hb4'
  have q0 := hq.cell 0 _ rfl
  have q1 := hq.cell 1 _ rfl
  have q2 := hq.cell 2 _ rfl
  have q3 := hq.cell 3 _ rfl
  have q4 := hq.cell 4 _ rfl
  have p0 := hp.cell 0 _ rfl
  have p1 := hp.cell 1 _ rfl
  have p2 := hp.cell 2 _ rfl
  have p3 := hp.cell 3 _ rfl
  have p4 := hp.cell 4 _ rfl
  have z0 := hp.free 0
  have z1 := hp.free 1
  have z2 := hp.free 2
  have z3 := hp.free 3
  have z4 := hp.free 4
  have HB5 := hid hb5'
  have HP := hid hp
  have hfin := ((((hp.put 0 (.int .i64 1)).put 1 (.int .i64 V)).put 2 (.float .f64 0)).put 3 (.slice none 0 0)).put 4 (.bool false)
  have HFin := hid hfin
  clear hb4' hb5' hq hp hfin
  go_wp2
  have g0 := HFin.out.cell 0 (.int .i64 1) rfl
  have g1 := HFin.out.cell 1 (.int .i64 V) rfl
  have g2 := HFin.out.cell 2 (.float .f64 0) rfl
  have g3 := HFin.out.cell 3 (.slice none 0 0) rfl
  have g4 := HFin.out.cell 4 (.bool false) rfl
  refine bodyPost_ret (v := .agg #[.int .i64 1, .int .i64 V, .float .f64 0, .slice none 0 0, .bool false]) (by simp [results, Try.results28, go_sem, g0, g1, g2, g3, g4]) rfl ⟨rfl, ?_, ?_⟩
  · have b0 := no_u8 0 0 0 (.slice none 0 0) false (fun z => by simp)
    have b1 := no_u8 1 0 0 (.slice none 0 0) false (fun z => by simp)
    have b2 := no_u8 1 V 0 (.slice none 0 0) false (fun z => by simp)
    have r1 := H1.out.box HB5.out b1 (by omega) 1 (.int .i64 V)
    have r2 := r1.box HP.out b0 (by omega) 0 (.int .i64 1)
    have r3 := r2.box (HP.out.put 0 (.int .i64 1)) b1 (by omega) 1 (.int .i64 V)
    have r4 := r3.box ((HP.out.put 0 (.int .i64 1)).put 1 (.int .i64 V)) b2 (by omega) 2 (.float .f64 0)
    have r5 := r4.box (((HP.out.put 0 (.int .i64 1)).put 1 (.int .i64 V)).put 2 (.float .f64 0)) b2 (by omega) 3 (.slice none 0 0)
    exact r5.box ((((HP.out.put 0 (.int .i64 1)).put 1 (.int .i64 V)).put 2 (.float .f64 0)).put 3 (.slice none 0 0)) b2 (by omega) 4 (.bool false)
  · have c1 := Chg.up U0.out (Chg.of_by G1.out [R] (by simp))
    exact (((((c1.new _ _ (by simp)).new _ _ (by simp)).new _ _ (by simp)).new _ _ (by simp)).new _ _ (by simp)).new _ _ (by simp)
end Go.Proofs.Ytpofccnifecpfaa
