/- Rows of pack's values that a call owns, as lists; sub's num and key; no condition. -/
import Derived.Test.YthjfkmjeppdcnaaGreatClM
import Derived.Test.YthjfkmjeppdcnaaGreatClD
import Derived.Test.YthjfkmjeppdcnaaGreatSqa
import Derived.Test.YthjfkmjeppdcnaaGreatClA
import Derived.Test.YthjfkmjeppdcnaaGreatClG
import Derived.Test.YthjfkmjeppdcnaaGreatClI
namespace Go.Proofs.YthjfkmjeppdcnaaGreat
open Go.RowKit Go.Lib
set_option linter.unusedVariables false
set_option linter.unusedSimpArgs false
set_option maxRecDepth 20000
theorem heapLt {w : World} {g : Nat} {o : Obj} (h : w.heap[g]? = some o) : g < w.heap.size := by
 rcases Nat.lt_or_ge g w.heap.size with q | q
 ·exact q
 ·rw [Array.getElem?_eq_none q] at h; cases h
def p0 : Pk.PV := ⟨0, 0, 0, .slice none 0 0, 0, fun _ => 0, false⟩
def pN (z : Int) : Pk.PV := ⟨1, z, 0, .slice none 0 0, 0, fun _ => 0, false⟩
def pK (x : Nat) : Pk.PV := ⟨2, 0, x, .slice none 0 0, 0, fun _ => 0, false⟩
def gp (L : List Pk.PV) (i : Nat) : Pk.PV := (L[i]?).getD p0
theorem gp_get (L : List Pk.PV) (i : Nat) (h : i < L.length) : gp L i = L[i] := by simp [gp, h]
theorem vl_congr (n : Nat) (f g : Nat → Pk.PV) (h : ∀ i, i < n → f i = g i) : Pk.vl n f = Pk.vl n g := by
 unfold Pk.vl
 apply List.map_congr_left
 intro j hj
 have : j < n * 5 := by simpa using hj
 rw [h (j / 5) (by omega)]
theorem gp_app (L M : List Pk.PV) (i : Nat) (hi : i < L.length + M.length) : Pk.catP L.length (gp L) (gp M) i = gp (L ++ M) i := by
 unfold Pk.catP gp
 by_cases h : i < L.length
 ·rw [if_pos h, List.getElem?_append_left h]
 ·rw [if_neg h, List.getElem?_append_right (by omega)]
def OwnP (base : Nat) (w : World) (v : Value) (L : List Pk.PV) : Prop := Pk.OwnV base w v L.length (gp L)
theorem OwnP.of {base : Nat} {w : World} {v : Value} {n m : Nat} {f g : Nat → Pk.PV} {L M : List Pk.PV} (hn : n = L.length) (hm : m = M.length) (hf : ∀ i, i < n → f i = gp L i) (hg : ∀ i, i < m → g i = gp M i) (h : Pk.OwnV base w v (n + m) (Pk.catP n f g)) : OwnP base w v (L ++ M) := by
 subst hn hm
 unfold OwnP
 rw [List.length_append]
 have e := vl_congr (L.length + M.length) (Pk.catP L.length f g) (gp (L ++ M)) (fun i hi => by
  rw [← gp_app L M i hi]
  unfold Pk.catP
  by_cases q : i < L.length
  ·rw [if_pos q, if_pos q, hf i q]
  ·rw [if_neg q, if_neg q, hg _ (by omega)])
 unfold Pk.OwnV at h ⊢
 rw [e] at h
 exact h
theorem OwnP.old {base : Nat} {w w' : World} {v : Value} {L : List Pk.PV} (h : OwnP base w v L) (u : Old w w') : OwnP base w' v L := by
 unfold OwnP Pk.OwnV at *
 refine ⟨h.1, ?_⟩
 rcases h.2 with e | ⟨g, cap, cur, e, hb', hg, r⟩
 ·exact .inl e
 ·exact .inr ⟨g, cap, cur, e, hb', by rw [u.block g (heapLt hg)]; exact hg, r⟩
theorem OwnP.len {base : Nat} {w : World} {v : Value} {L : List Pk.PV} (h : OwnP base w v L) : ∃ a c, v = .slice a L.length c := by
 obtain ⟨a, c, e, _⟩ := Pk.OwnV.shape h
 exact ⟨a, c, e⟩
theorem OwnP.mono {base b' : Nat} {w : World} {v : Value} {L : List Pk.PV} (h : OwnP base w v L) (hb : b' ≤ base) : OwnP b' w v L := by
 unfold OwnP Pk.OwnV at *
 refine ⟨h.1, ?_⟩
 rcases h.2 with e | ⟨g, cap, cur, e, hb', r⟩
 ·exact .inl e
 ·exact .inr ⟨g, cap, cur, e, by omega, r⟩
def Nice (p : Pk.PV) : Prop := (∃ z, p = pN z ∧ -9223372036854775808 ≤ z ∧ z ≤ 9223372036854775807) ∨ ∃ x, p = pK x ∧ Fl.W x
theorem Nice.in {p : Pk.PV} (h : Nice p) (w : World) : Pk.PV.In w p := by
 rcases h with ⟨z, rfl, h1, h2⟩ | ⟨x, rfl, hx⟩
 ·exact ⟨by simp [pN], ⟨h1, h2⟩, by simp [pN], .inl ⟨rfl, none, 0, rfl, fun _ => rfl⟩⟩
 ·exact ⟨by simp [pK], by simp [pK], hx, .inl ⟨rfl, none, 0, rfl, fun _ => rfl⟩⟩
theorem OwnP.vrow {base : Nat} {w : World} {v : Value} {L : List Pk.PV} (h : OwnP base w v L) (hN : ∀ p ∈ L, Nice p) : Pk.VRow w v L.length (gp L) := by
 have h2 := h
 unfold OwnP Pk.OwnV at h2
 rcases h2.2 with ⟨rfl, hn⟩ | ⟨g, cap, cur, rfl, hb, hg, hnc, hcm, hcs, htk⟩
 ·left
  exact ⟨hn, none, 0, rfl, fun _ => rfl⟩
 ·by_cases hz : L.length = 0
  ·left
   exact ⟨hz, some ⟨g, 0, none⟩, cap, by rw [hz], fun e => by cases e⟩
  ·right
   refine ⟨by omega, g, 0, cap, rfl, fun i hi => ?_, hnc, hcm⟩
   obtain ⟨a, c, e, hc⟩ := Pk.OwnV.shape h
   obtain ⟨b, off, e2, hA⟩ := hc i hi
   simp only [Value.slice.injEq] at e
   obtain ⟨rfl, _, _⟩ := e
   simp only [Option.some.injEq, Addr.mk.injEq] at e2
   obtain ⟨rfl, rfl, _⟩ := e2
   refine ⟨hA, (hN _ ?_).in w⟩
   rw [gp_get L i hi]
   exact List.getElem_mem hi
theorem row1P (w : World) (p : Pk.PV) (h : Pk.PV.In w p) (t : TypeId) (g : Nat) (hg : w.heap.size = g) : Pk.VRow (w.alloc (.cells #[.int .i64 p.k, .int .i64 p.n, .float .f64 p.x, p.b, .bool p.on] t)) (.slice (some ⟨g, 0, none⟩) 1 1) 1 (fun _ => p) := by
 subst hg
 have cc := fun j u (hj : (#[.int .i64 p.k, .int .i64 p.n, .float .f64 p.x, p.b, .bool p.on] : Array Value)[j]? = some u) => Pk.cell_new w #[.int .i64 p.k, .int .i64 p.n, .float .f64 p.x, p.b, .bool p.on] t (0, 0) j u hj
 refine .inr ⟨by omega, w.heap.size, 0, 1, rfl, fun i hi => ?_, by omega, by unfold maxLen; omega⟩
 obtain rfl : i = 0 := by omega
 exact ⟨⟨cc 0 _ rfl, cc 1 _ rfl, cc 2 _ rfl, cc 3 _ rfl, cc 4 _ rfl⟩, h.up ((Pk.Up.refl _).alloc _)⟩
theorem own1P (w : World) (p : Pk.PV) (g : Nat) (hg : w.heap.size = g) : OwnP g (w.alloc (.cells #[.int .i64 p.k, .int .i64 p.n, .float .f64 p.x, p.b, .bool p.on] 97)) (.slice (some ⟨g, 0, none⟩) 1 1) [p] := by
 subst hg
 exact ⟨rfl, .inr ⟨w.heap.size, 1, _, rfl, Nat.le_refl _, Pk.heap_new w _, by simp, by unfold maxLen; omega, rfl, by simp [Pk.vl, List.range, List.range.loop, Pk.pvc, gp]⟩⟩
theorem own3P (w : World) (p q r : Pk.PV) (g : Nat) (hg : w.heap.size = g) : OwnP g (w.alloc (.cells #[.int .i64 p.k, .int .i64 p.n, .float .f64 p.x, p.b, .bool p.on, .int .i64 q.k, .int .i64 q.n, .float .f64 q.x, q.b, .bool q.on, .int .i64 r.k, .int .i64 r.n, .float .f64 r.x, r.b, .bool r.on] 97)) (.slice (some ⟨g, 0, none⟩) 3 3) [p, q, r] := by
 subst hg
 exact ⟨rfl, .inr ⟨w.heap.size, 3, _, rfl, Nat.le_refl _, Pk.heap_new w _, by simp, by unfold maxLen; omega, rfl, by simp [Pk.vl, List.range, List.range.loop, Pk.pvc, gp]⟩⟩
theorem row2P (w : World) (p q : Pk.PV) (h1 : Pk.PV.In w p) (h2 : Pk.PV.In w q) (t : TypeId) (g : Nat) (hg : w.heap.size = g) : Pk.VRow (w.alloc (.cells #[.int .i64 p.k, .int .i64 p.n, .float .f64 p.x, p.b, .bool p.on, .int .i64 q.k, .int .i64 q.n, .float .f64 q.x, q.b, .bool q.on] t)) (.slice (some ⟨g, 0, none⟩) 2 2) 2 (gp [p, q]) := by
 subst hg
 have cc := fun j u (hj : (#[.int .i64 p.k, .int .i64 p.n, .float .f64 p.x, p.b, .bool p.on, .int .i64 q.k, .int .i64 q.n, .float .f64 q.x, q.b, .bool q.on] : Array Value)[j]? = some u) => Pk.cell_new w #[.int .i64 p.k, .int .i64 p.n, .float .f64 p.x, p.b, .bool p.on, .int .i64 q.k, .int .i64 q.n, .float .f64 q.x, q.b, .bool q.on] t (0, 0) j u hj
 refine .inr ⟨by omega, w.heap.size, 0, 2, rfl, fun i hi => ?_, by omega, by unfold maxLen; omega⟩
 match i, hi with
 | 0, _ => exact ⟨⟨cc 0 _ rfl, cc 1 _ rfl, cc 2 _ rfl, cc 3 _ rfl, cc 4 _ rfl⟩, h1.up ((Pk.Up.refl _).alloc _)⟩
 | 1, _ => exact ⟨⟨cc 5 _ rfl, cc 6 _ rfl, cc 7 _ rfl, cc 8 _ rfl, cc 9 _ rfl⟩, h2.up ((Pk.Up.refl _).alloc _)⟩
attribute [local go_sem] run_bits run_frombits run_store_float eqF
set_option maxHeartbeats 400000 in
theorem snum_any (z : Int) (w : World) : Calls Tryz.prog 39 #[.int .i64 z] w fun e w' => e = .returned (.agg #[.int .i64 1, .int .i64 z, .float .f64 0, .slice none 0 0, .bool false]) ∧ Old w w' := by
 go_enter Tryz.func39, Tryz.ntmps39
 go_wp2
 exact bodyPost_ret (v := .agg #[.int .i64 1, .int .i64 z, .float .f64 0, .slice none 0 0, .bool false]) (by simp [results, Tryz.results39, go_sem]) rfl ⟨rfl, by repeat (first | exact Old.refl _ | refine Old.alloc ?_ _ | refine Old.setCell ?_ ?_ _ | exact Nat.le_refl _)⟩
set_option maxHeartbeats 400000 in
theorem skey_any (x : Nat) (w : World) : Calls Tryz.prog 64 #[.float .f64 x] w fun e w' => e = .returned (.agg #[.int .i64 2, .int .i64 0, .float .f64 x, .slice none 0 0, .bool false]) ∧ Old w w' := by
 go_enter Tryz.func64, Tryz.ntmps64
 go_wp2
 exact bodyPost_ret (v := .agg #[.int .i64 2, .int .i64 0, .float .f64 x, .slice none 0 0, .bool false]) (by simp [results, Tryz.results64, go_sem]) rfl ⟨rfl, by repeat (first | exact Old.refl _ | refine Old.alloc ?_ _ | refine Old.setCell ?_ ?_ _ | exact Nat.le_refl _)⟩
end Go.Proofs.YthjfkmjeppdcnaaGreat
namespace Go.Proofs.YthjfkmjeppdcnaaGreat
abbrev oHb0 : Oper := { dst := some 16, op := .move (.tmp 3), type := 99, pos := "bytes.go:38", after := #[], guard := none }
abbrev oHb1 : Oper := { dst := some 17, op := .fieldAddr 93 (.tmp 5) 0, type := 0, pos := "bytes.go:38", after := #[], guard := none }
abbrev oHb2 : Oper := { dst := some 18, op := .load 29 (.tmp 17), type := 29, pos := "bytes.go:38", after := #[⟨1, .data⟩], guard := none }
abbrev oHb3 : Oper := { dst := some 20, op := .fieldAddr 93 (.tmp 5) 1, type := 0, pos := "bytes.go:38", after := #[], guard := none }
abbrev oHb4 : Oper := { dst := some 21, op := .load 29 (.tmp 20), type := 29, pos := "bytes.go:38", after := #[⟨4, .data⟩], guard := none }
abbrev oHb5 : Oper := { dst := some 19, op := .call { callee := Callee.value (.func 64), args := #[.tmp 18], argTypes := #[29] }, type := 97, pos := "bytes.go:38", after := #[⟨2, .data⟩], guard := none }
abbrev oHb6 : Oper := { dst := some 22, op := .call { callee := Callee.value (.func 64), args := #[.tmp 21], argTypes := #[29] }, type := 97, pos := "bytes.go:38", after := #[⟨5, .data⟩, ⟨3, .chain⟩], guard := none }
abbrev oHb7 : Oper := { dst := some 23, op := .buildSlice 99 2 #[(0, .tmp 19), (1, .tmp 22)], type := 99, pos := "bytes.go:38", after := #[⟨3, .data⟩, ⟨6, .data⟩], guard := none }
abbrev oHb8 : Oper := { dst := some 24, op := .call { callee := Callee.builtin Builtin.append, args := #[.tmp 16, .tmp 23], argTypes := #[99, 99] }, type := 99, pos := "bytes.go:38", after := #[⟨0, .data⟩, ⟨7, .data⟩, ⟨6, .chain⟩], guard := none }
abbrev oHb9 : Oper := { dst := some 3, op := .assign (.tmp 24), type := 99, pos := "bytes.go:38", after := #[⟨8, .data⟩, ⟨8, .chain⟩, ⟨0, .phase⟩, ⟨1, .phase⟩, ⟨2, .phase⟩, ⟨3, .phase⟩, ⟨4, .phase⟩, ⟨5, .phase⟩, ⟨6, .phase⟩, ⟨7, .phase⟩, ⟨8, .phase⟩], guard := none }
open Go.RowKit Go.Lib
set_option linter.unusedVariables false
set_option linter.unusedSimpArgs false
set_option maxRecDepth 20000
def rl {α : Type} (x : Nat → α) (n : Nat) : List α := (List.range n).map x
theorem rl_succ {α : Type} (x : Nat → α) (n : Nat) : rl x (n + 1) = rl x n ++ [x n] := by simp [rl, List.range_succ]
theorem rl_len {α : Type} (x : Nat → α) (n : Nat) : (rl x n).length = n := by simp [rl]
def ksP (x : Nat → Nat) (n k : Nat) : List Pk.PV := pN n :: (rl x k).map pK
def sp2 (s : Sp) : List Pk.PV := [pK s.a, pK s.b]
def ssP (f : Nat → Sp) (n k : Nat) : List Pk.PV := pN n :: (rl f k).flatMap sp2
theorem ksP_len (x : Nat → Nat) (n k : Nat) : (ksP x n k).length = k + 1 := by simp [ksP, rl_len]
theorem fl2 (f : Nat → Sp) : ∀ k, ((rl f k).flatMap sp2).length = 2 * k
 | 0 => rfl
 | k + 1 => by
  rw [rl_succ, List.flatMap_append, List.length_append, fl2 f k]
  show 2 * k + 2 = 2 * (k + 1)
  omega
theorem ssP_len (f : Nat → Sp) (n k : Nat) : (ssP f n k).length = 2 * k + 1 := by
 unfold ssP
 rw [List.length_cons, fl2]
theorem ksP_succ (x : Nat → Nat) (n k : Nat) : ksP x n (k + 1) = ksP x n k ++ [pK (x k)] := by simp [ksP, rl_succ]
theorem ssP_succ (f : Nat → Sp) (n k : Nat) : ssP f n (k + 1) = ssP f n k ++ sp2 (f k) := by simp [ssP, rl_succ]
theorem pN_nice {z : Int} (h1 : -9223372036854775808 ≤ z) (h2 : z ≤ 9223372036854775807) : Nice (pN z) := .inl ⟨z, rfl, h1, h2⟩
theorem pK_nice {x : Nat} (h : Fl.W x) : Nice (pK x) := .inr ⟨x, rfl, h⟩
theorem ksP_nice (x : Nat → Nat) (n k : Nat) (hn : n ≤ 1000000) (hx : ∀ i, i < k → Fl.W (x i)) : ∀ p ∈ ksP x n k, Nice p := by
 intro p hp
 simp only [ksP, rl, List.mem_cons, List.mem_map, List.mem_range] at hp
 rcases hp with rfl | ⟨_, ⟨i, hi, rfl⟩, rfl⟩
 ·exact pN_nice (by omega) (by omega)
 ·exact pK_nice (hx i hi)
theorem ssP_nice (f : Nat → Sp) (n k : Nat) (hn : n ≤ 1000000) (hx : ∀ i, i < k → Fl.W (f i).a ∧ Fl.W (f i).b) : ∀ p ∈ ssP f n k, Nice p := by
 intro p hp
 simp only [ssP, rl, List.mem_cons, List.mem_flatMap, List.mem_map, List.mem_range] at hp
 rcases hp with rfl | ⟨_, ⟨i, hi, rfl⟩, hp⟩
 ·exact pN_nice (by omega) (by omega)
 ·simp [sp2] at hp
  rcases hp with rfl | rfl
  ·exact pK_nice (hx i hi).1
  ·exact pK_nice (hx i hi).2
attribute [local go_sem] run_bits run_frombits run_store_float eqF
set_option maxHeartbeats 1000000 in
theorem skeys_any (v : Value) (n : Nat) (x : Nat → Nat) (hn : n ≤ 1000000) (w : World) (hv : FRow w v n x) :
    Calls Tryz.prog 40 #[v] w fun e w' => ∃ v', e = .returned v' ∧ OwnP w.heap.size w' v' (ksP x n n) ∧ Old w w' := by
 obtain ⟨hb, a, c, rfl, hc⟩ := hv
 have HC := hid hc
 clear hc
 have HN := hid (fun W => snum_any (n : Int) W)
 go_enter Tryz.func40, Tryz.ntmps40
 go_upto_region 2 with (first | (go_at_call 39; refine (HN.out _).mono ?_; rintro e w1 ⟨rfl, u1⟩; have U1 := hid u1; clear u1))
 have HO1 := hid (show OwnP w.heap.size (w1.alloc (.cells #[.int .i64 1, .int .i64 (n : Int), .float .f64 0, .slice none 0 0, .bool false] 97)) (.slice (some ⟨w1.heap.size, 0, none⟩) 1 1) (ksP x n 0) from OwnP.mono (own1P w1 (pN n) _ rfl) U1.out.size)
 have HU1 := hid (U1.out.alloc (.cells #[.int .i64 1, .int .i64 (n : Int), .float .f64 0, .slice none 0 0, .bool false] 97))
 generalize w1.alloc (.cells #[.int .i64 1, .int .i64 (n : Int), .float .f64 0, .slice none 0 0, .bool false] 97) = w2 at *
 generalize w1.heap.size = g1 at *
 clear U1 HN
 go_wp2
 go_loopw [3, 12] (fun o i wr => ∃ k : Nat, k ≤ n ∧ i = .int .i64 (k : Nat) ∧ OwnP w.heap.size wr o (ksP x n k) ∧ Old w wr) (fun _ i _ => n - (intOf i).toNat)
 case atStart => exact ⟨0, Nat.zero_le _, rfl, HO1.out, HU1.out⟩
 case round =>
  obtain ⟨k, hk, rfl, ho, hu⟩ := hrel
  have HU := hid hu
  have HO := hid ho
  clear hu ho HO1 HU1
  by_cases hlt : k < n
  ·obtain ⟨b, off, ha, hW, c0⟩ := HC.out k hlt
   subst ha
   have x0 := HU.out.keep c0
   have l1 : (0 : Int) ≤ (k : Int) := by omega
   have l2 : (k : Int) < (n : Int) := by omega
   clear c0
   have HK := hid (fun W => skey_any (x k) W)
   have HS := hid (ksP_succ x n k)
   have HL := hid (ksP_len x n k)
   have HNi := hid (pK_nice hW)
   generalize x k = xk at *
   generalize hKl : ksP x n k = KL at *
   clear hKl
   go_wp2_with (first | (go_at_call 64; refine (HK.out _).mono ?_; rintro e w3 ⟨rfl, u3⟩; have U3 := hid u3; clear u3) | (at_builtin; refine Pk.wp_appV rfl (.tmp 16) (.tmp 19) rfl w.heap.size _ _ KL.length 1 (gp KL) (fun _ => pK xk) rfl rfl ((HO.out.old U3.out).old ((Old.refl _).alloc _)) (row1P _ (pK xk) (HNi.out.in _) _ _ rfl) (by rw [HL.out]; omega) (by have := HU.out.size; have := U3.out.size; simp; omega) ?_; intro v8 w8 o8 g8; have O8 := hid (OwnP.of (L := KL) (M := [pK xk]) rfl rfl (fun _ _ => rfl) (fun i hi => by have hi0 : i = 0 := (by simpa using hi); rw [hi0]; rfl) o8); have G8 := hid (((HU.out.trans U3.out).alloc _).below g8); clear o8 g8))
   go_roundw
   case rel => exact ⟨k + 1, hlt, by go_num, by rw [HS.out]; exact O8.out, G8.out⟩
   case measure => simp [intOf]; omega
  ·obtain rfl : k = n := by omega
   go_wp2
   go_ret
   exact ⟨_, rfl, HO.out, HU.out⟩
abbrev SpB (m : Nat) (s : Sp) (w : World) : Prop := w.cell? ⟨m, 0, none⟩ = some (.float .f64 s.a) ∧ w.cell? ⟨m, 1, none⟩ = some (.float .f64 s.b)
theorem SpB.old {m : Nat} {s : Sp} {w w' : World} (u : Old w w') (h : SpB m s w) : SpB m s w' := ⟨u.keep h.1, u.keep h.2⟩
theorem ent_skey (args : Array Value) (w : World) : (callFunc 64 args).run Tryz.prog w = .ok (.enter 64 args) w := by kernel_rfl
theorem stepBuild2V {ops : Array Oper} {o : Oper} {a : Act} {w : World} {K : Act → World → Prop} {Q : Exit → Act → World → Prop} {E : Prop} (hg : o.guard = none) (x y : Operand) (hop : o.op = Op.buildSlice 99 2 #[(0, x), (1, y)]) (p q : Pk.PV)
    (hx : a.eval x = .agg #[.int .i64 p.k, .int .i64 p.n, .float .f64 p.x, p.b, .bool p.on]) (hy : a.eval y = .agg #[.int .i64 q.k, .int .i64 q.n, .float .f64 q.x, q.b, .bool q.on]) (hp : ∃ a n c, p.b = .slice a n c) (hq : ∃ a n c, q.b = .slice a n c)
    (hK : ∀ m w', m = w.heap.size → w' = w.alloc (.cells #[.int .i64 p.k, .int .i64 p.n, .float .f64 p.x, p.b, .bool p.on, .int .i64 q.k, .int .i64 q.n, .float .f64 q.x, q.b, .bool q.on] 97) → K (a.put o.dst (.slice (some ⟨m, 0, none⟩) 2 2)) w') :
    if Region.wanted o (yielded ops a.tmps) = true then Oper.wp Tryz.prog o a w K Q else E := by
 have hw : Region.wanted o (yielded ops a.tmps) = true := by simp [Region.wanted, hg]
 rw [if_pos hw]
 obtain ⟨d, p', t, ps, af, gd⟩ := o
 subst hop
 obtain ⟨a1, n1, c1, e1⟩ := hp
 obtain ⟨a2, n2, c2, e2⟩ := hq
 rw [e1] at hx hK
 rw [e2] at hy hK
 unfold Oper.wp execOp
 simp only [List.map_toArray, List.map_cons, List.map_nil, hx, hy]
 go_simp
 exact hK _ _ rfl rfl
theorem stepBuild3V {ops : Array Oper} {o : Oper} {a : Act} {w : World} {K : Act → World → Prop} {Q : Exit → Act → World → Prop} {E : Prop} (hg : o.guard = none) (x y z : Operand) (hop : o.op = Op.buildSlice 99 3 #[(0, x), (1, y), (2, z)]) (p q r : Pk.PV)
    (hx : a.eval x = .agg #[.int .i64 p.k, .int .i64 p.n, .float .f64 p.x, p.b, .bool p.on]) (hy : a.eval y = .agg #[.int .i64 q.k, .int .i64 q.n, .float .f64 q.x, q.b, .bool q.on]) (hz : a.eval z = .agg #[.int .i64 r.k, .int .i64 r.n, .float .f64 r.x, r.b, .bool r.on]) (hp : ∃ a n c, p.b = .slice a n c) (hq : ∃ a n c, q.b = .slice a n c) (hr : ∃ a n c, r.b = .slice a n c)
    (hK : ∀ m w', m = w.heap.size → w' = w.alloc (.cells #[.int .i64 p.k, .int .i64 p.n, .float .f64 p.x, p.b, .bool p.on, .int .i64 q.k, .int .i64 q.n, .float .f64 q.x, q.b, .bool q.on, .int .i64 r.k, .int .i64 r.n, .float .f64 r.x, r.b, .bool r.on] 97) → K (a.put o.dst (.slice (some ⟨m, 0, none⟩) 3 3)) w') :
    if Region.wanted o (yielded ops a.tmps) = true then Oper.wp Tryz.prog o a w K Q else E := by
 have hw : Region.wanted o (yielded ops a.tmps) = true := by simp [Region.wanted, hg]
 rw [if_pos hw]
 obtain ⟨d, p', t, ps, af, gd⟩ := o
 subst hop
 obtain ⟨a1, n1, c1, e1⟩ := hp
 obtain ⟨a2, n2, c2, e2⟩ := hq
 obtain ⟨a3, n3, c3, e3⟩ := hr
 rw [e1] at hx hK
 rw [e2] at hy hK
 rw [e3] at hz hK
 unfold Oper.wp execOp
 simp only [List.map_toArray, List.map_cons, List.map_nil, hx, hy, hz]
 go_simp
 exact hK _ _ rfl rfl
theorem step_appV {ops : Array Oper} {o : Oper} {a : Act} {w : World} {K : Act → World → Prop} {Q : Exit → Act → World → Prop} {E : Prop} (hgd : o.guard = none) (s x : Operand)
    (ho : o.op = .call { callee := .builtin .append, args := #[s, x], argTypes := #[99, 99] }) (base : Nat) (v u : Value) (n m : Nat) (f g : Nat → Pk.PV)
    (hs : a.eval s = v) (hx : a.eval x = u) (hown : Pk.OwnV base w v n f) (hrow : Pk.VRow w u m g) (hb : n + m ≤ 4194304) (hbase : base ≤ w.heap.size)
    (h : ∀ v' w', Pk.OwnV base w' v' (n + m) (Pk.catP n f g) → w.grownBy w' v.ownBlock → K (a.put o.dst v') w') :
    if Region.wanted o (yielded ops a.tmps) = true then Oper.wp Tryz.prog o a w K Q else E := by
 have hw : Region.wanted o (yielded ops a.tmps) = true := by simp [Region.wanted, hgd]
 rw [if_pos hw]
 have h2 := Pk.wp_appVg (ops := ops) (rest := []) (Q := fun e a' w' => e = .normal ∧ K a' w') (o := o) (a := a) (w := w) hgd s x ho base v u n m f g hs hx hown hrow hb hbase (fun v' w' q1 q2 => ⟨rfl, h v' w' q1 q2⟩)
 unfold wpList at h2
 rw [if_pos hw] at h2
 rcases h2 with h2 | ⟨_, a', w', h3, _⟩
 ·unfold Oper.wp at *
  generalize (execOp a.eval o).run Tryz.prog w = r at *
  cases r with
  | ok nx w' =>
   cases nx <;> simp only [Oper.upon] at h2 ⊢ <;>
    first
     | exact h2.2
     | exact h2
     | exact Calls.mono h2 (fun e w'' he => by
         cases e with
         | returned r => exact he.2
         | panicked c => exact absurd he.1 (by simp)
         | outgrown => obtain ⟨a', w', h3, _⟩ := he; exact absurd h3 (by simp))
     | exact Rows.mono h2 (fun _ _ he => he.2)
  | halt x w' => cases x <;> simp only [Oper.upon] at h2 ⊢ <;> first | exact h2 | exact absurd h2.1 (by simp)
 ·exact absurd h3 (by simp)
def byL (n : Nat) (x : Nat → Nat) : List Nat := (List.range n).map x
theorem SpB.grown {m : Nat} {s : Sp} {w w' : World} {row : Option Nat} (h : SpB m s w) (hg : w.grownBy w' row) (hne : some m ≠ row) : SpB m s w' := by
 have hb := hg.block m (World.block_lt_of_cell? w _ h.1) hne
 exact ⟨by rw [World.cell?_of_block (w := w) (a := ⟨m, 0, none⟩) hb]; exact h.1, by rw [World.cell?_of_block (w := w) (a := ⟨m, 1, none⟩) hb]; exact h.2⟩
set_option maxHeartbeats 2000000 in
theorem sspans_any (v : Value) (n : Nat) (f : Nat → Sp) (hn : n ≤ 1000000) (w : World) (hv : SRow w v n f) :
    Calls Tryz.prog 41 #[v] w fun e w' => ∃ v', e = .returned v' ∧ OwnP w.heap.size w' v' (ssP f n n) ∧ Old w w' := by
 obtain ⟨hb, a, c, rfl, hc⟩ := hv
 have HC := hid hc
 clear hc
 have HN := hid (fun W => snum_any (n : Int) W)
 go_enter Tryz.func41, Tryz.ntmps41
 go_upto_region 2 with (first | (go_at_call 39; refine (HN.out _).mono ?_; rintro e w1 ⟨rfl, u1⟩; have U1 := hid u1; clear u1))
 have HO1 := hid (show OwnP w.heap.size (w1.alloc (.cells #[.int .i64 1, .int .i64 (n : Int), .float .f64 0, .slice none 0 0, .bool false] 97)) (.slice (some ⟨w1.heap.size, 0, none⟩) 1 1) (ssP f n 0) from OwnP.mono (own1P w1 (pN n) _ rfl) U1.out.size)
 have HU1 := hid (U1.out.alloc (.cells #[.int .i64 1, .int .i64 (n : Int), .float .f64 0, .slice none 0 0, .bool false] 97))
 generalize w1.alloc (.cells #[.int .i64 1, .int .i64 (n : Int), .float .f64 0, .slice none 0 0, .bool false] 97) = w2 at *
 generalize w1.heap.size = g1 at *
 clear U1 HN
 go_wp2
 go_loopw [3, 12] (fun o i wr => ∃ k : Nat, k ≤ n ∧ i = .int .i64 (k : Nat) ∧ OwnP w.heap.size wr o (ssP f n k) ∧ Old w wr) (fun _ i _ => n - (intOf i).toNat)
 case atStart => exact ⟨0, Nat.zero_le _, rfl, HO1.out, HU1.out⟩
 case round =>
  obtain ⟨k, hk, rfl, ho, hu⟩ := hrel
  have HU := hid hu
  have HO := hid ho
  clear hu ho HO1 HU1
  by_cases hlt : k < n
  ·obtain ⟨b, off, ha, hW, hW2, c0, c1, c2, c3⟩ := HC.out k hlt
   subst ha
   have x0 := HU.out.keep c0
   have x1 := HU.out.keep c1
   have x2 := HU.out.keep c2
   have x3 := HU.out.keep c3
   have l1 : (0 : Int) ≤ (k : Int) := by omega
   have l2 : (k : Int) < (n : Int) := by omega
   clear c0 c1 c2 c3
   have HKa := hid (fun W => skey_any (f k).a W)
   have HKb := hid (fun W => skey_any (f k).b W)
   have HS := hid (ssP_succ f n k)
   have HL := hid (ssP_len f n k)
   have HNi := hid (And.intro (pK_nice hW) (pK_nice hW2))
   generalize f k = s at *
   generalize hKl : ssP f n k = KL at *
   clear hKl hW hW2
   go_upto_region 5 with fail
   have HSp := hid (show SpB wr.heap.size s (wr.alloc (.cells #[.float .f64 s.a, .float .f64 s.b, .bool s.p, .bool s.q] 93)) from by simp [SpB])
   have HA := hid ((Old.refl wr).alloc (.cells #[.float .f64 s.a, .float .f64 s.b, .bool s.p, .bool s.q] 93))
   have HOw := hid (HO.out.old HA.out)
   have HUw := hid (HU.out.trans HA.out)
   obtain ⟨va, vc, hve⟩ := HO.out.len
   subst hve
   have HLt := hid (fun g (e : (Value.slice va KL.length vc).ownBlock = some g) => (World.ownsRow.lt HO.out g e).2)
   generalize wr.alloc (.cells #[.float .f64 s.a, .float .f64 s.b, .bool s.p, .bool s.q] 93) = w3 at *
   generalize wr.heap.size = sb at *
   clear x0 x1 x2 x3 HO HU HA
   focus
    refine wp_region_noPanic ?_
    refine wp_region_held_drew (S := SpB sb s) (by kernel_rfl) ?_ (fun hHeld => ?_)
    ·exact SpB.old ((Old.refl w3).drew) HSp.out
    try simp only [Act.put, puA, puB, puC]
    clear hHeld
    all_goals
     refine atA [false, false, false, false, false, false, false, false, false, false] ?_
     refine tkA (i := 0) (oi := oHb0) (SpB.old ((Old.refl w3).drew) HSp.out) ?_
     try simp only [Act.put, puA, puB, puC]
     refine tkA (i := 1) (oi := oHb1) (SpB.old ((Old.refl w3).drew) HSp.out) ?_
     try simp only [Act.put, puA, puB, puC]
     refine tkA (i := 2) (oi := oHb2) (SpB.old ((Old.refl w3).drew) HSp.out) ?_
     try simp only [Act.put, puA, puB, puC]
     refine tkA (i := 4) (oi := oHb3) (SpB.old ((Old.refl w3).drew) HSp.out) ?_
     try simp only [Act.put, puA, puB, puC]
     refine tkA (i := 5) (oi := oHb4) (SpB.old ((Old.refl w3).drew) HSp.out) ?_
     try simp only [Act.put, puA, puB, puC]
     refine rdA [3] ?_
     refine AllReadyH.cons (o := oHb5) rfl (fun K hK => ?_) AllReadyH.nil
     refine stepCall1 ?_ 64 (.tmp 18) #[29] ?_ (.float .f64 s.a) ?_ ?_ (ent_skey _ _) ?_
     iterate 4 rfl
     refine (HKa.out _).mono ?_
     rintro o x100n ⟨rfl, b100n⟩
     refine ⟨_, rfl, ?_⟩
     have U100n := ((Old.refl w3).drew).trans b100n
     refine hK.out _ _ (SpB.old U100n HSp.out) (fun _ => ?_)
     clear hK K
     try simp only [Act.put, puA, puB, puC]
     have UU_100 := U100n
     obtain ⟨xw_100, rfl⟩ : ∃ z, z = x100n := ⟨_, rfl⟩
    all_goals
     refine atA [true, true, true, true, true, true, false, false, false, false] ?_
     refine rdA [6] ?_
     refine AllReadyH.cons (o := oHb6) rfl (fun K hK => ?_) AllReadyH.nil
     refine stepCall1 ?_ 64 (.tmp 21) #[29] ?_ (.float .f64 s.b) ?_ ?_ (ent_skey _ _) ?_
     iterate 4 rfl
     refine (HKb.out _).mono ?_
     rintro o x100n ⟨rfl, b100n⟩
     refine ⟨_, rfl, ?_⟩
     have U100n := UU_100.trans b100n
     refine hK.out _ _ (SpB.old U100n HSp.out) (fun _ => ?_)
     clear hK K
     try simp only [Act.put, puA, puB, puC]
     have UU_100 := U100n
     obtain ⟨xw_100, rfl⟩ : ∃ z, z = x100n := ⟨_, rfl⟩
    all_goals
     refine atA [true, true, true, true, true, true, true, false, false, false] ?_
     refine rdA [7] ?_
     refine AllReadyH.cons (o := oHb7) rfl (fun K hK => ?_) AllReadyH.nil
     refine stepBuild2V ?_ (.tmp 19) (.tmp 22) ?_ (pK s.a) (pK s.b) ?_ ?_ ⟨_, _, _, rfl⟩ ⟨_, _, _, rfl⟩ ?_
     iterate 4 rfl
     intro m100n x100n hm100n hx100n
     have R100n : Pk.VRow x100n (.slice (some ⟨m100n, 0, none⟩) 2 2) 2 (gp [pK s.a, pK s.b]) := by subst hm100n hx100n; exact row2P _ _ _ (HNi.out.1.in _) (HNi.out.2.in _) _ _ rfl
     have U100n : Old w3 x100n := by rw [hx100n]; exact UU_100.alloc _
     clear hm100n hx100n
     refine hK.out _ _ (SpB.old U100n HSp.out) (fun _ => ?_)
     clear hK K
     try simp only [Act.put, puA, puB, puC]
     have RR_100 := R100n
     have UU_100 := U100n
    all_goals
     refine atA [true, true, true, true, true, true, true, true, false, false] ?_
     refine rdA [8] ?_
     refine AllReadyH.cons (o := oHb8) rfl (fun K hK => ?_) AllReadyH.nil
     refine step_appV ?_ (.tmp 16) (.tmp 23) ?_ w.heap.size _ _ KL.length 2 (gp KL) (gp [pK s.a, pK s.b]) ?_ ?_ (HOw.out.old UU_100) RR_100 (by rw [HL.out]; omega) (by have := HUw.out.size; have := UU_100.size; omega) ?_
     iterate 4 rfl
     intro v8 w8 o8 g8
     have S8 : SpB sb s w8 := (SpB.old UU_100 HSp.out).grown g8 (fun e => by have := HLt.out sb e.symm; omega)
     have O8 := hid (OwnP.of (L := KL) (M := [pK s.a, pK s.b]) rfl rfl (fun _ _ => rfl) (fun _ _ => rfl) o8)
     have G8 := hid (show Old w w8 from Below.grown (HUw.out.trans UU_100) g8 (by have := HUw.out.size; have := UU_100.size; omega) (fun k e => (World.ownsRow.lt HOw.out k e).1))
     clear o8 g8
     refine hK.out _ _ S8 (fun _ => ?_)
     clear hK K
     try simp only [Act.put, puA, puB, puC]
    all_goals
     refine atA [true, true, true, true, true, true, true, true, true, false] ?_
     refine rdA [9] ?_
     refine AllReadyH.cons (o := oHb9) rfl (fun K hK => ?_) AllReadyH.nil
     go_simp
     refine hK.out _ _ S8 (fun _ => ?_)
     clear hK K
     try simp only [Act.put, puA, puB, puC]
    all_goals
     refine atA [true, true, true, true, true, true, true, true, true, true] ?_
     refine wpAnyH_done (by kernel_rfl) ?_ _
     refine NoPanic.normal ?_
     clear S8
     go_wp2
     go_roundw
     case rel => exact ⟨k + 1, hlt, by go_num, by rw [HS.out]; exact O8.out, G8.out⟩
     case measure => simp [intOf]; omega
  ·obtain rfl : k = n := by omega
   go_wp2
   go_ret
   exact ⟨_, rfl, HO.out, HU.out⟩
end Go.Proofs.YthjfkmjeppdcnaaGreat
namespace Go.Proofs.YthjfkmjeppdcnaaGreat
abbrev oHc0 : Oper := { dst := some 11, op := .fieldAddr 33 (.tmp 1) 0, type := 0, pos := "bytes.go:15", after := #[], guard := none }
abbrev oHc1 : Oper := { dst := some 12, op := .load 2 (.tmp 11), type := 2, pos := "bytes.go:15", after := #[⟨0, .data⟩], guard := none }
abbrev oHc2 : Oper := { dst := some 14, op := .fieldAddr 33 (.tmp 1) 1, type := 0, pos := "bytes.go:15", after := #[], guard := none }
abbrev oHc3 : Oper := { dst := some 15, op := .load 2 (.tmp 14), type := 2, pos := "bytes.go:15", after := #[⟨3, .data⟩], guard := none }
abbrev oHc4 : Oper := { dst := some 17, op := .fieldAddr 33 (.tmp 1) 2, type := 0, pos := "bytes.go:15", after := #[], guard := none }
abbrev oHc5 : Oper := { dst := some 18, op := .load 2 (.tmp 17), type := 2, pos := "bytes.go:15", after := #[⟨6, .data⟩], guard := none }
abbrev oHc6 : Oper := { dst := some 13, op := .call { callee := Callee.value (.func 39), args := #[.tmp 12], argTypes := #[2] }, type := 97, pos := "bytes.go:15", after := #[⟨1, .data⟩], guard := none }
abbrev oHc7 : Oper := { dst := some 16, op := .call { callee := Callee.value (.func 39), args := #[.tmp 15], argTypes := #[2] }, type := 97, pos := "bytes.go:15", after := #[⟨4, .data⟩, ⟨2, .chain⟩], guard := none }
abbrev oHc8 : Oper := { dst := some 19, op := .call { callee := Callee.value (.func 39), args := #[.tmp 18], argTypes := #[2] }, type := 97, pos := "bytes.go:15", after := #[⟨7, .data⟩, ⟨5, .chain⟩], guard := none }
abbrev oHc9 : Oper := { dst := some 20, op := .buildSlice 99 3 #[(0, .tmp 13), (1, .tmp 16), (2, .tmp 19)], type := 99, pos := "bytes.go:15", after := #[⟨2, .data⟩, ⟨5, .data⟩, ⟨8, .data⟩], guard := none }
abbrev oHc10 : Oper := { dst := some 5, op := .assign (.tmp 20), type := 99, pos := "bytes.go:15", after := #[⟨9, .data⟩, ⟨8, .chain⟩, ⟨0, .phase⟩, ⟨1, .phase⟩, ⟨2, .phase⟩, ⟨3, .phase⟩, ⟨4, .phase⟩, ⟨5, .phase⟩, ⟨6, .phase⟩, ⟨7, .phase⟩, ⟨8, .phase⟩, ⟨9, .phase⟩], guard := none }
open Go.RowKit Go.Lib
set_option linter.unusedVariables false
set_option linter.unusedSimpArgs false
set_option maxRecDepth 20000
def subP (s1 s2 s3 : Int) (n1 n2 n3 : Nat) (x1 x3 : Nat → Nat) (f2 : Nat → Sp) : List Pk.PV := [pN s1, pN s2, pN s3] ++ ksP x1 n1 n1 ++ ssP f2 n2 n2 ++ ksP x3 n3 n3
def encS (s1 s2 s3 : Int) (n1 n2 n3 : Nat) (x1 x3 : Nat → Nat) (f2 : Nat → Sp) : List Nat := (subP s1 s2 s3 n1 n2 n3 x1 x3 f2).flatMap Pk.encV
theorem putL_gp (L : List Pk.PV) : Pk.putL Pk.encV (gp L) L.length = L.flatMap Pk.encV := by
 have : ∀ k, k ≤ L.length → Pk.putL Pk.encV (gp L) k = (L.take k).flatMap Pk.encV := by
  intro k
  induction k with
  | zero => intro _; rfl
  | succ k ih =>
   intro hk
   show Pk.putL Pk.encV (gp L) k ++ Pk.encV (gp L k) = _
   rw [ih (by omega), List.take_succ_eq_append_getElem (by omega), List.flatMap_append, gp_get L k (by omega)]
   simp
 rw [this _ (Nat.le_refl _), List.take_length]
theorem Nice.e0 {p : Pk.PV} (h : Nice p) : Pk.pvE p = 0 := by
 rcases h with ⟨z, rfl, _⟩ | ⟨x, rfl, _⟩
 ·simp [Pk.pvE, pN]
 ·simp [Pk.pvE, pK]
theorem firstE_gp (L : List Pk.PV) (h : ∀ p ∈ L, Nice p) : Pk.firstE (gp L) L.length = 0 := by
 have : ∀ k, k ≤ L.length → Pk.firstE (gp L) k = 0 := by
  intro k
  induction k with
  | zero => intro _; rfl
  | succ k ih =>
   intro hk
   show (if Pk.firstE (gp L) k = 0 then Pk.pvE (gp L k) else Pk.firstE (gp L) k) = 0
   rw [if_pos (ih (by omega)), gp_get L k (by omega)]
   exact (h _ (List.getElem_mem _)).e0
 exact this _ (Nat.le_refl _)
theorem SubAt.grown {m : Nat} {s1 s2 s3 : Int} {v1 v2 v3 : Value} {w w' : World} {row : Option Nat} (h : SubAt m s1 s2 s3 v1 v2 v3 w) (hg : w.grownBy w' row) (hne : some m ≠ row) : SubAt m s1 s2 s3 v1 v2 v3 w' := by
 have hb := hg.block m (World.block_lt_of_cell? w _ h.1) hne
 have F : ∀ j, w'.cell? ⟨m, j, none⟩ = w.cell? ⟨m, j, none⟩ := fun j => World.cell?_of_block (w := w) (a := ⟨m, j, none⟩) hb
 exact ⟨by rw [F]; exact h.1, by rw [F]; exact h.2.1, by rw [F]; exact h.2.2.1, by rw [F]; exact h.2.2.2.1, by rw [F]; exact h.2.2.2.2.1, by rw [F]; exact h.2.2.2.2.2⟩
theorem OwnP.put {base : Nat} {w : World} {v : Value} {L : List Pk.PV} (h : OwnP base w v L) (hN : ∀ p ∈ L, Nice p) (hl : L.length ≤ 4194304) :
    Calls Tryz.prog 42 #[v] w fun e w' => ∃ v', e = .returned (.tuple #[v', .int .i64 0]) ∧ Pk.OwnL w.heap.size w' v' (L.flatMap Pk.encV) ∧ Old w w' := by
 obtain ⟨a, c, rfl, hc⟩ := Pk.OwnV.shape h
 refine (Pk.put_row a L.length c (gp L) hl w (fun i hi => ?_)).mono ?_
 ·obtain ⟨b, off, e, hA⟩ := hc i hi
  refine ⟨b, off, e, hA, (hN _ ?_).in w⟩
  rw [gp_get L i hi]
  exact List.getElem_mem hi
 ·rintro e w' ⟨v', L', rfl, o, h1, _, u⟩
  have h0 := firstE_gp L hN
  have hL := h1 h0
  rw [putL_gp] at hL
  subst hL
  rw [h0]
  exact ⟨v', rfl, o, u⟩
theorem Pk.OwnL.mono' {base b' : Nat} {w : World} {v : Value} {L : List Nat} (h : Pk.OwnL base w v L) (hb : b' ≤ base) : Pk.OwnL b' w v L := by
 refine ⟨⟨h.own.1, ?_⟩, h.lt⟩
 rcases h.own.2 with e | ⟨g, cap, cur, e, hb', r⟩
 ·exact .inl e
 ·exact .inr ⟨g, cap, cur, e, by omega, r⟩
theorem app_step {sb : Nat} {w0 w w' : World} {s1 s2 s3 : Int} {v1 v2 v3 v v' : Value} {L M : List Pk.PV} (hs : SubAt sb s1 s2 s3 v1 v2 v3 w) (ho : OwnP (sb + 1) w v L) (hu : Old w0 w) (hb : w0.heap.size = sb) (o : Pk.OwnV (sb + 1) w' v' (L.length + M.length) (Pk.catP L.length (gp L) (gp M))) (g : w.grownBy w' v.ownBlock) :
    OwnP (sb + 1) w' v' (L ++ M) ∧ SubAt sb s1 s2 s3 v1 v2 v3 w' ∧ Old w0 w' := by
 refine ⟨OwnP.of rfl rfl (fun _ _ => rfl) (fun _ _ => rfl) o, hs.grown g (fun e => ?_), Below.grown hu g hu.size (fun k e => ?_)⟩
 ·have := (World.ownsRow.lt ho sb e.symm).1
  omega
 ·have := (World.ownsRow.lt ho k e).1
  omega
theorem ent_snum (args : Array Value) (w : World) : (callFunc 39 args).run Tryz.prog w = .ok (.enter 39 args) w := by kernel_rfl
theorem chk_parts {s1 s2 s3 : Int} {n1 n2 n3 : Nat} {x1 x3 : Nat → Nat} {f2 : Nat → Sp} (h : chkV s1 s2 s3 n1 n2 n3 x1 x3 f2 = 0) : misB s1 s2 s3 = false ∧ crowdB n1 n2 n3 = false ∧ (Fl.anyG (fun i => Fl.nan (x1 i)) n1 || Fl.anyG (fun i => Fl.nan (x3 i)) n3) = false ∧ Fl.anyG (fun i => Fl.csE (f2 i).a (f2 i).b (f2 i).p (f2 i).q) n2 = false ∧ ordF x1 n1 = true ∧ ordS f2 n2 = true ∧ ordF x3 n3 = true := by
 unfold chkV chkO at h
 cases h1 : misB s1 s2 s3
 ·rw [h1] at h
  cases h2 : crowdB n1 n2 n3
  ·rw [h2] at h
   cases h3 : (Fl.anyG (fun i => Fl.nan (x1 i)) n1 || Fl.anyG (fun i => Fl.nan (x3 i)) n3)
   ·rw [h3] at h
    cases h4 : Fl.anyG (fun i => Fl.csE (f2 i).a (f2 i).b (f2 i).p (f2 i).q) n2
    ·rw [h4] at h
     cases h5 : ordF x1 n1 <;> cases h6 : ordS f2 n2 <;> cases h7 : ordF x3 n3 <;> rw [h5, h6, h7] at h <;> simp at h ⊢
    ·rw [h4] at h; simp at h
   ·rw [h3] at h; simp at h
  ·rw [h2] at h; simp at h
 ·rw [h1] at h; simp at h
theorem mis_rng {s1 s2 s3 : Int} (h : misB s1 s2 s3 = false) : (1 ≤ s1 ∧ s1 ≤ 1099511627776) ∧ (1 ≤ s2 ∧ s2 ≤ 1099511627776) ∧ 0 ≤ s3 ∧ s3 ≤ 1099511627776 := by
 unfold misB outB at h
 simp at h
 omega
theorem crowd_rng {n1 n2 n3 : Nat} (h : crowdB n1 n2 n3 = false) : n1 ≤ 16 ∧ n2 ≤ 8 ∧ n3 ≤ 16 := by
 unfold crowdB at h
 simp at h
 omega
attribute [local go_sem] run_bits run_frombits run_store_float eqF
set_option maxHeartbeats 4000000 in
theorem encode_no (s1 s2 s3 : Int) (a1 a2 a3 : Option Addr) (n1 n2 n3 c1 c2 c3 : Nat) (x1 x3 : Nat → Nat) (f2 : Nat → Sp) (b1 : n1 ≤ 17592186044000) (b2 : n2 ≤ 5864062014805) (b3 : n3 ≤ 17592186044000) (w : World) (h1 : FRow w (.slice a1 n1 c1) n1 x1) (h2 : SRow w (.slice a2 n2 c2) n2 f2) (h3 : FRow w (.slice a3 n3 c3) n3 x3) (hc : chkV s1 s2 s3 n1 n2 n3 x1 x3 f2 ≠ 0) :
    Calls Tryz.prog 23 #[.agg #[.int .i64 s1, .int .i64 s2, .int .i64 s3, .slice a1 n1 c1, .slice a2 n2 c2, .slice a3 n3 c3]] w fun e w' => e = .returned (.tuple #[.slice none 0 0, .int .i64 (chkV s1 s2 s3 n1 n2 n3 x1 x3 f2)]) ∧ Old w w' := by
 have HC := hid (fun (W : World) (u : Old w W) => check_any s1 s2 s3 a1 a2 a3 n1 n2 n3 c1 c2 c3 x1 x3 f2 b1 b2 b3 W (h1.old u) (h2.old u) (h3.old u))
 have hcb : (chkV s1 s2 s3 n1 n2 n3 x1 x3 f2 != 0) = true := by rw [bne_iff_ne]; exact hc
 clear h1 h2 h3 hc
 generalize chkV s1 s2 s3 n1 n2 n3 x1 x3 f2 = r at *
 have HV := hid ((Old.refl w).alloc (.cells #[.int .i64 s1, .int .i64 s2, .int .i64 s3, .slice a1 n1 c1, .slice a2 n2 c2, .slice a3 n3 c3] 33))
 go_enter Tryz.func23, Tryz.ntmps23
 go_wp2_with (first | (go_at_call 38; refine (HC.out _ HV.out).mono ?_; rintro e w2 ⟨rfl, u2⟩; have U2 := hid (HV.out.trans u2); clear u2))
 exact bodyPost_ret (v := .tuple #[.slice none 0 0, .int .i64 r]) (by simp [results, Tryz.results23, go_sem]) rfl ⟨rfl, U2.out⟩
set_option maxHeartbeats 8000000 in
theorem encode_ok (s1 s2 s3 : Int) (a1 a2 a3 : Option Addr) (n1 n2 n3 c1 c2 c3 : Nat) (x1 x3 : Nat → Nat) (f2 : Nat → Sp) (w : World) (h1 : FRow w (.slice a1 n1 c1) n1 x1) (h2 : SRow w (.slice a2 n2 c2) n2 f2) (h3 : FRow w (.slice a3 n3 c3) n3 x3) (hc : chkV s1 s2 s3 n1 n2 n3 x1 x3 f2 = 0) :
    Calls Tryz.prog 23 #[.agg #[.int .i64 s1, .int .i64 s2, .int .i64 s3, .slice a1 n1 c1, .slice a2 n2 c2, .slice a3 n3 c3]] w fun e w' => ∃ v', e = .returned (.tuple #[v', .int .i64 0]) ∧ Pk.OwnL w.heap.size w' v' (encS s1 s2 s3 n1 n2 n3 x1 x3 f2) ∧ Old w w' := by
 have hp := chk_parts hc
 have hr := mis_rng hp.1
 have hd := crowd_rng hp.2.1
 have HC := hid (fun (W : World) (u : Old w W) => check_any s1 s2 s3 a1 a2 a3 n1 n2 n3 c1 c2 c3 x1 x3 f2 (by omega) (by omega) (by omega) W (h1.old u) (h2.old u) (h3.old u))
 rw [hc] at HC
 have HK1 := hid (fun (W : World) (u : Old w W) => skeys_any _ n1 x1 (by omega) W (h1.old u))
 have HK2 := hid (fun (W : World) (u : Old w W) => sspans_any _ n2 f2 (by omega) W (h2.old u))
 have HK3 := hid (fun (W : World) (u : Old w W) => skeys_any _ n3 x3 (by omega) W (h3.old u))
 have HN1 := hid (fun W => snum_any s1 W)
 have HN2 := hid (fun W => snum_any s2 W)
 have HN3 := hid (fun W => snum_any s3 W)
 have HE := hid (show encS s1 s2 s3 n1 n2 n3 x1 x3 f2 = (([pN s1, pN s2, pN s3] ++ ksP x1 n1 n1) ++ ssP f2 n2 n2 ++ ksP x3 n3 n3).flatMap Pk.encV from rfl)
 have Q1 := hid (ksP_nice x1 n1 n1 (by omega) h1.ws)
 have Q2 := hid (ssP_nice f2 n2 n2 (by omega) h2.ws)
 have Q3 := hid (ksP_nice x3 n3 n3 (by omega) h3.ws)
 have Q0 := hid (show ∀ p ∈ [pN s1, pN s2, pN s3], Nice p from fun p hp => by
  simp at hp
  rcases hp with rfl | rfl | rfl
  ·exact pN_nice (by omega) (by omega)
  ·exact pN_nice (by omega) (by omega)
  ·exact pN_nice (by omega) (by omega))
 have L1 := ksP_len x1 n1 n1
 have L2 := ssP_len f2 n2 n2
 have L3 := ksP_len x3 n3 n3
 have HL1 := hid (show (ksP x1 n1 n1).length ≤ 100 by omega)
 have HL2 := hid (show (ssP f2 n2 n2).length ≤ 100 by omega)
 have HL3 := hid (show (ksP x3 n3 n3).length ≤ 100 by omega)
 clear h1 h2 h3 hc hp hr hd L1 L2 L3
 generalize encS s1 s2 s3 n1 n2 n3 x1 x3 f2 = ES at *
 generalize ksP x1 n1 n1 = M1 at *
 generalize ssP f2 n2 n2 = M2 at *
 generalize ksP x3 n3 n3 = M3 at *
 go_enter Tryz.func23, Tryz.ntmps23
 go_upto_region 1 with fail
 generalize hw1 : w.alloc (.cells #[.int .i64 s1, .int .i64 s2, .int .i64 s3, .slice a1 n1 c1, .slice a2 n2 c2, .slice a3 n3 c3] 33) = w1 at *
 generalize hsb : w.heap.size = sb at *
 obtain ⟨hS, hV⟩ := sub_new w s1 s2 s3 _ _ _ w1 hw1 sb hsb
 have HV := hid hV
 have HS := hid hS
 have HSB := hid hsb
 have HS1 := hid (show w1.heap.size = sb + 1 by rw [← hw1, ← hsb]; simp)
 obtain ⟨t0, t1, t2, t3, t4, t5⟩ := hS
 clear hw1 hV hsb
 go_upto_region 4 with (first | (go_at_call 38; refine (HC.out _ HV.out).mono ?_; rintro e w2 ⟨rfl, u2⟩; have U2 := hid (HV.out.trans u2); have B2 := hid (SubAt.old u2 HS.out); have Z2 := hid (show sb + 1 ≤ w2.heap.size by have := u2.size; have := HS1.out; omega); clear u2))
 clear t0 t1 t2 t3 t4 t5 HS HC HV
 focus
  refine wp_region_noPanic ?_
  refine wp_region_held_drew (S := SubAt sb s1 s2 s3 (.slice a1 n1 c1) (.slice a2 n2 c2) (.slice a3 n3 c3)) (by kernel_rfl) ?_ (fun hHeld => ?_)
  ·exact SubAt.old ((Old.refl w2).drew) B2.out
  try simp only [Act.put, puA, puB, puC]
  clear hHeld
  all_goals
   refine atA [false, false, false, false, false, false, false, false, false, false, false] ?_
   refine tkA (i := 0) (oi := oHc0) (SubAt.old ((Old.refl w2).drew) B2.out) ?_
   try simp only [Act.put, puA, puB, puC]
   refine tkA (i := 1) (oi := oHc1) (SubAt.old ((Old.refl w2).drew) B2.out) ?_
   try simp only [Act.put, puA, puB, puC]
   refine tkA (i := 3) (oi := oHc2) (SubAt.old ((Old.refl w2).drew) B2.out) ?_
   try simp only [Act.put, puA, puB, puC]
   refine tkA (i := 4) (oi := oHc3) (SubAt.old ((Old.refl w2).drew) B2.out) ?_
   try simp only [Act.put, puA, puB, puC]
   refine tkA (i := 6) (oi := oHc4) (SubAt.old ((Old.refl w2).drew) B2.out) ?_
   try simp only [Act.put, puA, puB, puC]
   refine tkA (i := 7) (oi := oHc5) (SubAt.old ((Old.refl w2).drew) B2.out) ?_
   try simp only [Act.put, puA, puB, puC]
   refine rdA [2] ?_
   refine AllReadyH.cons (o := oHc6) rfl (fun K hK => ?_) AllReadyH.nil
   refine stepCall1 ?_ 39 (.tmp 12) #[2] ?_ (.int .i64 s1) ?_ ?_ (ent_snum _ _) ?_
   iterate 4 rfl
   refine (HN1.out _).mono ?_
   rintro o x100n ⟨rfl, b100n⟩
   refine ⟨_, rfl, ?_⟩
   have U100n := ((Old.refl w2).drew).trans b100n
   refine hK.out _ _ (SubAt.old U100n B2.out) (fun _ => ?_)
   clear hK K
   try simp only [Act.put, puA, puB, puC]
   have UU_100 := U100n
  all_goals
   refine atA [true, true, true, true, true, false, true, true, false, false, false] ?_
   refine rdA [5] ?_
   refine AllReadyH.cons (o := oHc7) rfl (fun K hK => ?_) AllReadyH.nil
   refine stepCall1 ?_ 39 (.tmp 15) #[2] ?_ (.int .i64 s2) ?_ ?_ (ent_snum _ _) ?_
   iterate 4 rfl
   refine (HN2.out _).mono ?_
   rintro o x100n ⟨rfl, b100n⟩
   refine ⟨_, rfl, ?_⟩
   have U100n := UU_100.trans b100n
   refine hK.out _ _ (SubAt.old U100n B2.out) (fun _ => ?_)
   clear hK K
   try simp only [Act.put, puA, puB, puC]
   have UU_100 := U100n
  all_goals
   refine atA [true, true, true, true, true, true, true, true, false, false, false] ?_
   refine rdA [8] ?_
   refine AllReadyH.cons (o := oHc8) rfl (fun K hK => ?_) AllReadyH.nil
   refine stepCall1 ?_ 39 (.tmp 18) #[2] ?_ (.int .i64 s3) ?_ ?_ (ent_snum _ _) ?_
   iterate 4 rfl
   refine (HN3.out _).mono ?_
   rintro o x100n ⟨rfl, b100n⟩
   refine ⟨_, rfl, ?_⟩
   have U100n := UU_100.trans b100n
   refine hK.out _ _ (SubAt.old U100n B2.out) (fun _ => ?_)
   clear hK K
   try simp only [Act.put, puA, puB, puC]
   have UU_100 := U100n
  all_goals
   refine atA [true, true, true, true, true, true, true, true, true, false, false] ?_
   refine rdA [9] ?_
   refine AllReadyH.cons (o := oHc9) rfl (fun K hK => ?_) AllReadyH.nil
   refine stepBuild3V ?_ (.tmp 13) (.tmp 16) (.tmp 19) ?_ (pN s1) (pN s2) (pN s3) ?_ ?_ ?_ ⟨_, _, _, rfl⟩ ⟨_, _, _, rfl⟩ ⟨_, _, _, rfl⟩ ?_
   iterate 5 rfl
   intro m100n x100n hm100n hx100n
   have O100n := hid (show OwnP (sb + 1) x100n (.slice (some ⟨m100n, 0, none⟩) 3 3) [pN s1, pN s2, pN s3] from OwnP.mono (by rw [hx100n]; exact own3P _ _ _ _ _ hm100n.symm) (by have := Z2.out; have := UU_100.size; omega))
   have U100n : Old w2 x100n := by rw [hx100n]; exact UU_100.alloc _
   clear hm100n hx100n
   refine hK.out _ _ (SubAt.old U100n B2.out) (fun _ => ?_)
   clear hK K
   try simp only [Act.put, puA, puB, puC]
   have OO_100 := O100n
   have UU_100 := U100n
   obtain ⟨xx_100, rfl⟩ : ∃ z, z = x100n := ⟨_, rfl⟩
  all_goals
   refine atA [true, true, true, true, true, true, true, true, true, true, false] ?_
   refine rdA [10] ?_
   refine AllReadyH.cons (o := oHc10) rfl (fun K hK => ?_) AllReadyH.nil
   go_simp
   refine hK.out _ _ (SubAt.old UU_100 B2.out) (fun _ => ?_)
   clear hK K
   try simp only [Act.put, puA, puB, puC]
  all_goals
   refine atA [true, true, true, true, true, true, true, true, true, true, true] ?_
   refine wpAnyH_done (by kernel_rfl) ?_ _
   refine NoPanic.normal ?_
   have BB := hid (SubAt.old UU_100 B2.out)
   have UU := hid (U2.out.trans UU_100)
   have ZZ := hid (show sb + 1 ≤ xx_100.heap.size by have := Z2.out; have := UU_100.size; omega)
   clear B2 HN1 HN2 HN3
   obtain ⟨t0, t1, t2, t3, t4, t5⟩ := BB.out
   generalize hLL : [pN s1, pN s2, pN s3] = LL at *
   have HLL := hid (show LL.length = 3 by rw [← hLL]; rfl)
   clear hLL
   go_upto_region 6 with (first | (go_at_call 40; refine (HK1.out _ UU.out).mono ?_; rintro e y6 ⟨vk6, rfl, ok6, uk6⟩; have Ok6 := hid ok6; have Zk6 := hid uk6.size; have Bk6 := hid (SubAt.old uk6 BB.out); have Oo6 := hid (OO_100.out.old uk6); have Vk6 := hid (UU.out.trans uk6); clear ok6 uk6) | (at_builtin; refine Pk.wp_appVg rfl (.tmp 21) (.tmp 24) rfl (sb + 1) _ _ LL.length M1.length (gp LL) (gp M1) rfl rfl Oo6.out (Ok6.out.vrow Q1.out) (by have := HL1.out; have := HLL.out; omega) (by have := Zk6.out; have := ZZ.out; omega) ?_; intro v6 w6 o6 g6; have A6 := hid (app_step Bk6.out Oo6.out Vk6.out HSB.out o6 g6); have S6 := hid g6.size; clear o6 g6))
   have Z6 := hid (show sb + 1 ≤ w6.heap.size by have := Zk6.out; have := ZZ.out; have := S6.out; omega)
   have V6 := hid A6.out.2.2
   clear t0 t1 t2 t3 t4 t5
   obtain ⟨t0, t1, t2, t3, t4, t5⟩ := A6.out.2.1
   clear Ok6 Zk6 Bk6 Oo6 Vk6 HK1
   generalize hX1 : LL ++ M1 = X1 at *
   have HX1 := hid (show X1.length ≤ 103 by rw [← hX1, List.length_append]; have := HLL.out; have := HL1.out; omega)
   have QX1 := hid (show ∀ p ∈ X1, Nice p from fun p hp => by rw [← hX1] at hp; rcases List.mem_append.1 hp with q | q; exact Q0.out p q; exact Q1.out p q)
   clear hX1
   go_upto_region 7 with (first | (go_at_call 41; refine (HK2.out _ V6.out).mono ?_; rintro e y7 ⟨vk7, rfl, ok7, uk7⟩; have Ok7 := hid ok7; have Zk7 := hid uk7.size; have Bk7 := hid (SubAt.old uk7 A6.out.2.1); have Oo7 := hid (A6.out.1.old uk7); have Vk7 := hid (V6.out.trans uk7); clear ok7 uk7) | (at_builtin; refine Pk.wp_appVg rfl (.tmp 26) (.tmp 29) rfl (sb + 1) _ _ X1.length M2.length (gp X1) (gp M2) rfl rfl Oo7.out (Ok7.out.vrow Q2.out) (by have := HL2.out; have := HX1.out; omega) (by have := Zk7.out; have := Z6.out; omega) ?_; intro v7 w7 o7 g7; have A7 := hid (app_step Bk7.out Oo7.out Vk7.out HSB.out o7 g7); have S7 := hid g7.size; clear o7 g7))
   have Z7 := hid (show sb + 1 ≤ w7.heap.size by have := Zk7.out; have := Z6.out; have := S7.out; omega)
   have V7 := hid A7.out.2.2
   clear t0 t1 t2 t3 t4 t5
   obtain ⟨t0, t1, t2, t3, t4, t5⟩ := A7.out.2.1
   clear Ok7 Zk7 Bk7 Oo7 Vk7 HK2
   generalize hX2 : X1 ++ M2 = X2 at *
   have HX2 := hid (show X2.length ≤ 203 by rw [← hX2, List.length_append]; have := HX1.out; have := HL2.out; omega)
   have QX2 := hid (show ∀ p ∈ X2, Nice p from fun p hp => by rw [← hX2] at hp; rcases List.mem_append.1 hp with q | q; exact QX1.out p q; exact Q2.out p q)
   clear hX2
   go_upto_region 8 with (first | (go_at_call 40; refine (HK3.out _ V7.out).mono ?_; rintro e y8 ⟨vk8, rfl, ok8, uk8⟩; have Ok8 := hid ok8; have Zk8 := hid uk8.size; have Bk8 := hid (SubAt.old uk8 A7.out.2.1); have Oo8 := hid (A7.out.1.old uk8); have Vk8 := hid (V7.out.trans uk8); clear ok8 uk8) | (at_builtin; refine Pk.wp_appVg rfl (.tmp 31) (.tmp 34) rfl (sb + 1) _ _ X2.length M3.length (gp X2) (gp M3) rfl rfl Oo8.out (Ok8.out.vrow Q3.out) (by have := HL3.out; have := HX2.out; omega) (by have := Zk8.out; have := Z7.out; omega) ?_; intro v8 w8 o8 g8; have A8 := hid (app_step Bk8.out Oo8.out Vk8.out HSB.out o8 g8); have S8 := hid g8.size; clear o8 g8))
   have Z8 := hid (show sb + 1 ≤ w8.heap.size by have := Zk8.out; have := Z7.out; have := S8.out; omega)
   have V8 := hid A8.out.2.2
   clear t0 t1 t2 t3 t4 t5
   obtain ⟨t0, t1, t2, t3, t4, t5⟩ := A8.out.2.1
   clear Ok8 Zk8 Bk8 Oo8 Vk8 HK3
   generalize hX3 : X2 ++ M3 = X3 at *
   have HX3 := hid (show X3.length ≤ 303 by rw [← hX3, List.length_append]; have := HX2.out; have := HL3.out; omega)
   have QX3 := hid (show ∀ p ∈ X3, Nice p from fun p hp => by rw [← hX3] at hp; rcases List.mem_append.1 hp with q | q; exact QX2.out p q; exact Q3.out p q)
   clear hX3
   have HPt := hid (A8.out.1.put QX3.out (by have := HX3.out; omega))
   rw [← HE.out] at HPt
   go_wp2_with (first | (go_at_call 42; refine HPt.out.mono ?_; rintro e w9 ⟨v9, rfl, o9, u9⟩; have O9 := hid o9; have U9 := hid u9; clear o9 u9))
   exact bodyPost_ret (v := .tuple #[v9, .int .i64 0]) (by simp [results, Tryz.results23, go_sem]) rfl ⟨v9, rfl, Pk.OwnL.mono' O9.out (by have := Z8.out; have := HSB.out; omega), V8.out.trans U9.out⟩
end Go.Proofs.YthjfkmjeppdcnaaGreat
namespace Go.Proofs.YthjfkmjeppdcnaaGreat
open Go.RowKit Go.Lib
set_option linter.unusedVariables false
set_option linter.unusedSimpArgs false
set_option maxRecDepth 20000
def keyB (x : Nat) : List Nat := Pk.keyL (Fl.code x) 8
theorem keyB_len (x : Nat) : (keyB x).length = 8 := by simp [keyB, Pk.keyL]
def kRest (x : Nat → Nat) (n k : Nat) (B : List Nat) : List Nat := ((rl x n).drop k).flatMap keyB ++ B
theorem kRest_step (x : Nat → Nat) (n k : Nat) (B : List Nat) (h : k < n) : kRest x n k B = keyB (x k) ++ kRest x n (k + 1) B := by
 unfold kRest
 have e : (rl x n).drop k = x k :: (rl x n).drop (k + 1) := by
  rw [List.drop_eq_getElem_cons (by rw [rl_len]; exact h)]
  simp [rl]
 rw [e, List.flatMap_cons, List.append_assoc]
theorem kRest_end (x : Nat → Nat) (n : Nat) (B : List Nat) : kRest x n n B = B := by
 unfold kRest
 rw [List.drop_eq_nil_of_le (by rw [rl_len]; exact Nat.le_refl _)]
 rfl
def sB (s : Sp) : List Nat := keyB s.a ++ keyB s.b
def sRest (f : Nat → Sp) (n k : Nat) (B : List Nat) : List Nat := ((rl f n).drop k).flatMap sB ++ B
theorem sRest_step (f : Nat → Sp) (n k : Nat) (B : List Nat) (h : k < n) : sRest f n k B = keyB (f k).a ++ (keyB (f k).b ++ sRest f n (k + 1) B) := by
 unfold sRest
 have e : (rl f n).drop k = f k :: (rl f n).drop (k + 1) := by
  rw [List.drop_eq_getElem_cons (by rw [rl_len]; exact h)]
  simp [rl]
 rw [e, List.flatMap_cons]
 simp [sB, List.append_assoc]
theorem sRest_end (f : Nat → Sp) (n : Nat) (B : List Nat) : sRest f n n B = B := by
 unfold sRest
 rw [List.drop_eq_nil_of_le (by rw [rl_len]; exact Nat.le_refl _)]
 rfl
def bytesS (s1 s2 s3 : Int) (n1 n2 n3 : Nat) (x1 x3 : Nat → Nat) (f2 : Nat → Sp) (B : List Nat) : List Nat := Pk.numL s1 ++ (Pk.numL s2 ++ (Pk.numL s3 ++ (Pk.numL n1 ++ kRest x1 n1 0 (Pk.numL n2 ++ sRest f2 n2 0 (Pk.numL n3 ++ kRest x3 n3 0 B)))))
theorem encV_pN (z : Int) : Pk.encV (pN z) = Pk.numL z := by simp [Pk.encV, pN]
theorem encV_pK (x : Nat) : Pk.encV (pK x) = keyB x := by simp [Pk.encV, pK, keyB]
theorem flat_map {α β γ : Type} (g : α → β) (h : β → List γ) (k : α → List γ) (e : ∀ a, h (g a) = k a) : ∀ L : List α, (L.map g).flatMap h = L.flatMap k
 | [] => rfl
 | a :: t => by rw [List.map_cons, List.flatMap_cons, List.flatMap_cons, e, flat_map g h k e t]
theorem flat_flat {α β γ : Type} (g : α → List β) (h : β → List γ) (k : α → List γ) (e : ∀ a, (g a).flatMap h = k a) : ∀ L : List α, (L.flatMap g).flatMap h = L.flatMap k
 | [] => rfl
 | a :: t => by rw [List.flatMap_cons, List.flatMap_append, List.flatMap_cons, e, flat_flat g h k e t]
theorem ksP_enc (x : Nat → Nat) (n : Nat) : (ksP x n n).flatMap Pk.encV = Pk.numL n ++ (rl x n).flatMap keyB := by
 unfold ksP
 rw [List.flatMap_cons, encV_pN, flat_map pK Pk.encV keyB encV_pK]
theorem ssP_enc (f : Nat → Sp) (n : Nat) : (ssP f n n).flatMap Pk.encV = Pk.numL n ++ (rl f n).flatMap sB := by
 unfold ssP
 rw [List.flatMap_cons, encV_pN, flat_flat sp2 Pk.encV sB (fun s => by simp [sp2, sB, encV_pK])]
theorem encS_bytes (s1 s2 s3 : Int) (n1 n2 n3 : Nat) (x1 x3 : Nat → Nat) (f2 : Nat → Sp) : encS s1 s2 s3 n1 n2 n3 x1 x3 f2 = bytesS s1 s2 s3 n1 n2 n3 x1 x3 f2 [] := by
 unfold encS subP bytesS kRest sRest
 rw [List.flatMap_append, List.flatMap_append, List.flatMap_append, ksP_enc, ssP_enc, ksP_enc]
 simp only [List.flatMap_cons, List.flatMap_nil, encV_pN, List.drop_zero, List.append_nil, List.append_assoc]
theorem sameU_each {x y : Nat → Nat} : ∀ {n : Nat}, Fl.sameU x y n = true → ∀ i, i < n → x i = y i
 | n + 1, h, i, hi => by
  have h' : (Fl.sameU x y n && decide (x n = y n)) = true := h
  rw [Bool.and_eq_true, decide_eq_true_eq] at h'
  by_cases e : i = n
  ·subst e; exact h'.2
  ·exact sameU_each h'.1 i (by omega)
theorem spU_each {f g : Nat → Sp} : ∀ {n : Nat}, Fl.spU f g n = true → ∀ i, i < n → spEq (f i) (g i) = true
 | n + 1, h, i, hi => by
  have h' : (Fl.spU f g n && spEq (f n) (g n)) = true := h
  rw [Bool.and_eq_true] at h'
  by_cases e : i = n
  ·subst e; exact h'.2
  ·exact spU_each h'.1 i (by omega)
theorem ordF_canon {x : Nat → Nat} {n : Nat} (hx : ∀ i, i < n → Fl.W (x i)) (h : ordF x n = true) : ∀ i, i < n → Fl.W (x i) ∧ Fl.canon (x i) = x i := by
 intro i hi
 unfold ordF at h
 rw [Bool.and_eq_true, decide_eq_true_eq] at h
 have e := sameU_each h.2 i hi
 have hm : atN (Fl.sortL x n) i ∈ Fl.sortL x n := by
  rw [atN_get _ i (by omega)]
  exact List.getElem_mem _
 have q := (Fl.sortL_all x n hx n (Nat.le_refl _)).2.1 _ hm
 rw [← e] at q
 exact q
theorem ordS_form {f : Nat → Sp} {n : Nat} (hx : ∀ i, i < n → Fl.W (f i).a ∧ Fl.W (f i).b) (h : ordS f n = true) : ∀ i, i < n → ∃ r : Nat × Nat, Fl.RV r ∧ f i = Fl.spo r := by
 intro i hi
 unfold ordS at h
 rw [Bool.and_eq_true, decide_eq_true_eq] at h
 have e := sp_ext (spU_each h.2 i hi)
 have hk := Fl.dfold_ok _ (Fl.cdl f n) rfl (Fl.cdl_RV f n hx)
 have hl : i < ((Fl.dfold (Fl.cdl f n)).map Fl.spo).length := by rw [List.length_map]; omega
 rw [atS_get _ i hl, List.getElem_map] at e
 exact ⟨_, hk.1.2 _ (List.getElem_mem _), e⟩
theorem sameU_of {x y : Nat → Nat} : ∀ {n : Nat}, (∀ i, i < n → x i = y i) → Fl.sameU x y n = true
 | 0, _ => rfl
 | n + 1, h => by
  show (Fl.sameU x y n && decide (x n = y n)) = true
  rw [sameU_of (fun i hi => h i (by omega)), decide_eq_true (h n (by omega))]; rfl
theorem spU_of {f g : Nat → Sp} : ∀ {n : Nat}, (∀ i, i < n → f i = g i) → Fl.spU f g n = true
 | 0, _ => rfl
 | n + 1, h => by
  show (Fl.spU f g n && spEq (f n) (g n)) = true
  rw [spU_of (fun i hi => h i (by omega)), h n (by omega)]; simp [spEq]
end Go.Proofs.YthjfkmjeppdcnaaGreat
namespace Go.Proofs.YthjfkmjeppdcnaaGreat
set_option linter.unusedVariables false
set_option linter.unusedSimpArgs false
set_option maxRecDepth 20000
theorem sameU_refl (x : Nat → Nat) (n : Nat) : Fl.sameU x x n = true := sameU_of fun _ _ => rfl
theorem spU_refl (f : Nat → Sp) (n : Nat) : Fl.spU f f n = true := spU_of fun _ _ => rfl
theorem anyG_none {g : Nat → Bool} : ∀ {n : Nat}, (∀ i, i < n → g i = false) → Fl.anyG g n = false
 | 0, _ => rfl
 | n + 1, h => by
  show (Fl.anyG g n || g n) = false
  rw [anyG_none (fun i hi => h i (by omega)), h n (by omega)]; rfl
theorem ordF_sorted (x : Nat → Nat) (n : Nat) (hx : ∀ i, i < n → Fl.W (x i)) : ordF (atN (Fl.sortL x n)) (Fl.sortL x n).length = true := by
 unfold ordF
 rw [sortL_again x n hx, decide_eq_true rfl, sameU_refl]
 rfl
theorem dfold_nl {D : List (Nat × Nat)} (h : Fl.NL D) : Fl.dfold D = D := by
 have hk := Fl.dfold_ok _ D rfl h.2
 exact Fl.nl_unique _ _ hk.1 h hk.2.1
theorem cdl_again {D : List (Nat × Nat)} (h : Fl.NL D) : Fl.dfold (Fl.cdl (atS (D.map Fl.spo)) (D.map Fl.spo).length) = D := by
 rw [List.length_map, Fl.cdl_spo D h.2, dfold_nl h]
theorem ordS_norm {D : List (Nat × Nat)} (h : Fl.NL D) : ordS (atS (D.map Fl.spo)) (D.map Fl.spo).length = true := by
 unfold ordS
 rw [cdl_again h, List.length_map, decide_eq_true rfl, spU_refl]
 rfl
theorem atS_spo {D : List (Nat × Nat)} (h : Fl.NL D) (i : Nat) (hi : i < (D.map Fl.spo).length) : ∃ r, Fl.RV r ∧ atS (D.map Fl.spo) i = Fl.spo r := by
 rw [atS_get _ i hi, List.getElem_map]
 exact ⟨_, h.2 _ (List.getElem_mem _), rfl⟩
theorem csE_spo {r : Nat × Nat} (h : Fl.RV r) : Fl.csE (Fl.spo r).a (Fl.spo r).b (Fl.spo r).p (Fl.spo r).q = false := (Fl.cs_of_form _ _ _ (Fl.spo_form h)).2.2
theorem canC_parts {m c k z : Bool} (h : canC m c k z = 0) : m = false ∧ c = false ∧ k = false ∧ z = false := by
 unfold canC at h
 cases m <;> cases c <;> cases k <;> cases z <;> simp at h ⊢
theorem canC_zero : canC false false false false = 0 := rfl
theorem canon_right (s1 s2 s3 : Int) (n1 n2 n3 : Nat) (x1 x3 : Nat → Nat) (f2 : Nat → Sp) (h1 : ∀ i, i < n1 → Fl.W (x1 i)) (h2 : ∀ i, i < n2 → Fl.W (f2 i).a ∧ Fl.W (f2 i).b) (h3 : ∀ i, i < n3 → Fl.W (x3 i)) (hm : misB s1 s2 s3 = false) (hc : crowdB (Fl.sortL x1 n1).length ((Fl.dfold (Fl.cdl f2 n2)).map Fl.spo).length (Fl.sortL x3 n3).length = false) (hk : (Fl.anyG (fun i => Fl.nan (atN (Fl.sortL x1 n1) i)) (Fl.sortL x1 n1).length || Fl.anyG (fun i => Fl.nan (atN (Fl.sortL x3 n3) i)) (Fl.sortL x3 n3).length) = false) :
    chkV s1 s2 s3 (Fl.sortL x1 n1).length ((Fl.dfold (Fl.cdl f2 n2)).map Fl.spo).length (Fl.sortL x3 n3).length (atN (Fl.sortL x1 n1)) (atN (Fl.sortL x3 n3)) (atS ((Fl.dfold (Fl.cdl f2 n2)).map Fl.spo)) = 0 := by
 have hD := (Fl.dfold_ok _ (Fl.cdl f2 n2) rfl (Fl.cdl_RV f2 n2 h2)).1
 unfold chkV
 rw [hm, hc, hk, ordF_sorted x1 n1 h1, ordF_sorted x3 n3 h3, ordS_norm hD, anyG_none (fun i hi => by obtain ⟨r, hr, e⟩ := atS_spo hD i hi; rw [e]; exact csE_spo hr)]
 rfl
theorem canon_code_again (s1 s2 s3 : Int) (n1 n2 n3 : Nat) (x1 x3 : Nat → Nat) (f2 : Nat → Sp) (h1 : ∀ i, i < n1 → Fl.W (x1 i)) (h2 : ∀ i, i < n2 → Fl.W (f2 i).a ∧ Fl.W (f2 i).b) (h3 : ∀ i, i < n3 → Fl.W (x3 i)) : Fl.anyG (fun i => Fl.nan (atS ((Fl.dfold (Fl.cdl f2 n2)).map Fl.spo) i).a || Fl.nan (atS ((Fl.dfold (Fl.cdl f2 n2)).map Fl.spo) i).b) ((Fl.dfold (Fl.cdl f2 n2)).map Fl.spo).length = false := by
 have hD := (Fl.dfold_ok _ (Fl.cdl f2 n2) rfl (Fl.cdl_RV f2 n2 h2)).1
 refine anyG_none fun i hi => ?_
 obtain ⟨r, hr, e⟩ := atS_spo hD i hi
 have q := csE_nan (csE_spo hr)
 rw [e, q.1, q.2]
 rfl
theorem ordF_len {x : Nat → Nat} {n : Nat} (h : ordF x n = true) : n = (Fl.sortL x n).length ∧ ∀ i, i < n → x i = atN (Fl.sortL x n) i := by
 unfold ordF at h
 rw [Bool.and_eq_true, decide_eq_true_eq] at h
 exact ⟨h.1, sameU_each h.2⟩
theorem ordS_len {f : Nat → Sp} {n : Nat} (h : ordS f n = true) : n = ((Fl.dfold (Fl.cdl f n)).map Fl.spo).length ∧ ∀ i, i < n → f i = atS ((Fl.dfold (Fl.cdl f n)).map Fl.spo) i := by
 unfold ordS at h
 rw [Bool.and_eq_true, decide_eq_true_eq] at h
 exact ⟨by rw [List.length_map]; exact h.1, fun i hi => sp_ext (spU_each h.2 i hi)⟩
theorem right_canon (s1 s2 s3 : Int) (n1 n2 n3 : Nat) (x1 x3 : Nat → Nat) (f2 : Nat → Sp) (h : chkV s1 s2 s3 n1 n2 n3 x1 x3 f2 = 0) : canC (misB s1 s2 s3) (crowdB (Fl.sortL x1 n1).length ((Fl.dfold (Fl.cdl f2 n2)).map Fl.spo).length (Fl.sortL x3 n3).length) (Fl.anyG (fun i => Fl.nan (atN (Fl.sortL x1 n1) i)) (Fl.sortL x1 n1).length || Fl.anyG (fun i => Fl.nan (atN (Fl.sortL x3 n3) i)) (Fl.sortL x3 n3).length) (Fl.anyG (fun i => Fl.nan (f2 i).a || Fl.nan (f2 i).b) n2) = 0 := by
 have p := chk_parts h
 have o1 := ordF_len p.2.2.2.2.1
 have o2 := ordS_len p.2.2.2.2.2.1
 have o3 := ordF_len p.2.2.2.2.2.2
 have k := p.2.2.1
 rw [Bool.or_eq_false_iff] at k
 have k1 := anyG_each k.1
 have k3 := anyG_each k.2
 have z := anyG_each p.2.2.2.1
 rw [← o1.1, ← o2.1, ← o3.1, p.1, p.2.1, anyG_none (fun i hi => by rw [← o1.2 i hi]; exact k1 i hi), anyG_none (fun i hi => by rw [← o3.2 i hi]; exact k3 i hi), anyG_none (fun i hi => by have q := csE_nan (z i hi); rw [q.1, q.2]; rfl)]
 rfl
end Go.Proofs.YthjfkmjeppdcnaaGreat
