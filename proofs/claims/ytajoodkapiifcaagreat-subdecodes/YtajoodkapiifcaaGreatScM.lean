/- Rows of pack's values that a call owns, as lists; sub's num and key; no condition. -/
import Derived.Test.YtajoodkapiifcaaGreatScK
import Derived.Test.YtajoodkapiifcaaGreatScD
import Derived.Test.YtajoodkapiifcaaGreatSqa
import Derived.Test.YtajoodkapiifcaaGreatScA
import Derived.Test.YtajoodkapiifcaaGreatScF
import Derived.Test.YtajoodkapiifcaaGreatScH
import Derived.Test.YtajoodkapiifcaaGreatScL
namespace Go.Proofs.YtajoodkapiifcaaGreat
open Go.RowKit Go.Lib
set_option linter.unusedVariables false
set_option linter.unusedSimpArgs false
set_option maxRecDepth 20000
theorem heapLt {w : World} {g : Nat} {o : Obj} (h : w.heap[g]? = some o) : g < w.heap.size := by
 rcases Nat.lt_or_ge g w.heap.size with q | q
 ·exact q
 ·rw [Array.getElem?_eq_none q] at h; cases h
def p0 : Pk.PV := ⟨0, 0, 0, .slice none 0 0, 0, fun _ => 0, false⟩
def pN (z : Int) : Pk.PV := ⟨1, z, 0, .slice none 0 0, 0, fun _ => 0, false⟩
def pK (x : Nat) : Pk.PV := ⟨2, 0, x, .slice none 0 0, 0, fun _ => 0, false⟩
def gp (L : List Pk.PV) (i : Nat) : Pk.PV := (L[i]?).getD p0
theorem gp_get (L : List Pk.PV) (i : Nat) (h : i < L.length) : gp L i = L[i] := by simp [gp, h]
theorem vl_congr (n : Nat) (f g : Nat → Pk.PV) (h : ∀ i, i < n → f i = g i) : Pk.vl n f = Pk.vl n g := by
 unfold Pk.vl
 apply List.map_congr_left
 intro j hj
 have : j < n * 5 := by simpa using hj
 rw [h (j / 5) (by omega)]
theorem gp_app (L M : List Pk.PV) (i : Nat) (hi : i < L.length + M.length) : Pk.catP L.length (gp L) (gp M) i = gp (L ++ M) i := by
 unfold Pk.catP gp
 by_cases h : i < L.length
 ·rw [if_pos h, List.getElem?_append_left h]
 ·rw [if_neg h, List.getElem?_append_right (by omega)]
def OwnP (base : Nat) (w : World) (v : Value) (L : List Pk.PV) : Prop := Pk.OwnV base w v L.length (gp L)
theorem OwnP.of {base : Nat} {w : World} {v : Value} {n m : Nat} {f g : Nat → Pk.PV} {L M : List Pk.PV} (hn : n = L.length) (hm : m = M.length) (hf : ∀ i, i < n → f i = gp L i) (hg : ∀ i, i < m → g i = gp M i) (h : Pk.OwnV base w v (n + m) (Pk.catP n f g)) : OwnP base w v (L ++ M) := by
 subst hn hm
 unfold OwnP
 rw [List.length_append]
 have e := vl_congr (L.length + M.length) (Pk.catP L.length f g) (gp (L ++ M)) (fun i hi => by
  rw [← gp_app L M i hi]
  unfold Pk.catP
  by_cases q : i < L.length
  ·rw [if_pos q, if_pos q, hf i q]
  ·rw [if_neg q, if_neg q, hg _ (by omega)])
 unfold Pk.OwnV at h ⊢
 rw [e] at h
 exact h
theorem OwnP.old {base : Nat} {w w' : World} {v : Value} {L : List Pk.PV} (h : OwnP base w v L) (u : Old w w') : OwnP base w' v L := by
 unfold OwnP Pk.OwnV at *
 refine ⟨h.1, ?_⟩
 rcases h.2 with e | ⟨g, cap, cur, e, hb', hg, r⟩
 ·exact .inl e
 ·exact .inr ⟨g, cap, cur, e, hb', by rw [u.block g (heapLt hg)]; exact hg, r⟩
theorem OwnP.len {base : Nat} {w : World} {v : Value} {L : List Pk.PV} (h : OwnP base w v L) : ∃ a c, v = .slice a L.length c := by
 obtain ⟨a, c, e, _⟩ := Pk.OwnV.shape h
 exact ⟨a, c, e⟩
theorem OwnP.mono {base b' : Nat} {w : World} {v : Value} {L : List Pk.PV} (h : OwnP base w v L) (hb : b' ≤ base) : OwnP b' w v L := by
 unfold OwnP Pk.OwnV at *
 refine ⟨h.1, ?_⟩
 rcases h.2 with e | ⟨g, cap, cur, e, hb', r⟩
 ·exact .inl e
 ·exact .inr ⟨g, cap, cur, e, by omega, r⟩
def Nice (p : Pk.PV) : Prop := (∃ z, p = pN z ∧ -9223372036854775808 ≤ z ∧ z ≤ 9223372036854775807) ∨ ∃ x, p = pK x ∧ Fl.W x
theorem Nice.in {p : Pk.PV} (h : Nice p) (w : World) : Pk.PV.In w p := by
 rcases h with ⟨z, rfl, h1, h2⟩ | ⟨x, rfl, hx⟩
 ·exact ⟨by simp [pN], ⟨h1, h2⟩, by simp [pN], .inl ⟨rfl, none, 0, rfl, fun _ => rfl⟩⟩
 ·exact ⟨by simp [pK], by simp [pK], hx, .inl ⟨rfl, none, 0, rfl, fun _ => rfl⟩⟩
theorem OwnP.vrow {base : Nat} {w : World} {v : Value} {L : List Pk.PV} (h : OwnP base w v L) (hN : ∀ p ∈ L, Nice p) : Pk.VRow w v L.length (gp L) := by
 have h2 := h
 unfold OwnP Pk.OwnV at h2
 rcases h2.2 with ⟨rfl, hn⟩ | ⟨g, cap, cur, rfl, hb, hg, hnc, hcm, hcs, htk⟩
 ·left
  exact ⟨hn, none, 0, rfl, fun _ => rfl⟩
 ·by_cases hz : L.length = 0
  ·left
   exact ⟨hz, some ⟨g, 0, none⟩, cap, by rw [hz], fun e => by cases e⟩
  ·right
   refine ⟨by omega, g, 0, cap, rfl, fun i hi => ?_, hnc, hcm⟩
   obtain ⟨a, c, e, hc⟩ := Pk.OwnV.shape h
   obtain ⟨b, off, e2, hA⟩ := hc i hi
   simp only [Value.slice.injEq] at e
   obtain ⟨rfl, _, _⟩ := e
   simp only [Option.some.injEq, Addr.mk.injEq] at e2
   obtain ⟨rfl, rfl, _⟩ := e2
   refine ⟨hA, (hN _ ?_).in w⟩
   rw [gp_get L i hi]
   exact List.getElem_mem hi
theorem row1P (w : World) (p : Pk.PV) (h : Pk.PV.In w p) (t : TypeId) (g : Nat) (hg : w.heap.size = g) : Pk.VRow (w.alloc (.cells #[.int .i64 p.k, .int .i64 p.n, .float .f64 p.x, p.b, .bool p.on] t)) (.slice (some ⟨g, 0, none⟩) 1 1) 1 (fun _ => p) := by
 subst hg
 have cc := fun j u (hj : (#[.int .i64 p.k, .int .i64 p.n, .float .f64 p.x, p.b, .bool p.on] : Array Value)[j]? = some u) => Pk.cell_new w #[.int .i64 p.k, .int .i64 p.n, .float .f64 p.x, p.b, .bool p.on] t (0, 0) j u hj
 refine .inr ⟨by omega, w.heap.size, 0, 1, rfl, fun i hi => ?_, by omega, by unfold maxLen; omega⟩
 obtain rfl : i = 0 := by omega
 exact ⟨⟨cc 0 _ rfl, cc 1 _ rfl, cc 2 _ rfl, cc 3 _ rfl, cc 4 _ rfl⟩, h.up ((Pk.Up.refl _).alloc _)⟩
theorem own1P (w : World) (p : Pk.PV) (g : Nat) (hg : w.heap.size = g) : OwnP g (w.alloc (.cells #[.int .i64 p.k, .int .i64 p.n, .float .f64 p.x, p.b, .bool p.on] 64)) (.slice (some ⟨g, 0, none⟩) 1 1) [p] := by
 subst hg
 exact ⟨rfl, .inr ⟨w.heap.size, 1, _, rfl, Nat.le_refl _, Pk.heap_new w _, by simp, by unfold maxLen; omega, rfl, by simp [Pk.vl, List.range, List.range.loop, Pk.pvc, gp]⟩⟩
theorem own3P (w : World) (p q r : Pk.PV) (g : Nat) (hg : w.heap.size = g) : OwnP g (w.alloc (.cells #[.int .i64 p.k, .int .i64 p.n, .float .f64 p.x, p.b, .bool p.on, .int .i64 q.k, .int .i64 q.n, .float .f64 q.x, q.b, .bool q.on, .int .i64 r.k, .int .i64 r.n, .float .f64 r.x, r.b, .bool r.on] 64)) (.slice (some ⟨g, 0, none⟩) 3 3) [p, q, r] := by
 subst hg
 exact ⟨rfl, .inr ⟨w.heap.size, 3, _, rfl, Nat.le_refl _, Pk.heap_new w _, by simp, by unfold maxLen; omega, rfl, by simp [Pk.vl, List.range, List.range.loop, Pk.pvc, gp]⟩⟩
theorem row2P (w : World) (p q : Pk.PV) (h1 : Pk.PV.In w p) (h2 : Pk.PV.In w q) (t : TypeId) (g : Nat) (hg : w.heap.size = g) : Pk.VRow (w.alloc (.cells #[.int .i64 p.k, .int .i64 p.n, .float .f64 p.x, p.b, .bool p.on, .int .i64 q.k, .int .i64 q.n, .float .f64 q.x, q.b, .bool q.on] t)) (.slice (some ⟨g, 0, none⟩) 2 2) 2 (gp [p, q]) := by
 subst hg
 have cc := fun j u (hj : (#[.int .i64 p.k, .int .i64 p.n, .float .f64 p.x, p.b, .bool p.on, .int .i64 q.k, .int .i64 q.n, .float .f64 q.x, q.b, .bool q.on] : Array Value)[j]? = some u) => Pk.cell_new w #[.int .i64 p.k, .int .i64 p.n, .float .f64 p.x, p.b, .bool p.on, .int .i64 q.k, .int .i64 q.n, .float .f64 q.x, q.b, .bool q.on] t (0, 0) j u hj
 refine .inr ⟨by omega, w.heap.size, 0, 2, rfl, fun i hi => ?_, by omega, by unfold maxLen; omega⟩
 match i, hi with
 | 0, _ => exact ⟨⟨cc 0 _ rfl, cc 1 _ rfl, cc 2 _ rfl, cc 3 _ rfl, cc 4 _ rfl⟩, h1.up ((Pk.Up.refl _).alloc _)⟩
 | 1, _ => exact ⟨⟨cc 5 _ rfl, cc 6 _ rfl, cc 7 _ rfl, cc 8 _ rfl, cc 9 _ rfl⟩, h2.up ((Pk.Up.refl _).alloc _)⟩
attribute [local go_sem] run_bits run_frombits run_store_float eqF
set_option maxHeartbeats 400000 in
theorem snum_any (z : Int) (w : World) : Calls Tryz.prog 31 #[.int .i64 z] w fun e w' => e = .returned (.agg #[.int .i64 1, .int .i64 z, .float .f64 0, .slice none 0 0, .bool false]) ∧ Old w w' := by
 go_enter Tryz.func31, Tryz.ntmps31
 go_wp2
 exact bodyPost_ret (v := .agg #[.int .i64 1, .int .i64 z, .float .f64 0, .slice none 0 0, .bool false]) (by simp [results, Tryz.results31, go_sem]) rfl ⟨rfl, by repeat (first | exact Old.refl _ | refine Old.alloc ?_ _ | refine Old.setCell ?_ ?_ _ | exact Nat.le_refl _)⟩
set_option maxHeartbeats 400000 in
theorem skey_any (x : Nat) (w : World) : Calls Tryz.prog 59 #[.float .f64 x] w fun e w' => e = .returned (.agg #[.int .i64 2, .int .i64 0, .float .f64 x, .slice none 0 0, .bool false]) ∧ Old w w' := by
 go_enter Tryz.func59, Tryz.ntmps59
 go_wp2
 exact bodyPost_ret (v := .agg #[.int .i64 2, .int .i64 0, .float .f64 x, .slice none 0 0, .bool false]) (by simp [results, Tryz.results59, go_sem]) rfl ⟨rfl, by repeat (first | exact Old.refl _ | refine Old.alloc ?_ _ | refine Old.setCell ?_ ?_ _ | exact Nat.le_refl _)⟩
end Go.Proofs.YtajoodkapiifcaaGreat
namespace Go.Proofs.YtajoodkapiifcaaGreat
abbrev oHb0 : Oper := { dst := some 16, op := .move (.tmp 3), type := 66, pos := "bytes.go:38", after := #[], guard := none }
abbrev oHb1 : Oper := { dst := some 17, op := .fieldAddr 31 (.tmp 5) 0, type := 0, pos := "bytes.go:38", after := #[], guard := none }
abbrev oHb2 : Oper := { dst := some 18, op := .load 22 (.tmp 17), type := 22, pos := "bytes.go:38", after := #[⟨1, .data⟩], guard := none }
abbrev oHb3 : Oper := { dst := some 20, op := .fieldAddr 31 (.tmp 5) 1, type := 0, pos := "bytes.go:38", after := #[], guard := none }
abbrev oHb4 : Oper := { dst := some 21, op := .load 22 (.tmp 20), type := 22, pos := "bytes.go:38", after := #[⟨4, .data⟩], guard := none }
abbrev oHb5 : Oper := { dst := some 19, op := .call { callee := Callee.value (.func 59), args := #[.tmp 18], argTypes := #[22] }, type := 64, pos := "bytes.go:38", after := #[⟨2, .data⟩], guard := none }
abbrev oHb6 : Oper := { dst := some 22, op := .call { callee := Callee.value (.func 59), args := #[.tmp 21], argTypes := #[22] }, type := 64, pos := "bytes.go:38", after := #[⟨5, .data⟩, ⟨3, .chain⟩], guard := none }
abbrev oHb7 : Oper := { dst := some 23, op := .buildSlice 66 2 #[(0, .tmp 19), (1, .tmp 22)], type := 66, pos := "bytes.go:38", after := #[⟨3, .data⟩, ⟨6, .data⟩], guard := none }
abbrev oHb8 : Oper := { dst := some 24, op := .call { callee := Callee.builtin Builtin.append, args := #[.tmp 16, .tmp 23], argTypes := #[66, 66] }, type := 66, pos := "bytes.go:38", after := #[⟨0, .data⟩, ⟨7, .data⟩, ⟨6, .chain⟩], guard := none }
abbrev oHb9 : Oper := { dst := some 3, op := .assign (.tmp 24), type := 66, pos := "bytes.go:38", after := #[⟨8, .data⟩, ⟨8, .chain⟩, ⟨0, .phase⟩, ⟨1, .phase⟩, ⟨2, .phase⟩, ⟨3, .phase⟩, ⟨4, .phase⟩, ⟨5, .phase⟩, ⟨6, .phase⟩, ⟨7, .phase⟩, ⟨8, .phase⟩], guard := none }
open Go.RowKit Go.Lib
set_option linter.unusedVariables false
set_option linter.unusedSimpArgs false
set_option maxRecDepth 20000
def rl {α : Type} (x : Nat → α) (n : Nat) : List α := (List.range n).map x
theorem rl_succ {α : Type} (x : Nat → α) (n : Nat) : rl x (n + 1) = rl x n ++ [x n] := by simp [rl, List.range_succ]
theorem rl_len {α : Type} (x : Nat → α) (n : Nat) : (rl x n).length = n := by simp [rl]
def ksP (x : Nat → Nat) (n k : Nat) : List Pk.PV := pN n :: (rl x k).map pK
def sp2 (s : Sp) : List Pk.PV := [pK s.a, pK s.b]
def ssP (f : Nat → Sp) (n k : Nat) : List Pk.PV := pN n :: (rl f k).flatMap sp2
theorem ksP_len (x : Nat → Nat) (n k : Nat) : (ksP x n k).length = k + 1 := by simp [ksP, rl_len]
theorem fl2 (f : Nat → Sp) : ∀ k, ((rl f k).flatMap sp2).length = 2 * k
 | 0 => rfl
 | k + 1 => by
  rw [rl_succ, List.flatMap_append, List.length_append, fl2 f k]
  show 2 * k + 2 = 2 * (k + 1)
  omega
theorem ssP_len (f : Nat → Sp) (n k : Nat) : (ssP f n k).length = 2 * k + 1 := by
 unfold ssP
 rw [List.length_cons, fl2]
theorem ksP_succ (x : Nat → Nat) (n k : Nat) : ksP x n (k + 1) = ksP x n k ++ [pK (x k)] := by simp [ksP, rl_succ]
theorem ssP_succ (f : Nat → Sp) (n k : Nat) : ssP f n (k + 1) = ssP f n k ++ sp2 (f k) := by simp [ssP, rl_succ]
theorem pN_nice {z : Int} (h1 : -9223372036854775808 ≤ z) (h2 : z ≤ 9223372036854775807) : Nice (pN z) := .inl ⟨z, rfl, h1, h2⟩
theorem pK_nice {x : Nat} (h : Fl.W x) : Nice (pK x) := .inr ⟨x, rfl, h⟩
theorem ksP_nice (x : Nat → Nat) (n k : Nat) (hn : n ≤ 1000000) (hx : ∀ i, i < k → Fl.W (x i)) : ∀ p ∈ ksP x n k, Nice p := by
 intro p hp
 simp only [ksP, rl, List.mem_cons, List.mem_map, List.mem_range] at hp
 rcases hp with rfl | ⟨_, ⟨i, hi, rfl⟩, rfl⟩
 ·exact pN_nice (by omega) (by omega)
 ·exact pK_nice (hx i hi)
theorem ssP_nice (f : Nat → Sp) (n k : Nat) (hn : n ≤ 1000000) (hx : ∀ i, i < k → Fl.W (f i).a ∧ Fl.W (f i).b) : ∀ p ∈ ssP f n k, Nice p := by
 intro p hp
 simp only [ssP, rl, List.mem_cons, List.mem_flatMap, List.mem_map, List.mem_range] at hp
 rcases hp with rfl | ⟨_, ⟨i, hi, rfl⟩, hp⟩
 ·exact pN_nice (by omega) (by omega)
 ·simp [sp2] at hp
  rcases hp with rfl | rfl
  ·exact pK_nice (hx i hi).1
  ·exact pK_nice (hx i hi).2
attribute [local go_sem] run_bits run_frombits run_store_float eqF
set_option maxHeartbeats 1000000 in
theorem skeys_any (v : Value) (n : Nat) (x : Nat → Nat) (hn : n ≤ 1000000) (w : World) (hv : FRow w v n x) :
    Calls Tryz.prog 32 #[v] w fun e w' => ∃ v', e = .returned v' ∧ OwnP w.heap.size w' v' (ksP x n n) ∧ Old w w' := by
 obtain ⟨hb, a, c, rfl, hc⟩ := hv
 have HC := hid hc
 clear hc
 have HN := hid (fun W => snum_any (n : Int) W)
 go_enter Tryz.func32, Tryz.ntmps32
 go_upto_region 2 with (first | (go_at_call 31; refine (HN.out _).mono ?_; rintro e w1 ⟨rfl, u1⟩; have U1 := hid u1; clear u1))
 have HO1 := hid (show OwnP w.heap.size (w1.alloc (.cells #[.int .i64 1, .int .i64 (n : Int), .float .f64 0, .slice none 0 0, .bool false] 64)) (.slice (some ⟨w1.heap.size, 0, none⟩) 1 1) (ksP x n 0) from OwnP.mono (own1P w1 (pN n) _ rfl) U1.out.size)
 have HU1 := hid (U1.out.alloc (.cells #[.int .i64 1, .int .i64 (n : Int), .float .f64 0, .slice none 0 0, .bool false] 64))
 generalize w1.alloc (.cells #[.int .i64 1, .int .i64 (n : Int), .float .f64 0, .slice none 0 0, .bool false] 64) = w2 at *
 generalize w1.heap.size = g1 at *
 clear U1 HN
 go_wp2
 go_loopw [3, 12] (fun o i wr => ∃ k : Nat, k ≤ n ∧ i = .int .i64 (k : Nat) ∧ OwnP w.heap.size wr o (ksP x n k) ∧ Old w wr) (fun _ i _ => n - (intOf i).toNat)
 case atStart => exact ⟨0, Nat.zero_le _, rfl, HO1.out, HU1.out⟩
 case round =>
  obtain ⟨k, hk, rfl, ho, hu⟩ := hrel
  have HU := hid hu
  have HO := hid ho
  clear hu ho HO1 HU1
  by_cases hlt : k < n
  ·obtain ⟨b, off, ha, hW, c0⟩ := HC.out k hlt
   subst ha
   have x0 := HU.out.keep c0
   have l1 : (0 : Int) ≤ (k : Int) := by omega
   have l2 : (k : Int) < (n : Int) := by omega
   clear c0
   have HK := hid (fun W => skey_any (x k) W)
   have HS := hid (ksP_succ x n k)
   have HL := hid (ksP_len x n k)
   have HNi := hid (pK_nice hW)
   generalize x k = xk at *
   generalize hKl : ksP x n k = KL at *
   clear hKl
   go_wp2_with (first | (go_at_call 59; refine (HK.out _).mono ?_; rintro e w3 ⟨rfl, u3⟩; have U3 := hid u3; clear u3) | (at_builtin; refine Pk.wp_appV rfl (.tmp 16) (.tmp 19) rfl w.heap.size _ _ KL.length 1 (gp KL) (fun _ => pK xk) rfl rfl ((HO.out.old U3.out).old ((Old.refl _).alloc _)) (row1P _ (pK xk) (HNi.out.in _) _ _ rfl) (by rw [HL.out]; omega) (by have := HU.out.size; have := U3.out.size; simp; omega) ?_; intro v8 w8 o8 g8; have O8 := hid (OwnP.of (L := KL) (M := [pK xk]) rfl rfl (fun _ _ => rfl) (fun i hi => by have hi0 : i = 0 := (by simpa using hi); rw [hi0]; rfl) o8); have G8 := hid (((HU.out.trans U3.out).alloc _).below g8); clear o8 g8))
   go_roundw
   case rel => exact ⟨k + 1, hlt, by go_num, by rw [HS.out]; exact O8.out, G8.out⟩
   case measure => simp [intOf]; omega
  ·obtain rfl : k = n := by omega
   go_wp2
   go_ret
   exact ⟨_, rfl, HO.out, HU.out⟩
abbrev SpB (m : Nat) (s : Sp) (w : World) : Prop := w.cell? ⟨m, 0, none⟩ = some (.float .f64 s.a) ∧ w.cell? ⟨m, 1, none⟩ = some (.float .f64 s.b)
theorem SpB.old {m : Nat} {s : Sp} {w w' : World} (u : Old w w') (h : SpB m s w) : SpB m s w' := ⟨u.keep h.1, u.keep h.2⟩
theorem ent_skey (args : Array Value) (w : World) : (callFunc 59 args).run Tryz.prog w = .ok (.enter 59 args) w := by kernel_rfl
theorem stepBuild2V {ops : Array Oper} {o : Oper} {a : Act} {w : World} {K : Act → World → Prop} {Q : Exit → Act → World → Prop} {E : Prop} (hg : o.guard = none) (x y : Operand) (hop : o.op = Op.buildSlice 66 2 #[(0, x), (1, y)]) (p q : Pk.PV)
    (hx : a.eval x = .agg #[.int .i64 p.k, .int .i64 p.n, .float .f64 p.x, p.b, .bool p.on]) (hy : a.eval y = .agg #[.int .i64 q.k, .int .i64 q.n, .float .f64 q.x, q.b, .bool q.on]) (hp : ∃ a n c, p.b = .slice a n c) (hq : ∃ a n c, q.b = .slice a n c)
    (hK : ∀ m w', m = w.heap.size → w' = w.alloc (.cells #[.int .i64 p.k, .int .i64 p.n, .float .f64 p.x, p.b, .bool p.on, .int .i64 q.k, .int .i64 q.n, .float .f64 q.x, q.b, .bool q.on] 64) → K (a.put o.dst (.slice (some ⟨m, 0, none⟩) 2 2)) w') :
    if Region.wanted o (yielded ops a.tmps) = true then Oper.wp Tryz.prog o a w K Q else E := by
 have hw : Region.wanted o (yielded ops a.tmps) = true := by simp [Region.wanted, hg]
 rw [if_pos hw]
 obtain ⟨d, p', t, ps, af, gd⟩ := o
 subst hop
 obtain ⟨a1, n1, c1, e1⟩ := hp
 obtain ⟨a2, n2, c2, e2⟩ := hq
 rw [e1] at hx hK
 rw [e2] at hy hK
 unfold Oper.wp execOp
 simp only [List.map_toArray, List.map_cons, List.map_nil, hx, hy]
 go_simp
 exact hK _ _ rfl rfl
theorem stepBuild3V {ops : Array Oper} {o : Oper} {a : Act} {w : World} {K : Act → World → Prop} {Q : Exit → Act → World → Prop} {E : Prop} (hg : o.guard = none) (x y z : Operand) (hop : o.op = Op.buildSlice 66 3 #[(0, x), (1, y), (2, z)]) (p q r : Pk.PV)
    (hx : a.eval x = .agg #[.int .i64 p.k, .int .i64 p.n, .float .f64 p.x, p.b, .bool p.on]) (hy : a.eval y = .agg #[.int .i64 q.k, .int .i64 q.n, .float .f64 q.x, q.b, .bool q.on]) (hz : a.eval z = .agg #[.int .i64 r.k, .int .i64 r.n, .float .f64 r.x, r.b, .bool r.on]) (hp : ∃ a n c, p.b = .slice a n c) (hq : ∃ a n c, q.b = .slice a n c) (hr : ∃ a n c, r.b = .slice a n c)
    (hK : ∀ m w', m = w.heap.size → w' = w.alloc (.cells #[.int .i64 p.k, .int .i64 p.n, .float .f64 p.x, p.b, .bool p.on, .int .i64 q.k, .int .i64 q.n, .float .f64 q.x, q.b, .bool q.on, .int .i64 r.k, .int .i64 r.n, .float .f64 r.x, r.b, .bool r.on] 64) → K (a.put o.dst (.slice (some ⟨m, 0, none⟩) 3 3)) w') :
    if Region.wanted o (yielded ops a.tmps) = true then Oper.wp Tryz.prog o a w K Q else E := by
 have hw : Region.wanted o (yielded ops a.tmps) = true := by simp [Region.wanted, hg]
 rw [if_pos hw]
 obtain ⟨d, p', t, ps, af, gd⟩ := o
 subst hop
 obtain ⟨a1, n1, c1, e1⟩ := hp
 obtain ⟨a2, n2, c2, e2⟩ := hq
 obtain ⟨a3, n3, c3, e3⟩ := hr
 rw [e1] at hx hK
 rw [e2] at hy hK
 rw [e3] at hz hK
 unfold Oper.wp execOp
 simp only [List.map_toArray, List.map_cons, List.map_nil, hx, hy, hz]
 go_simp
 exact hK _ _ rfl rfl
theorem step_appV {ops : Array Oper} {o : Oper} {a : Act} {w : World} {K : Act → World → Prop} {Q : Exit → Act → World → Prop} {E : Prop} (hgd : o.guard = none) (s x : Operand)
    (ho : o.op = .call { callee := .builtin .append, args := #[s, x], argTypes := #[66, 66] }) (base : Nat) (v u : Value) (n m : Nat) (f g : Nat → Pk.PV)
    (hs : a.eval s = v) (hx : a.eval x = u) (hown : Pk.OwnV base w v n f) (hrow : Pk.VRow w u m g) (hb : n + m ≤ 4194304) (hbase : base ≤ w.heap.size)
    (h : ∀ v' w', Pk.OwnV base w' v' (n + m) (Pk.catP n f g) → w.grownBy w' v.ownBlock → K (a.put o.dst v') w') :
    if Region.wanted o (yielded ops a.tmps) = true then Oper.wp Tryz.prog o a w K Q else E := by
 have hw : Region.wanted o (yielded ops a.tmps) = true := by simp [Region.wanted, hgd]
 rw [if_pos hw]
 have h2 := Pk.wp_appVg (ops := ops) (rest := []) (Q := fun e a' w' => e = .normal ∧ K a' w') (o := o) (a := a) (w := w) hgd s x ho base v u n m f g hs hx hown hrow hb hbase (fun v' w' q1 q2 => ⟨rfl, h v' w' q1 q2⟩)
 unfold wpList at h2
 rw [if_pos hw] at h2
 rcases h2 with h2 | ⟨_, a', w', h3, _⟩
 ·unfold Oper.wp at *
  generalize (execOp a.eval o).run Tryz.prog w = r at *
  cases r with
  | ok nx w' =>
   cases nx <;> simp only [Oper.upon] at h2 ⊢ <;>
    first
     | exact h2.2
     | exact h2
     | exact Calls.mono h2 (fun e w'' he => by
         cases e with
         | returned r => exact he.2
         | panicked c => exact absurd he.1 (by simp)
         | outgrown => obtain ⟨a', w', h3, _⟩ := he; exact absurd h3 (by simp))
     | exact Rows.mono h2 (fun _ _ he => he.2)
  | halt x w' => cases x <;> simp only [Oper.upon] at h2 ⊢ <;> first | exact h2 | exact absurd h2.1 (by simp)
 ·exact absurd h3 (by simp)
def byL (n : Nat) (x : Nat → Nat) : List Nat := (List.range n).map x
theorem SpB.grown {m : Nat} {s : Sp} {w w' : World} {row : Option Nat} (h : SpB m s w) (hg : w.grownBy w' row) (hne : some m ≠ row) : SpB m s w' := by
 have hb := hg.block m (World.block_lt_of_cell? w _ h.1) hne
 exact ⟨by rw [World.cell?_of_block (w := w) (a := ⟨m, 0, none⟩) hb]; exact h.1, by rw [World.cell?_of_block (w := w) (a := ⟨m, 1, none⟩) hb]; exact h.2⟩
set_option maxHeartbeats 2000000 in
theorem sspans_any (v : Value) (n : Nat) (f : Nat → Sp) (hn : n ≤ 1000000) (w : World) (hv : SRow w v n f) :
    Calls Tryz.prog 33 #[v] w fun e w' => ∃ v', e = .returned v' ∧ OwnP w.heap.size w' v' (ssP f n n) ∧ Old w w' := by
 obtain ⟨hb, a, c, rfl, hc⟩ := hv
 have HC := hid hc
 clear hc
 have HN := hid (fun W => snum_any (n : Int) W)
 go_enter Tryz.func33, Tryz.ntmps33
 go_upto_region 2 with (first | (go_at_call 31; refine (HN.out _).mono ?_; rintro e w1 ⟨rfl, u1⟩; have U1 := hid u1; clear u1))
 have HO1 := hid (show OwnP w.heap.size (w1.alloc (.cells #[.int .i64 1, .int .i64 (n : Int), .float .f64 0, .slice none 0 0, .bool false] 64)) (.slice (some ⟨w1.heap.size, 0, none⟩) 1 1) (ssP f n 0) from OwnP.mono (own1P w1 (pN n) _ rfl) U1.out.size)
 have HU1 := hid (U1.out.alloc (.cells #[.int .i64 1, .int .i64 (n : Int), .float .f64 0, .slice none 0 0, .bool false] 64))
 generalize w1.alloc (.cells #[.int .i64 1, .int .i64 (n : Int), .float .f64 0, .slice none 0 0, .bool false] 64) = w2 at *
 generalize w1.heap.size = g1 at *
 clear U1 HN
 go_wp2
 go_loopw [3, 12] (fun o i wr => ∃ k : Nat, k ≤ n ∧ i = .int .i64 (k : Nat) ∧ OwnP w.heap.size wr o (ssP f n k) ∧ Old w wr) (fun _ i _ => n - (intOf i).toNat)
 case atStart => exact ⟨0, Nat.zero_le _, rfl, HO1.out, HU1.out⟩
 case round =>
  obtain ⟨k, hk, rfl, ho, hu⟩ := hrel
  have HU := hid hu
  have HO := hid ho
  clear hu ho HO1 HU1
  by_cases hlt : k < n
  ·obtain ⟨b, off, ha, hW, hW2, c0, c1, c2, c3⟩ := HC.out k hlt
   subst ha
   have x0 := HU.out.keep c0
   have x1 := HU.out.keep c1
   have x2 := HU.out.keep c2
   have x3 := HU.out.keep c3
   have l1 : (0 : Int) ≤ (k : Int) := by omega
   have l2 : (k : Int) < (n : Int) := by omega
   clear c0 c1 c2 c3
   have HKa := hid (fun W => skey_any (f k).a W)
   have HKb := hid (fun W => skey_any (f k).b W)
   have HS := hid (ssP_succ f n k)
   have HL := hid (ssP_len f n k)
   have HNi := hid (And.intro (pK_nice hW) (pK_nice hW2))
   generalize f k = s at *
   generalize hKl : ssP f n k = KL at *
   clear hKl hW hW2
   go_upto_region 5 with fail
   have HSp := hid (show SpB wr.heap.size s (wr.alloc (.cells #[.float .f64 s.a, .float .f64 s.b, .bool s.p, .bool s.q] 31)) from by simp [SpB])
   have HA := hid ((Old.refl wr).alloc (.cells #[.float .f64 s.a, .float .f64 s.b, .bool s.p, .bool s.q] 31))
   have HOw := hid (HO.out.old HA.out)
   have HUw := hid (HU.out.trans HA.out)
   obtain ⟨va, vc, hve⟩ := HO.out.len
   subst hve
   have HLt := hid (fun g (e : (Value.slice va KL.length vc).ownBlock = some g) => (World.ownsRow.lt HO.out g e).2)
   generalize wr.alloc (.cells #[.float .f64 s.a, .float .f64 s.b, .bool s.p, .bool s.q] 31) = w3 at *
   generalize wr.heap.size = sb at *
   clear x0 x1 x2 x3 HO HU HA
   focus
    refine wp_region_noPanic ?_
    refine wp_region_held_drew (S := SpB sb s) (by kernel_rfl) ?_ (fun hHeld => ?_)
    ·exact SpB.old ((Old.refl w3).drew) HSp.out
    try simp only [Act.put, puA, puB, puC]
    clear hHeld
    all_goals
     refine atA [false, false, false, false, false, false, false, false, false, false] ?_
     refine tkA (i := 0) (oi := oHb0) (SpB.old ((Old.refl w3).drew) HSp.out) ?_
     try simp only [Act.put, puA, puB, puC]
     refine tkA (i := 1) (oi := oHb1) (SpB.old ((Old.refl w3).drew) HSp.out) ?_
     try simp only [Act.put, puA, puB, puC]
     refine tkA (i := 2) (oi := oHb2) (SpB.old ((Old.refl w3).drew) HSp.out) ?_
     try simp only [Act.put, puA, puB, puC]
     refine tkA (i := 4) (oi := oHb3) (SpB.old ((Old.refl w3).drew) HSp.out) ?_
     try simp only [Act.put, puA, puB, puC]
     refine tkA (i := 5) (oi := oHb4) (SpB.old ((Old.refl w3).drew) HSp.out) ?_
     try simp only [Act.put, puA, puB, puC]
     refine rdA [3] ?_
     refine AllReadyH.cons (o := oHb5) rfl (fun K hK => ?_) AllReadyH.nil
     refine stepCall1 ?_ 59 (.tmp 18) #[22] ?_ (.float .f64 s.a) ?_ ?_ (ent_skey _ _) ?_
     iterate 4 rfl
     refine (HKa.out _).mono ?_
     rintro o x100n ⟨rfl, b100n⟩
     refine ⟨_, rfl, ?_⟩
     have U100n := ((Old.refl w3).drew).trans b100n
     refine hK.out _ _ (SpB.old U100n HSp.out) (fun _ => ?_)
     clear hK K
     try simp only [Act.put, puA, puB, puC]
     have UU_100 := U100n
     obtain ⟨xw_100, rfl⟩ : ∃ z, z = x100n := ⟨_, rfl⟩
    all_goals
     refine atA [true, true, true, true, true, true, false, false, false, false] ?_
     refine rdA [6] ?_
     refine AllReadyH.cons (o := oHb6) rfl (fun K hK => ?_) AllReadyH.nil
     refine stepCall1 ?_ 59 (.tmp 21) #[22] ?_ (.float .f64 s.b) ?_ ?_ (ent_skey _ _) ?_
     iterate 4 rfl
     refine (HKb.out _).mono ?_
     rintro o x100n ⟨rfl, b100n⟩
     refine ⟨_, rfl, ?_⟩
     have U100n := UU_100.trans b100n
     refine hK.out _ _ (SpB.old U100n HSp.out) (fun _ => ?_)
     clear hK K
     try simp only [Act.put, puA, puB, puC]
     have UU_100 := U100n
     obtain ⟨xw_100, rfl⟩ : ∃ z, z = x100n := ⟨_, rfl⟩
    all_goals
     refine atA [true, true, true, true, true, true, true, false, false, false] ?_
     refine rdA [7] ?_
     refine AllReadyH.cons (o := oHb7) rfl (fun K hK => ?_) AllReadyH.nil
     refine stepBuild2V ?_ (.tmp 19) (.tmp 22) ?_ (pK s.a) (pK s.b) ?_ ?_ ⟨_, _, _, rfl⟩ ⟨_, _, _, rfl⟩ ?_
     iterate 4 rfl
     intro m100n x100n hm100n hx100n
     have R100n : Pk.VRow x100n (.slice (some ⟨m100n, 0, none⟩) 2 2) 2 (gp [pK s.a, pK s.b]) := by subst hm100n hx100n; exact row2P _ _ _ (HNi.out.1.in _) (HNi.out.2.in _) _ _ rfl
     have U100n : Old w3 x100n := by rw [hx100n]; exact UU_100.alloc _
     clear hm100n hx100n
     refine hK.out _ _ (SpB.old U100n HSp.out) (fun _ => ?_)
     clear hK K
     try simp only [Act.put, puA, puB, puC]
     have RR_100 := R100n
     have UU_100 := U100n
    all_goals
     refine atA [true, true, true, true, true, true, true, true, false, false] ?_
     refine rdA [8] ?_
     refine AllReadyH.cons (o := oHb8) rfl (fun K hK => ?_) AllReadyH.nil
     refine step_appV ?_ (.tmp 16) (.tmp 23) ?_ w.heap.size _ _ KL.length 2 (gp KL) (gp [pK s.a, pK s.b]) ?_ ?_ (HOw.out.old UU_100) RR_100 (by rw [HL.out]; omega) (by have := HUw.out.size; have := UU_100.size; omega) ?_
     iterate 4 rfl
     intro v8 w8 o8 g8
     have S8 : SpB sb s w8 := (SpB.old UU_100 HSp.out).grown g8 (fun e => by have := HLt.out sb e.symm; omega)
     have O8 := hid (OwnP.of (L := KL) (M := [pK s.a, pK s.b]) rfl rfl (fun _ _ => rfl) (fun _ _ => rfl) o8)
     have G8 := hid (show Old w w8 from Below.grown (HUw.out.trans UU_100) g8 (by have := HUw.out.size; have := UU_100.size; omega) (fun k e => (World.ownsRow.lt HOw.out k e).1))
     clear o8 g8
     refine hK.out _ _ S8 (fun _ => ?_)
     clear hK K
     try simp only [Act.put, puA, puB, puC]
    all_goals
     refine atA [true, true, true, true, true, true, true, true, true, false] ?_
     refine rdA [9] ?_
     refine AllReadyH.cons (o := oHb9) rfl (fun K hK => ?_) AllReadyH.nil
     go_simp
     refine hK.out _ _ S8 (fun _ => ?_)
     clear hK K
     try simp only [Act.put, puA, puB, puC]
    all_goals
     refine atA [true, true, true, true, true, true, true, true, true, true] ?_
     refine wpAnyH_done (by kernel_rfl) ?_ _
     refine NoPanic.normal ?_
     clear S8
     go_wp2
     go_roundw
     case rel => exact ⟨k + 1, hlt, by go_num, by rw [HS.out]; exact O8.out, G8.out⟩
     case measure => simp [intOf]; omega
  ·obtain rfl : k = n := by omega
   go_wp2
   go_ret
   exact ⟨_, rfl, HO.out, HU.out⟩
end Go.Proofs.YtajoodkapiifcaaGreat
namespace Go.Proofs.YtajoodkapiifcaaGreat
abbrev oHc0 : Oper := { dst := some 11, op := .fieldAddr 28 (.tmp 1) 0, type := 0, pos := "bytes.go:15", after := #[], guard := none }
abbrev oHc1 : Oper := { dst := some 12, op := .load 2 (.tmp 11), type := 2, pos := "bytes.go:15", after := #[⟨0, .data⟩], guard := none }
abbrev oHc2 : Oper := { dst := some 14, op := .fieldAddr 28 (.tmp 1) 1, type := 0, pos := "bytes.go:15", after := #[], guard := none }
abbrev oHc3 : Oper := { dst := some 15, op := .load 2 (.tmp 14), type := 2, pos := "bytes.go:15", after := #[⟨3, .data⟩], guard := none }
abbrev oHc4 : Oper := { dst := some 17, op := .fieldAddr 28 (.tmp 1) 2, type := 0, pos := "bytes.go:15", after := #[], guard := none }
abbrev oHc5 : Oper := { dst := some 18, op := .load 2 (.tmp 17), type := 2, pos := "bytes.go:15", after := #[⟨6, .data⟩], guard := none }
abbrev oHc6 : Oper := { dst := some 13, op := .call { callee := Callee.value (.func 31), args := #[.tmp 12], argTypes := #[2] }, type := 64, pos := "bytes.go:15", after := #[⟨1, .data⟩], guard := none }
abbrev oHc7 : Oper := { dst := some 16, op := .call { callee := Callee.value (.func 31), args := #[.tmp 15], argTypes := #[2] }, type := 64, pos := "bytes.go:15", after := #[⟨4, .data⟩, ⟨2, .chain⟩], guard := none }
abbrev oHc8 : Oper := { dst := some 19, op := .call { callee := Callee.value (.func 31), args := #[.tmp 18], argTypes := #[2] }, type := 64, pos := "bytes.go:15", after := #[⟨7, .data⟩, ⟨5, .chain⟩], guard := none }
abbrev oHc9 : Oper := { dst := some 20, op := .buildSlice 66 3 #[(0, .tmp 13), (1, .tmp 16), (2, .tmp 19)], type := 66, pos := "bytes.go:15", after := #[⟨2, .data⟩, ⟨5, .data⟩, ⟨8, .data⟩], guard := none }
abbrev oHc10 : Oper := { dst := some 5, op := .assign (.tmp 20), type := 66, pos := "bytes.go:15", after := #[⟨9, .data⟩, ⟨8, .chain⟩, ⟨0, .phase⟩, ⟨1, .phase⟩, ⟨2, .phase⟩, ⟨3, .phase⟩, ⟨4, .phase⟩, ⟨5, .phase⟩, ⟨6, .phase⟩, ⟨7, .phase⟩, ⟨8, .phase⟩, ⟨9, .phase⟩], guard := none }
open Go.RowKit Go.Lib
set_option linter.unusedVariables false
set_option linter.unusedSimpArgs false
set_option maxRecDepth 20000
def subP (s1 s2 s3 : Int) (n1 n2 n3 : Nat) (x1 x3 : Nat → Nat) (f2 : Nat → Sp) : List Pk.PV := [pN s1, pN s2, pN s3] ++ ksP x1 n1 n1 ++ ssP f2 n2 n2 ++ ksP x3 n3 n3
def encS (s1 s2 s3 : Int) (n1 n2 n3 : Nat) (x1 x3 : Nat → Nat) (f2 : Nat → Sp) : List Nat := (subP s1 s2 s3 n1 n2 n3 x1 x3 f2).flatMap Pk.encV
theorem putL_gp (L : List Pk.PV) : Pk.putL Pk.encV (gp L) L.length = L.flatMap Pk.encV := by
 have : ∀ k, k ≤ L.length → Pk.putL Pk.encV (gp L) k = (L.take k).flatMap Pk.encV := by
  intro k
  induction k with
  | zero => intro _; rfl
  | succ k ih =>
   intro hk
   show Pk.putL Pk.encV (gp L) k ++ Pk.encV (gp L k) = _
   rw [ih (by omega), List.take_succ_eq_append_getElem (by omega), List.flatMap_append, gp_get L k (by omega)]
   simp
 rw [this _ (Nat.le_refl _), List.take_length]
theorem Nice.e0 {p : Pk.PV} (h : Nice p) : Pk.pvE p = 0 := by
 rcases h with ⟨z, rfl, _⟩ | ⟨x, rfl, _⟩
 ·simp [Pk.pvE, pN]
 ·simp [Pk.pvE, pK]
theorem firstE_gp (L : List Pk.PV) (h : ∀ p ∈ L, Nice p) : Pk.firstE (gp L) L.length = 0 := by
 have : ∀ k, k ≤ L.length → Pk.firstE (gp L) k = 0 := by
  intro k
  induction k with
  | zero => intro _; rfl
  | succ k ih =>
   intro hk
   show (if Pk.firstE (gp L) k = 0 then Pk.pvE (gp L k) else Pk.firstE (gp L) k) = 0
   rw [if_pos (ih (by omega)), gp_get L k (by omega)]
   exact (h _ (List.getElem_mem _)).e0
 exact this _ (Nat.le_refl _)
theorem SubAt.grown {m : Nat} {s1 s2 s3 : Int} {v1 v2 v3 : Value} {w w' : World} {row : Option Nat} (h : SubAt m s1 s2 s3 v1 v2 v3 w) (hg : w.grownBy w' row) (hne : some m ≠ row) : SubAt m s1 s2 s3 v1 v2 v3 w' := by
 have hb := hg.block m (World.block_lt_of_cell? w _ h.1) hne
 have F : ∀ j, w'.cell? ⟨m, j, none⟩ = w.cell? ⟨m, j, none⟩ := fun j => World.cell?_of_block (w := w) (a := ⟨m, j, none⟩) hb
 exact ⟨by rw [F]; exact h.1, by rw [F]; exact h.2.1, by rw [F]; exact h.2.2.1, by rw [F]; exact h.2.2.2.1, by rw [F]; exact h.2.2.2.2.1, by rw [F]; exact h.2.2.2.2.2⟩
theorem OwnP.put {base : Nat} {w : World} {v : Value} {L : List Pk.PV} (h : OwnP base w v L) (hN : ∀ p ∈ L, Nice p) (hl : L.length ≤ 4194304) :
    Calls Tryz.prog 34 #[v] w fun e w' => ∃ v', e = .returned (.tuple #[v', .int .i64 0]) ∧ Pk.OwnL w.heap.size w' v' (L.flatMap Pk.encV) ∧ Old w w' := by
 obtain ⟨a, c, rfl, hc⟩ := Pk.OwnV.shape h
 refine (Pk.put_row a L.length c (gp L) hl w (fun i hi => ?_)).mono ?_
 ·obtain ⟨b, off, e, hA⟩ := hc i hi
  refine ⟨b, off, e, hA, (hN _ ?_).in w⟩
  rw [gp_get L i hi]
  exact List.getElem_mem hi
 ·rintro e w' ⟨v', L', rfl, o, h1, _, u⟩
  have h0 := firstE_gp L hN
  have hL := h1 h0
  rw [putL_gp] at hL
  subst hL
  rw [h0]
  exact ⟨v', rfl, o, u⟩
theorem Pk.OwnL.mono' {base b' : Nat} {w : World} {v : Value} {L : List Nat} (h : Pk.OwnL base w v L) (hb : b' ≤ base) : Pk.OwnL b' w v L := by
 refine ⟨⟨h.own.1, ?_⟩, h.lt⟩
 rcases h.own.2 with e | ⟨g, cap, cur, e, hb', r⟩
 ·exact .inl e
 ·exact .inr ⟨g, cap, cur, e, by omega, r⟩
theorem app_step {sb : Nat} {w0 w w' : World} {s1 s2 s3 : Int} {v1 v2 v3 v v' : Value} {L M : List Pk.PV} (hs : SubAt sb s1 s2 s3 v1 v2 v3 w) (ho : OwnP (sb + 1) w v L) (hu : Old w0 w) (hb : w0.heap.size = sb) (o : Pk.OwnV (sb + 1) w' v' (L.length + M.length) (Pk.catP L.length (gp L) (gp M))) (g : w.grownBy w' v.ownBlock) :
    OwnP (sb + 1) w' v' (L ++ M) ∧ SubAt sb s1 s2 s3 v1 v2 v3 w' ∧ Old w0 w' := by
 refine ⟨OwnP.of rfl rfl (fun _ _ => rfl) (fun _ _ => rfl) o, hs.grown g (fun e => ?_), Below.grown hu g hu.size (fun k e => ?_)⟩
 ·have := (World.ownsRow.lt ho sb e.symm).1
  omega
 ·have := (World.ownsRow.lt ho k e).1
  omega
theorem ent_snum (args : Array Value) (w : World) : (callFunc 31 args).run Tryz.prog w = .ok (.enter 31 args) w := by kernel_rfl
theorem chk_parts {s1 s2 s3 : Int} {n1 n2 n3 : Nat} {x1 x3 : Nat → Nat} {f2 : Nat → Sp} (h : chkV s1 s2 s3 n1 n2 n3 x1 x3 f2 = 0) : misB s1 s2 s3 = false ∧ crowdB n1 n2 n3 = false ∧ (Fl.anyG (fun i => Fl.nan (x1 i)) n1 || Fl.anyG (fun i => Fl.nan (x3 i)) n3) = false ∧ Fl.anyG (fun i => Fl.csE (f2 i).a (f2 i).b (f2 i).p (f2 i).q) n2 = false ∧ ordF x1 n1 = true ∧ ordS f2 n2 = true ∧ ordF x3 n3 = true := by
 unfold chkV chkO at h
 cases h1 : misB s1 s2 s3
 ·rw [h1] at h
  cases h2 : crowdB n1 n2 n3
  ·rw [h2] at h
   cases h3 : (Fl.anyG (fun i => Fl.nan (x1 i)) n1 || Fl.anyG (fun i => Fl.nan (x3 i)) n3)
   ·rw [h3] at h
    cases h4 : Fl.anyG (fun i => Fl.csE (f2 i).a (f2 i).b (f2 i).p (f2 i).q) n2
    ·rw [h4] at h
     cases h5 : ordF x1 n1 <;> cases h6 : ordS f2 n2 <;> cases h7 : ordF x3 n3 <;> rw [h5, h6, h7] at h <;> simp at h ⊢
    ·rw [h4] at h; simp at h
   ·rw [h3] at h; simp at h
  ·rw [h2] at h; simp at h
 ·rw [h1] at h; simp at h
theorem mis_rng {s1 s2 s3 : Int} (h : misB s1 s2 s3 = false) : (1 ≤ s1 ∧ s1 ≤ 1099511627776) ∧ (1 ≤ s2 ∧ s2 ≤ 1099511627776) ∧ 0 ≤ s3 ∧ s3 ≤ 1099511627776 := by
 unfold misB outB at h
 simp at h
 omega
theorem crowd_rng {n1 n2 n3 : Nat} (h : crowdB n1 n2 n3 = false) : n1 ≤ 16 ∧ n2 ≤ 8 ∧ n3 ≤ 16 := by
 unfold crowdB at h
 simp at h
 omega
attribute [local go_sem] run_bits run_frombits run_store_float eqF
set_option maxHeartbeats 4000000 in
theorem encode_no (s1 s2 s3 : Int) (a1 a2 a3 : Option Addr) (n1 n2 n3 c1 c2 c3 : Nat) (x1 x3 : Nat → Nat) (f2 : Nat → Sp) (b1 : n1 ≤ 17592186044000) (b2 : n2 ≤ 5864062014805) (b3 : n3 ≤ 17592186044000) (w : World) (h1 : FRow w (.slice a1 n1 c1) n1 x1) (h2 : SRow w (.slice a2 n2 c2) n2 f2) (h3 : FRow w (.slice a3 n3 c3) n3 x3) (hc : chkV s1 s2 s3 n1 n2 n3 x1 x3 f2 ≠ 0) :
    Calls Tryz.prog 14 #[.agg #[.int .i64 s1, .int .i64 s2, .int .i64 s3, .slice a1 n1 c1, .slice a2 n2 c2, .slice a3 n3 c3]] w fun e w' => e = .returned (.tuple #[.slice none 0 0, .int .i64 (chkV s1 s2 s3 n1 n2 n3 x1 x3 f2)]) ∧ Old w w' := by
 have HC := hid (fun (W : World) (u : Old w W) => check_any s1 s2 s3 a1 a2 a3 n1 n2 n3 c1 c2 c3 x1 x3 f2 b1 b2 b3 W (h1.old u) (h2.old u) (h3.old u))
 have hcb : (chkV s1 s2 s3 n1 n2 n3 x1 x3 f2 != 0) = true := by rw [bne_iff_ne]; exact hc
 clear h1 h2 h3 hc
 generalize chkV s1 s2 s3 n1 n2 n3 x1 x3 f2 = r at *
 have HV := hid ((Old.refl w).alloc (.cells #[.int .i64 s1, .int .i64 s2, .int .i64 s3, .slice a1 n1 c1, .slice a2 n2 c2, .slice a3 n3 c3] 28))
 go_enter Tryz.func14, Tryz.ntmps14
 go_wp2_with (first | (go_at_call 16; refine (HC.out _ HV.out).mono ?_; rintro e w2 ⟨rfl, u2⟩; have U2 := hid (HV.out.trans u2); clear u2))
 exact bodyPost_ret (v := .tuple #[.slice none 0 0, .int .i64 r]) (by simp [results, Tryz.results14, go_sem]) rfl ⟨rfl, U2.out⟩
set_option maxHeartbeats 8000000 in
theorem encode_ok (s1 s2 s3 : Int) (a1 a2 a3 : Option Addr) (n1 n2 n3 c1 c2 c3 : Nat) (x1 x3 : Nat → Nat) (f2 : Nat → Sp) (w : World) (h1 : FRow w (.slice a1 n1 c1) n1 x1) (h2 : SRow w (.slice a2 n2 c2) n2 f2) (h3 : FRow w (.slice a3 n3 c3) n3 x3) (hc : chkV s1 s2 s3 n1 n2 n3 x1 x3 f2 = 0) :
    Calls Tryz.prog 14 #[.agg #[.int .i64 s1, .int .i64 s2, .int .i64 s3, .slice a1 n1 c1, .slice a2 n2 c2, .slice a3 n3 c3]] w fun e w' => ∃ v', e = .returned (.tuple #[v', .int .i64 0]) ∧ Pk.OwnL w.heap.size w' v' (encS s1 s2 s3 n1 n2 n3 x1 x3 f2) ∧ Old w w' := by
 have hp := chk_parts hc
 have hr := mis_rng hp.1
 have hd := crowd_rng hp.2.1
 have HC := hid (fun (W : World) (u : Old w W) => check_any s1 s2 s3 a1 a2 a3 n1 n2 n3 c1 c2 c3 x1 x3 f2 (by omega) (by omega) (by omega) W (h1.old u) (h2.old u) (h3.old u))
 rw [hc] at HC
 have HK1 := hid (fun (W : World) (u : Old w W) => skeys_any _ n1 x1 (by omega) W (h1.old u))
 have HK2 := hid (fun (W : World) (u : Old w W) => sspans_any _ n2 f2 (by omega) W (h2.old u))
 have HK3 := hid (fun (W : World) (u : Old w W) => skeys_any _ n3 x3 (by omega) W (h3.old u))
 have HN1 := hid (fun W => snum_any s1 W)
 have HN2 := hid (fun W => snum_any s2 W)
 have HN3 := hid (fun W => snum_any s3 W)
 have HE := hid (show encS s1 s2 s3 n1 n2 n3 x1 x3 f2 = (([pN s1, pN s2, pN s3] ++ ksP x1 n1 n1) ++ ssP f2 n2 n2 ++ ksP x3 n3 n3).flatMap Pk.encV from rfl)
 have Q1 := hid (ksP_nice x1 n1 n1 (by omega) h1.ws)
 have Q2 := hid (ssP_nice f2 n2 n2 (by omega) h2.ws)
 have Q3 := hid (ksP_nice x3 n3 n3 (by omega) h3.ws)
 have Q0 := hid (show ∀ p ∈ [pN s1, pN s2, pN s3], Nice p from fun p hp => by
  simp at hp
  rcases hp with rfl | rfl | rfl
  ·exact pN_nice (by omega) (by omega)
  ·exact pN_nice (by omega) (by omega)
  ·exact pN_nice (by omega) (by omega))
 have L1 := ksP_len x1 n1 n1
 have L2 := ssP_len f2 n2 n2
 have L3 := ksP_len x3 n3 n3
 have HL1 := hid (show (ksP x1 n1 n1).length ≤ 100 by omega)
 have HL2 := hid (show (ssP f2 n2 n2).length ≤ 100 by omega)
 have HL3 := hid (show (ksP x3 n3 n3).length ≤ 100 by omega)
 clear h1 h2 h3 hc hp hr hd L1 L2 L3
 generalize encS s1 s2 s3 n1 n2 n3 x1 x3 f2 = ES at *
 generalize ksP x1 n1 n1 = M1 at *
 generalize ssP f2 n2 n2 = M2 at *
 generalize ksP x3 n3 n3 = M3 at *
 go_enter Tryz.func14, Tryz.ntmps14
 go_upto_region 1 with fail
 generalize hw1 : w.alloc (.cells #[.int .i64 s1, .int .i64 s2, .int .i64 s3, .slice a1 n1 c1, .slice a2 n2 c2, .slice a3 n3 c3] 28) = w1 at *
 generalize hsb : w.heap.size = sb at *
 obtain ⟨hS, hV⟩ := sub_new w s1 s2 s3 _ _ _ w1 hw1 sb hsb
 have HV := hid hV
 have HS := hid hS
 have HSB := hid hsb
 have HS1 := hid (show w1.heap.size = sb + 1 by rw [← hw1, ← hsb]; simp)
 obtain ⟨t0, t1, t2, t3, t4, t5⟩ := hS
 clear hw1 hV hsb
 go_upto_region 4 with (first | (go_at_call 16; refine (HC.out _ HV.out).mono ?_; rintro e w2 ⟨rfl, u2⟩; have U2 := hid (HV.out.trans u2); have B2 := hid (SubAt.old u2 HS.out); have Z2 := hid (show sb + 1 ≤ w2.heap.size by have := u2.size; have := HS1.out; omega); clear u2))
 clear t0 t1 t2 t3 t4 t5 HS HC HV
 focus
  refine wp_region_noPanic ?_
  refine wp_region_held_drew (S := SubAt sb s1 s2 s3 (.slice a1 n1 c1) (.slice a2 n2 c2) (.slice a3 n3 c3)) (by kernel_rfl) ?_ (fun hHeld => ?_)
  ·exact SubAt.old ((Old.refl w2).drew) B2.out
  try simp only [Act.put, puA, puB, puC]
  clear hHeld
  all_goals
   refine atA [false, false, false, false, false, false, false, false, false, false, false] ?_
   refine tkA (i := 0) (oi := oHc0) (SubAt.old ((Old.refl w2).drew) B2.out) ?_
   try simp only [Act.put, puA, puB, puC]
   refine tkA (i := 1) (oi := oHc1) (SubAt.old ((Old.refl w2).drew) B2.out) ?_
   try simp only [Act.put, puA, puB, puC]
   refine tkA (i := 3) (oi := oHc2) (SubAt.old ((Old.refl w2).drew) B2.out) ?_
   try simp only [Act.put, puA, puB, puC]
   refine tkA (i := 4) (oi := oHc3) (SubAt.old ((Old.refl w2).drew) B2.out) ?_
   try simp only [Act.put, puA, puB, puC]
   refine tkA (i := 6) (oi := oHc4) (SubAt.old ((Old.refl w2).drew) B2.out) ?_
   try simp only [Act.put, puA, puB, puC]
   refine tkA (i := 7) (oi := oHc5) (SubAt.old ((Old.refl w2).drew) B2.out) ?_
   try simp only [Act.put, puA, puB, puC]
   refine rdA [2] ?_
   refine AllReadyH.cons (o := oHc6) rfl (fun K hK => ?_) AllReadyH.nil
   refine stepCall1 ?_ 31 (.tmp 12) #[2] ?_ (.int .i64 s1) ?_ ?_ (ent_snum _ _) ?_
   iterate 4 rfl
   refine (HN1.out _).mono ?_
   rintro o x100n ⟨rfl, b100n⟩
   refine ⟨_, rfl, ?_⟩
   have U100n := ((Old.refl w2).drew).trans b100n
   refine hK.out _ _ (SubAt.old U100n B2.out) (fun _ => ?_)
   clear hK K
   try simp only [Act.put, puA, puB, puC]
   have UU_100 := U100n
  all_goals
   refine atA [true, true, true, true, true, false, true, true, false, false, false] ?_
   refine rdA [5] ?_
   refine AllReadyH.cons (o := oHc7) rfl (fun K hK => ?_) AllReadyH.nil
   refine stepCall1 ?_ 31 (.tmp 15) #[2] ?_ (.int .i64 s2) ?_ ?_ (ent_snum _ _) ?_
   iterate 4 rfl
   refine (HN2.out _).mono ?_
   rintro o x100n ⟨rfl, b100n⟩
   refine ⟨_, rfl, ?_⟩
   have U100n := UU_100.trans b100n
   refine hK.out _ _ (SubAt.old U100n B2.out) (fun _ => ?_)
   clear hK K
   try simp only [Act.put, puA, puB, puC]
   have UU_100 := U100n
  all_goals
   refine atA [true, true, true, true, true, true, true, true, false, false, false] ?_
   refine rdA [8] ?_
   refine AllReadyH.cons (o := oHc8) rfl (fun K hK => ?_) AllReadyH.nil
   refine stepCall1 ?_ 31 (.tmp 18) #[2] ?_ (.int .i64 s3) ?_ ?_ (ent_snum _ _) ?_
   iterate 4 rfl
   refine (HN3.out _).mono ?_
   rintro o x100n ⟨rfl, b100n⟩
   refine ⟨_, rfl, ?_⟩
   have U100n := UU_100.trans b100n
   refine hK.out _ _ (SubAt.old U100n B2.out) (fun _ => ?_)
   clear hK K
   try simp only [Act.put, puA, puB, puC]
   have UU_100 := U100n
  all_goals
   refine atA [true, true, true, true, true, true, true, true, true, false, false] ?_
   refine rdA [9] ?_
   refine AllReadyH.cons (o := oHc9) rfl (fun K hK => ?_) AllReadyH.nil
   refine stepBuild3V ?_ (.tmp 13) (.tmp 16) (.tmp 19) ?_ (pN s1) (pN s2) (pN s3) ?_ ?_ ?_ ⟨_, _, _, rfl⟩ ⟨_, _, _, rfl⟩ ⟨_, _, _, rfl⟩ ?_
   iterate 5 rfl
   intro m100n x100n hm100n hx100n
   have O100n := hid (show OwnP (sb + 1) x100n (.slice (some ⟨m100n, 0, none⟩) 3 3) [pN s1, pN s2, pN s3] from OwnP.mono (by rw [hx100n]; exact own3P _ _ _ _ _ hm100n.symm) (by have := Z2.out; have := UU_100.size; omega))
   have U100n : Old w2 x100n := by rw [hx100n]; exact UU_100.alloc _
   clear hm100n hx100n
   refine hK.out _ _ (SubAt.old U100n B2.out) (fun _ => ?_)
   clear hK K
   try simp only [Act.put, puA, puB, puC]
   have OO_100 := O100n
   have UU_100 := U100n
   obtain ⟨xx_100, rfl⟩ : ∃ z, z = x100n := ⟨_, rfl⟩
  all_goals
   refine atA [true, true, true, true, true, true, true, true, true, true, false] ?_
   refine rdA [10] ?_
   refine AllReadyH.cons (o := oHc10) rfl (fun K hK => ?_) AllReadyH.nil
   go_simp
   refine hK.out _ _ (SubAt.old UU_100 B2.out) (fun _ => ?_)
   clear hK K
   try simp only [Act.put, puA, puB, puC]
  all_goals
   refine atA [true, true, true, true, true, true, true, true, true, true, true] ?_
   refine wpAnyH_done (by kernel_rfl) ?_ _
   refine NoPanic.normal ?_
   have BB := hid (SubAt.old UU_100 B2.out)
   have UU := hid (U2.out.trans UU_100)
   have ZZ := hid (show sb + 1 ≤ xx_100.heap.size by have := Z2.out; have := UU_100.size; omega)
   clear B2 HN1 HN2 HN3
   obtain ⟨t0, t1, t2, t3, t4, t5⟩ := BB.out
   generalize hLL : [pN s1, pN s2, pN s3] = LL at *
   have HLL := hid (show LL.length = 3 by rw [← hLL]; rfl)
   clear hLL
   go_upto_region 6 with (first | (go_at_call 32; refine (HK1.out _ UU.out).mono ?_; rintro e y6 ⟨vk6, rfl, ok6, uk6⟩; have Ok6 := hid ok6; have Zk6 := hid uk6.size; have Bk6 := hid (SubAt.old uk6 BB.out); have Oo6 := hid (OO_100.out.old uk6); have Vk6 := hid (UU.out.trans uk6); clear ok6 uk6) | (at_builtin; refine Pk.wp_appVg rfl (.tmp 21) (.tmp 24) rfl (sb + 1) _ _ LL.length M1.length (gp LL) (gp M1) rfl rfl Oo6.out (Ok6.out.vrow Q1.out) (by have := HL1.out; have := HLL.out; omega) (by have := Zk6.out; have := ZZ.out; omega) ?_; intro v6 w6 o6 g6; have A6 := hid (app_step Bk6.out Oo6.out Vk6.out HSB.out o6 g6); have S6 := hid g6.size; clear o6 g6))
   have Z6 := hid (show sb + 1 ≤ w6.heap.size by have := Zk6.out; have := ZZ.out; have := S6.out; omega)
   have V6 := hid A6.out.2.2
   clear t0 t1 t2 t3 t4 t5
   obtain ⟨t0, t1, t2, t3, t4, t5⟩ := A6.out.2.1
   clear Ok6 Zk6 Bk6 Oo6 Vk6 HK1
   generalize hX1 : LL ++ M1 = X1 at *
   have HX1 := hid (show X1.length ≤ 103 by rw [← hX1, List.length_append]; have := HLL.out; have := HL1.out; omega)
   have QX1 := hid (show ∀ p ∈ X1, Nice p from fun p hp => by rw [← hX1] at hp; rcases List.mem_append.1 hp with q | q; exact Q0.out p q; exact Q1.out p q)
   clear hX1
   go_upto_region 7 with (first | (go_at_call 33; refine (HK2.out _ V6.out).mono ?_; rintro e y7 ⟨vk7, rfl, ok7, uk7⟩; have Ok7 := hid ok7; have Zk7 := hid uk7.size; have Bk7 := hid (SubAt.old uk7 A6.out.2.1); have Oo7 := hid (A6.out.1.old uk7); have Vk7 := hid (V6.out.trans uk7); clear ok7 uk7) | (at_builtin; refine Pk.wp_appVg rfl (.tmp 26) (.tmp 29) rfl (sb + 1) _ _ X1.length M2.length (gp X1) (gp M2) rfl rfl Oo7.out (Ok7.out.vrow Q2.out) (by have := HL2.out; have := HX1.out; omega) (by have := Zk7.out; have := Z6.out; omega) ?_; intro v7 w7 o7 g7; have A7 := hid (app_step Bk7.out Oo7.out Vk7.out HSB.out o7 g7); have S7 := hid g7.size; clear o7 g7))
   have Z7 := hid (show sb + 1 ≤ w7.heap.size by have := Zk7.out; have := Z6.out; have := S7.out; omega)
   have V7 := hid A7.out.2.2
   clear t0 t1 t2 t3 t4 t5
   obtain ⟨t0, t1, t2, t3, t4, t5⟩ := A7.out.2.1
   clear Ok7 Zk7 Bk7 Oo7 Vk7 HK2
   generalize hX2 : X1 ++ M2 = X2 at *
   have HX2 := hid (show X2.length ≤ 203 by rw [← hX2, List.length_append]; have := HX1.out; have := HL2.out; omega)
   have QX2 := hid (show ∀ p ∈ X2, Nice p from fun p hp => by rw [← hX2] at hp; rcases List.mem_append.1 hp with q | q; exact QX1.out p q; exact Q2.out p q)
   clear hX2
   go_upto_region 8 with (first | (go_at_call 32; refine (HK3.out _ V7.out).mono ?_; rintro e y8 ⟨vk8, rfl, ok8, uk8⟩; have Ok8 := hid ok8; have Zk8 := hid uk8.size; have Bk8 := hid (SubAt.old uk8 A7.out.2.1); have Oo8 := hid (A7.out.1.old uk8); have Vk8 := hid (V7.out.trans uk8); clear ok8 uk8) | (at_builtin; refine Pk.wp_appVg rfl (.tmp 31) (.tmp 34) rfl (sb + 1) _ _ X2.length M3.length (gp X2) (gp M3) rfl rfl Oo8.out (Ok8.out.vrow Q3.out) (by have := HL3.out; have := HX2.out; omega) (by have := Zk8.out; have := Z7.out; omega) ?_; intro v8 w8 o8 g8; have A8 := hid (app_step Bk8.out Oo8.out Vk8.out HSB.out o8 g8); have S8 := hid g8.size; clear o8 g8))
   have Z8 := hid (show sb + 1 ≤ w8.heap.size by have := Zk8.out; have := Z7.out; have := S8.out; omega)
   have V8 := hid A8.out.2.2
   clear t0 t1 t2 t3 t4 t5
   obtain ⟨t0, t1, t2, t3, t4, t5⟩ := A8.out.2.1
   clear Ok8 Zk8 Bk8 Oo8 Vk8 HK3
   generalize hX3 : X2 ++ M3 = X3 at *
   have HX3 := hid (show X3.length ≤ 303 by rw [← hX3, List.length_append]; have := HX2.out; have := HL3.out; omega)
   have QX3 := hid (show ∀ p ∈ X3, Nice p from fun p hp => by rw [← hX3] at hp; rcases List.mem_append.1 hp with q | q; exact QX2.out p q; exact Q3.out p q)
   clear hX3
   have HPt := hid (A8.out.1.put QX3.out (by have := HX3.out; omega))
   rw [← HE.out] at HPt
   go_wp2_with (first | (go_at_call 34; refine HPt.out.mono ?_; rintro e w9 ⟨v9, rfl, o9, u9⟩; have O9 := hid o9; have U9 := hid u9; clear o9 u9))
   exact bodyPost_ret (v := .tuple #[v9, .int .i64 0]) (by simp [results, Tryz.results14, go_sem]) rfl ⟨v9, rfl, Pk.OwnL.mono' O9.out (by have := Z8.out; have := HSB.out; omega), V8.out.trans U9.out⟩
end Go.Proofs.YtajoodkapiifcaaGreat
namespace Go.Proofs.YtajoodkapiifcaaGreat
open Go.RowKit Go.Lib
set_option linter.unusedVariables false
set_option linter.unusedSimpArgs false
set_option maxRecDepth 20000
def RL (w : World) (R b0 : Nat) (L : List Nat) : Prop := Pk.RB w R b0 L.length (Pk.gd L)
def keyB (x : Nat) : List Nat := Pk.keyL (Fl.code x) 8
theorem keyB_len (x : Nat) : (keyB x).length = 8 := by simp [keyB, Pk.keyL]
theorem sh_gd (A B : List Nat) : Pk.sh A.length (Pk.gd (A ++ B)) = Pk.gd B := by
 funext i
 exact Pk.gd_right A B i
theorem RL.cut {w : World} {R b0 k : Nat} {A B : List Nat} (h : Pk.RB w R b0 ((A ++ B).length - k) (Pk.sh k (Pk.gd (A ++ B)))) (hk : k = A.length) : RL w R b0 B := by
 subst hk
 rw [sh_gd, List.length_append, Nat.add_sub_cancel_left] at h
 exact h
theorem rdNum (R b0 : Nat) (z : Int) (h1 : -9223372036854775808 ≤ z) (h2 : z ≤ 9223372036854775807) (B : List Nat) (w : World) (h : RL w R b0 (Pk.numL z ++ B)) (hb : b0 ≠ R) :
    Calls Tryz.prog 47 #[.pointer (some ⟨R, 0, none⟩)] w fun e w' => e = .returned (.int .i64 z) ∧ RL w' R b0 B ∧ Pk.Chg [R] w w' := by
 obtain ⟨e1, e2⟩ := Pk.num_at_head z h1 h2 (Pk.gd (Pk.numL z ++ B)) (Pk.numL z ++ B).length (by simp) (fun i hi => Pk.gd_left _ _ _ hi)
 have hp := (Pk.num_len z h1 h2).1
 refine (Pk.rnum_ok R b0 _ _ w h hb (by rw [e2]; omega)).mono fun e w' q => ⟨by rw [q.1, e1], RL.cut q.2.1 e2, q.2.2⟩
theorem rdKey (R b0 : Nat) (x : Nat) (hx : Fl.W x) (hc : Fl.canon x = x) (B : List Nat) (w : World) (h : RL w R b0 (keyB x ++ B)) (hb : b0 ≠ R) :
    Calls Tryz.prog 76 #[.pointer (some ⟨R, 0, none⟩)] w fun e w' => e = .returned (.float .f64 x) ∧ RL w' R b0 B ∧ Pk.Chg [R] w w' := by
 have hl : (keyB x ++ B).length = 8 + B.length := by rw [List.length_append, keyB_len]
 have e0 : Pk.lkC (Pk.gd (keyB x ++ B)) 8 = Fl.code x := Pk.key_read (Fl.code x) (by have := Fl.code_le x hx; omega) _ (fun i hi => Pk.gd_left _ _ _ (by rw [keyB_len]; exact hi))
 have hI := Fl.isCode_code x hx
 have ek : Pk.lkK (Pk.gd (keyB x ++ B)) (keyB x ++ B).length = 8 := by
  unfold Pk.lkK
  rw [e0, hI, if_pos ⟨by omega, rfl⟩]
 have ev : Pk.lkV (Pk.gd (keyB x ++ B)) (keyB x ++ B).length = x := by
  unfold Pk.lkV
  rw [e0, hI, if_pos ⟨by omega, rfl⟩, Fl.of_code x hx, hc]
 refine (Pk.rkey_ok R b0 _ _ w h hb (by rw [ek]; omega)).mono fun e w' q => ⟨by rw [q.1, ev], RL.cut q.2.1 (by rw [ek, keyB_len]), q.2.2⟩
theorem rdCount (R b0 n : Nat) (most : Int) (hn : (n : Int) ≤ most) (hm : most ≤ 1000000) (B : List Nat) (w : World) (h : RL w R b0 (Pk.numL n ++ B)) (hb : b0 ≠ R) :
    Calls Tryz.prog 75 #[.pointer (some ⟨R, 0, none⟩), .int .i64 most] w fun e w' => e = .returned (.int .i64 (n : Int)) ∧ RL w' R b0 B ∧ Pk.Chg [R] w w' := by
 obtain ⟨e1, e2⟩ := Pk.num_at_head (n : Int) (by omega) (by omega) (Pk.gd (Pk.numL n ++ B)) (Pk.numL n ++ B).length (by simp) (fun i hi => Pk.gd_left _ _ _ hi)
 have hp := (Pk.num_len (n : Int) (by omega) (by omega)).1
 refine (Pk.rcount_ok R b0 _ _ most w h hb (by rw [e2]; omega) (by rw [e1]; omega) (by rw [e1]; omega) (by omega)).mono fun e w' q => ⟨by rw [q.1, e1], RL.cut q.2.1 e2, q.2.2⟩
theorem RL.chg {S : List Nat} {w w' : World} {R b0 : Nat} {L : List Nat} (h : RL w R b0 L) (c : Pk.Chg S w w') (hR : R ∉ S) (hb : b0 ∉ S) : RL w' R b0 L := Pk.RB.chg h c hR hb
theorem Pk.Chg.old {S : List Nat} {w w' : World} (h : Old w w') : Pk.Chg S w w' := ⟨h.os, h.tape, h.output, h.size, fun k hk _ => Below.block h k hk⟩
theorem Pk.Chg.cell' {S : List Nat} {w w' : World} (c : Pk.Chg S w w') {p : Addr} {v : Value} (h : w.cell? p = some v) (hn : p.block ∉ S) : w'.cell? p = some v := Pk.Chg.cell c h hn
theorem Pk.Chg.fr {S : List Nat} {w w' : World} (c : Pk.Chg S w w') {p : Addr} {v : Value} (h : w.cell? p = some v) (hf : w.frozen? p = false) (hn : p.block ∉ S) : w'.frozen? p = false := by
 rw [World.frozen?_of_block (w := w) (c.block p.block (World.block_lt_of_cell? w p h) hn)]; exact hf
theorem FOwn.chg {base : Nat} {S : List Nat} {w w' : World} {v : Value} {L : List Nat} (h : FOwn base w v L) (c : Pk.Chg S w w') (hS : ∀ k ∈ S, k < base) : FOwn base w' v L := by
 obtain ⟨p, cp, e, hc⟩ := h
 refine ⟨p, cp, e, fun hl => ?_⟩
 obtain ⟨g, e2, hg, hi⟩ := hc hl
 refine ⟨g, e2, hg, fun i hi2 => ?_⟩
 have hn : g ∉ S := fun q => by have := hS g q; omega
 exact ⟨c.cell' (hi i hi2).1 hn, c.fr (hi i hi2).1 (hi i hi2).2 hn⟩
def SOwn (base : Nat) (w : World) (v : Value) (L : List Sp) : Prop := ∃ (p : Option Addr) (c : Nat), v = .slice p L.length c ∧ (0 < L.length → ∃ g, p = some ⟨g, 0, none⟩ ∧ base ≤ g ∧ ∀ i (hi : i < L.length), SpIn w g (i * 4) L[i])
theorem SpIn.chg {S : List Nat} {w w' : World} {g o : Nat} {s : Sp} (c : Pk.Chg S w w') (h : SpIn w g o s) (hn : g ∉ S) : SpIn w' g o s := ⟨c.cell' h.1 hn, c.cell' h.2.1 hn, c.cell' h.2.2.1 hn, c.cell' h.2.2.2 hn⟩
theorem SOwn.chg {base : Nat} {S : List Nat} {w w' : World} {v : Value} {L : List Sp} (h : SOwn base w v L) (c : Pk.Chg S w w') (hS : ∀ k ∈ S, k < base) : SOwn base w' v L := by
 obtain ⟨p, cp, e, hc⟩ := h
 refine ⟨p, cp, e, fun hl => ?_⟩
 obtain ⟨g, e2, hg, hi⟩ := hc hl
 exact ⟨g, e2, hg, fun i hi2 => (hi i hi2).chg c (fun q => by have := hS g q; omega)⟩
theorem FOwn.row' {base : Nat} {w : World} {v : Value} {n : Nat} {x : Nat → Nat} (h : FOwn base w v (rl x n)) (hW : ∀ i, i < n → Fl.W (x i)) (hn : n ≤ 1000000) : FRow w v n x := by
 obtain ⟨p, c, e, hc⟩ := h
 rw [rl_len] at e
 refine ⟨by omega, p, c, e, fun i hi => ?_⟩
 obtain ⟨g, e2, hg, hi2⟩ := hc (by rw [rl_len]; omega)
 have q := hi2 i (by rw [rl_len]; exact hi)
 exact ⟨g, 0, e2, hW i hi, by rw [Nat.zero_add]; rw [q.1]; simp [rl]⟩
theorem SOwn.row' {base : Nat} {w : World} {v : Value} {n : Nat} {f : Nat → Sp} (h : SOwn base w v (rl f n)) (hW : ∀ i, i < n → Fl.W (f i).a ∧ Fl.W (f i).b) (hn : n ≤ 1000000) : SRow w v n f := by
 obtain ⟨p, c, e, hc⟩ := h
 rw [rl_len] at e
 refine ⟨by omega, p, c, e, fun i hi => ?_⟩
 obtain ⟨g, e2, hg, hi2⟩ := hc (by rw [rl_len]; omega)
 have q := hi2 i (by rw [rl_len]; exact hi)
 refine ⟨g, 0, e2, (hW i hi).1, (hW i hi).2, ?_⟩
 rw [Nat.zero_add]
 have e3 : (rl f n)[i]'(by rw [rl_len]; exact hi) = f i := by simp [rl]
 rw [e3] at q
 exact q
end Go.Proofs.YtajoodkapiifcaaGreat
namespace Go.Proofs.YtajoodkapiifcaaGreat
open Go.RowKit Go.Lib
set_option linter.unusedVariables false
set_option linter.unusedSimpArgs false
set_option maxRecDepth 20000
def kRest (x : Nat → Nat) (n k : Nat) (B : List Nat) : List Nat := ((rl x n).drop k).flatMap keyB ++ B
theorem kRest_step (x : Nat → Nat) (n k : Nat) (B : List Nat) (h : k < n) : kRest x n k B = keyB (x k) ++ kRest x n (k + 1) B := by
 unfold kRest
 have e : (rl x n).drop k = x k :: (rl x n).drop (k + 1) := by
  rw [List.drop_eq_getElem_cons (by rw [rl_len]; exact h)]
  simp [rl]
 rw [e, List.flatMap_cons, List.append_assoc]
theorem kRest_end (x : Nat → Nat) (n : Nat) (B : List Nat) : kRest x n n B = B := by
 unfold kRest
 rw [List.drop_eq_nil_of_le (by rw [rl_len]; exact Nat.le_refl _)]
 rfl
theorem infoFl1 : (Tryz.prog.info? 22).map (fun i => (i.zero, i.size, i.bytes)) = some (some (.float .f64 0), 1, 8) := by kernel_rfl
theorem Pk.Chg.set' (w : World) (p : Addr) (v : Value) : Pk.Chg [p.block] w (w.setCell p v) := ⟨rfl, rfl, rfl, by simp, fun k hk hn => Below.heap_setCell w p v k (fun e => hn (by simp [e]))⟩
theorem Pk.Chg.trans' {S T : List Nat} {a b c : World} (h : Pk.Chg S a b) (k : Pk.Chg T b c) (hT : ∀ j ∈ T, a.heap.size ≤ j) : Pk.Chg S a c := ⟨k.os.trans h.os, k.tape.trans h.tape, k.output.trans h.output, Nat.le_trans h.size k.size, fun i hi hn => (k.block i (Nat.lt_of_lt_of_le hi h.size) (fun e => by have := hT i e; omega)).trans (h.block i hi hn)⟩
theorem mkF (n : Nat) (hn : n ≤ 1000000) (w : World) : (Instr.makeSlice 25 (.int .i64 (n : Int)) (.int .i64 (n : Int))).run Tryz.prog w = .ok (.slice (some ⟨w.heap.size, 0, none⟩) n n) (w.alloc (.cells (madeCells #[.float .f64 0] n) 22)) := by
 obtain ⟨i0, hi, hz0, hz1, hz2⟩ := info_parts infoFl1
 have q := run_make (P := Tryz.prog) w 25 22 i0 _ Tryz.underlying25 hi hz0 .i64 .i64 n n (by omega) (Int.le_refl _) (by rw [hz2]; omega) (by omega)
 rw [hz1] at q
 simp only [Int.toNat_natCast, Nat.mul_one] at q
 exact q
theorem mkS (n : Nat) (hn : n ≤ 1000000) (w : World) : (Instr.makeSlice 26 (.int .i64 (n : Int)) (.int .i64 (n : Int))).run Tryz.prog w = .ok (.slice (some ⟨w.heap.size, 0, none⟩) n n) (w.alloc (.cells (madeCells #[.float .f64 0, .float .f64 0, .bool false, .bool false] (n * 4)) 31)) := by
 obtain ⟨i0, hi, hz0, hz1, hz2⟩ := info_parts infoSpanZ
 have q := run_make (P := Tryz.prog) w 26 31 i0 _ Tryz.underlying26 hi hz0 .i64 .i64 n n (by omega) (Int.le_refl _) (by rw [hz2]; omega) (by omega)
 rw [hz1] at q
 simp only [Int.toNat_natCast] at q
 exact q
def RowG (w : World) (g n : Nat) (x : Nat → Nat) (k : Nat) : Prop := ∃ cur : Array Value, w.heap[g]? = some (.cells cur 22 (0, 0)) ∧ cur.size = n ∧ ∀ i, i < k → cur[i]? = some (.float .f64 (x i))
theorem RowG.new (w : World) (n : Nat) (x : Nat → Nat) (w1 : World) (e : w.alloc (.cells (madeCells #[.float .f64 0] n) 22) = w1) (g : Nat) (hg : w.heap.size = g) : RowG w1 g n x 0 ∧ Old w w1 := by
 subst e hg
 exact ⟨⟨_, Pk.heap_new w _, size_madeCells _ _, fun i hi => by omega⟩, (Old.refl w).alloc _⟩
theorem RowG.chg {S : List Nat} {w w' : World} {g n k : Nat} {x : Nat → Nat} (h : RowG w g n x k) (c : Pk.Chg S w w') (hn : g ∉ S) : RowG w' g n x k := by
 obtain ⟨cur, h1, h2⟩ := h
 exact ⟨cur, by rw [c.block g (heapLt h1) hn]; exact h1, h2⟩
theorem RowG.cell {w : World} {g n k : Nat} {x : Nat → Nat} (h : RowG w g n x k) (i : Nat) (hi : i < n) : (∃ z, w.cell? ⟨g, i, none⟩ = some z) ∧ w.frozen? ⟨g, i, none⟩ = false := by
 obtain ⟨cur, h1, h2, h3⟩ := h
 refine ⟨⟨cur[i]'(by omega), ?_⟩, by simp [World.frozen?, h1]⟩
 simp [World.cell?, h1, h2, hi]
theorem RowG.set {w : World} {g n k : Nat} {x : Nat → Nat} (h : RowG w g n x k) (hk : k < n) : RowG (w.setCell ⟨g, k, none⟩ (.float .f64 (x k))) g n x (k + 1) := by
 obtain ⟨cur, h1, h2, h3⟩ := h
 refine ⟨cur.setIfInBounds k (.float .f64 (x k)), heap_setCell_same w g k _ _ _ h1, by simp [h2], fun i hi => ?_⟩
 by_cases e : i = k
 ·subst e
  rw [Array.getElem?_setIfInBounds_self_of_lt (by omega)]
 ·rw [Array.getElem?_setIfInBounds_ne (fun q => e q.symm)]
  exact h3 i (by omega)
theorem RowG.own {base : Nat} {w : World} {g n : Nat} {x : Nat → Nat} (h : RowG w g n x n) (hb : base ≤ g) : FOwn base w (.slice (some ⟨g, 0, none⟩) n n) (rl x n) := by
 obtain ⟨cur, h1, h2, h3⟩ := h
 refine ⟨_, n, by rw [rl_len], fun hl => ⟨g, rfl, hb, fun i hi => ?_⟩⟩
 have hi' : i < n := by rw [rl_len] at hi; exact hi
 refine ⟨?_, by simp [World.frozen?, h1]⟩
 have := h3 i hi'
 simp only [World.cell?, h1]
 rw [this]
 simp [rl]
def sB (s : Sp) : List Nat := keyB s.a ++ keyB s.b
def sRest (f : Nat → Sp) (n k : Nat) (B : List Nat) : List Nat := ((rl f n).drop k).flatMap sB ++ B
theorem sRest_step (f : Nat → Sp) (n k : Nat) (B : List Nat) (h : k < n) : sRest f n k B = keyB (f k).a ++ (keyB (f k).b ++ sRest f n (k + 1) B) := by
 unfold sRest
 have e : (rl f n).drop k = f k :: (rl f n).drop (k + 1) := by
  rw [List.drop_eq_getElem_cons (by rw [rl_len]; exact h)]
  simp [rl]
 rw [e, List.flatMap_cons]
 simp [sB, List.append_assoc]
theorem sRest_end (f : Nat → Sp) (n : Nat) (B : List Nat) : sRest f n n B = B := by
 unfold sRest
 rw [List.drop_eq_nil_of_le (by rw [rl_len]; exact Nat.le_refl _)]
 rfl
def RowH (w : World) (g n : Nat) (f : Nat → Sp) (k : Nat) : Prop := ∃ cur : Array Value, w.heap[g]? = some (.cells cur 31 (0, 0)) ∧ cur.size = n * 4 ∧ (∀ i, i < n → cur[i * 4 + 2]? = some (.bool false) ∧ cur[i * 4 + 3]? = some (.bool false)) ∧ ∀ i, i < k → cur[i * 4]? = some (.float .f64 (f i).a) ∧ cur[i * 4 + 1]? = some (.float .f64 (f i).b)
theorem made4 (n j : Nat) (h : j < n * 4) : (madeCells #[.float .f64 0, .float .f64 0, .bool false, .bool false] (n * 4))[j]? = some ((#[.float .f64 0, .float .f64 0, .bool false, .bool false] : Array Value)[j % 4]!) := by
 simp [madeCells, h]
theorem RowH.new (w : World) (n : Nat) (f : Nat → Sp) (w1 : World) (e : w.alloc (.cells (madeCells #[.float .f64 0, .float .f64 0, .bool false, .bool false] (n * 4)) 31) = w1) (g : Nat) (hg : w.heap.size = g) : RowH w1 g n f 0 ∧ Old w w1 := by
 subst e hg
 refine ⟨⟨_, Pk.heap_new w _, size_madeCells _ _, fun i hi => ⟨?_, ?_⟩, fun i hi => by omega⟩, (Old.refl w).alloc _⟩
 ·rw [made4 n (i * 4 + 2) (by omega), show (i * 4 + 2) % 4 = 2 by omega]; rfl
 ·rw [made4 n (i * 4 + 3) (by omega), show (i * 4 + 3) % 4 = 3 by omega]; rfl
theorem RowH.chg {S : List Nat} {w w' : World} {g n k : Nat} {f : Nat → Sp} (h : RowH w g n f k) (c : Pk.Chg S w w') (hn : g ∉ S) : RowH w' g n f k := by
 obtain ⟨cur, h1, h2⟩ := h
 exact ⟨cur, by rw [c.block g (heapLt h1) hn]; exact h1, h2⟩
theorem RowH.cell {w : World} {g n k : Nat} {f : Nat → Sp} (h : RowH w g n f k) (i : Nat) (hi : i < n * 4) : (∃ z, w.cell? ⟨g, i, none⟩ = some z) ∧ w.frozen? ⟨g, i, none⟩ = false := by
 obtain ⟨cur, h1, h2, h3⟩ := h
 refine ⟨⟨cur[i]'(by omega), ?_⟩, by simp [World.frozen?, h1]⟩
 simp [World.cell?, h1, h2, hi]
theorem RowH.set {w : World} {g n k : Nat} {f : Nat → Sp} (h : RowH w g n f k) (hk : k < n) : RowH ((w.setCell ⟨g, k * 4, none⟩ (.float .f64 (f k).a)).setCell ⟨g, k * 4 + 1, none⟩ (.float .f64 (f k).b)) g n f (k + 1) := by
 obtain ⟨cur, h1, h2, h3, h4⟩ := h
 have q1 := heap_setCell_same w g (k * 4) _ _ (.float .f64 (f k).a) h1
 have q2 := heap_setCell_same _ g (k * 4 + 1) _ _ (.float .f64 (f k).b) q1
 have F : ∀ j, j ≠ k * 4 → j ≠ k * 4 + 1 → ((cur.setIfInBounds (k * 4) (.float .f64 (f k).a)).setIfInBounds (k * 4 + 1) (.float .f64 (f k).b))[j]? = cur[j]? := fun j e1 e2 => by
  rw [Array.getElem?_setIfInBounds_ne (fun q => e2 q.symm), Array.getElem?_setIfInBounds_ne (fun q => e1 q.symm)]
 refine ⟨_, q2, by simp [h2], fun i hi => ⟨by rw [F _ (by omega) (by omega)]; exact (h3 i hi).1, by rw [F _ (by omega) (by omega)]; exact (h3 i hi).2⟩, fun i hi => ?_⟩
 by_cases e : i = k
 ·subst e
  refine ⟨?_, ?_⟩
  ·rw [Array.getElem?_setIfInBounds_ne (by omega), Array.getElem?_setIfInBounds_self_of_lt (by omega)]
  ·rw [Array.getElem?_setIfInBounds_self_of_lt (by simp; omega)]
 ·exact ⟨by rw [F _ (by omega) (by omega)]; exact (h4 i (by omega)).1, by rw [F _ (by omega) (by omega)]; exact (h4 i (by omega)).2⟩
theorem RowH.own {base : Nat} {w : World} {g n : Nat} {f : Nat → Sp} (h : RowH w g n f n) (hb : base ≤ g) (hf : ∀ i, i < n → (f i).p = false ∧ (f i).q = false) : SOwn base w (.slice (some ⟨g, 0, none⟩) n n) (rl f n) := by
 obtain ⟨cur, h1, h2, h3, h4⟩ := h
 refine ⟨_, n, by rw [rl_len], fun hl => ⟨g, rfl, hb, fun i hi => ?_⟩⟩
 have hi' : i < n := by rw [rl_len] at hi; exact hi
 have e3 : (rl f n)[i] = f i := by simp [rl]
 have F : ∀ j, w.cell? ⟨g, j, none⟩ = cur[j]? := fun j => by simp [World.cell?, h1]
 rw [e3]
 unfold SpIn
 rw [F, F, F, F, (hf i hi').1, (hf i hi').2]
 exact ⟨(h4 i hi').1, (h4 i hi').2, (h3 i hi').1, (h3 i hi').2⟩
attribute [local go_sem] run_bits run_frombits run_store_float eqF
set_option maxHeartbeats 1000000 in
theorem readKeys_ok (R b0 n : Nat) (x : Nat → Nat) (most : Int) (hn : (n : Int) ≤ most) (hm : most ≤ 1000000) (hx : ∀ i, i < n → Fl.W (x i) ∧ Fl.canon (x i) = x i) (B : List Nat) (w : World) (h : RL w R b0 (Pk.numL n ++ kRest x n 0 B)) (hb : b0 ≠ R) (hR : R < w.heap.size) (hb0 : b0 < w.heap.size) :
    Calls Tryz.prog 48 #[.pointer (some ⟨R, 0, none⟩), .int .i64 most] w fun e w' => ∃ v, e = .returned v ∧ FOwn w.heap.size w' v (rl x n) ∧ RL w' R b0 B ∧ Pk.Chg [R] w w' := by
 have HC := hid (rdCount R b0 n most hn hm (kRest x n 0 B) w h hb)
 have hn1 : n ≤ 1000000 := by omega
 have hmk := fun W => mkF n hn1 W
 have HKs := hid (kRest_step x n)
 have HKe := hid (kRest_end x n B)
 have HX := hid hx
 clear h hn hx
 go_enter Tryz.func48, Tryz.ntmps48
 go_upto_region 2 with (first | (go_at_call 75; refine HC.out.mono ?_; rintro e w1 ⟨rfl, r1, c1⟩; have R1 := hid r1; have C1 := hid c1; clear r1 c1))
 clear hmk HC
 generalize hw2 : w1.alloc (.cells (madeCells #[.float .f64 0] n) 22) = w2 at *
 generalize hg : w1.heap.size = g at *
 obtain ⟨hG, hU⟩ := RowG.new w1 n x w2 hw2 g hg
 have HG := hid (show w.heap.size ≤ g by have := C1.out.size; omega)
 have HI := hid (show RowG w2 g n x 0 ∧ RL w2 R b0 (kRest x n 0 B) ∧ Pk.Chg [R] w w2 from ⟨hG, R1.out.chg (S := []) (Pk.Chg.old hU) (by simp) (by simp), C1.out.trans (Pk.Chg.old hU)⟩)
 clear hw2 hg hG hU R1 C1
 go_wp2
 go_loopw [13] (fun i wr => ∃ k : Nat, k ≤ n ∧ i = .int .i64 (k : Nat) ∧ RowG wr g n x k ∧ RL wr R b0 (kRest x n k B) ∧ Pk.Chg [R] w wr) (fun i _ => n - (intOf i).toNat)
 case atStart => exact ⟨0, Nat.zero_le _, rfl, HI.out.1, HI.out.2.1, HI.out.2.2⟩
 case round =>
  obtain ⟨k, hk, rfl, hG, hL, hU⟩ := hrel
  have G := hid hG
  have L := hid hL
  have U := hid hU
  clear hG hL hU HI
  by_cases hlt : k < n
  ·have hq := L.out
   rw [HKs.out k B hlt] at hq
   have HK := hid (rdKey R b0 (x k) (HX.out k hlt).1 (HX.out k hlt).2 (kRest x n (k + 1) B) wr hq hb)
   have l1 : (0 : Int) ≤ (k : Int) := by omega
   have l2 : (k : Int) < (n : Int) := by omega
   have HSt := hid (fun (W : World) (q : RowG W g n x k) => q.set hlt)
   clear hq
   generalize x k = xk at *
   go_wp2_with (first | (go_at_call 76; refine HK.out.mono ?_; rintro e w3 ⟨rfl, r3, c3⟩; have G3 := hid (G.out.chg c3 (by simp; have := HG.out; omega)); have R3 := hid r3; have U3 := hid (U.out.trans c3); obtain ⟨⟨z3, q3⟩, f3⟩ := G3.out.cell k hlt; clear r3 c3))
   go_roundw
   case rel => exact ⟨k + 1, hlt, by go_num, HSt.out _ G3.out, R3.out.chg (S := [g]) (Pk.Chg.set' _ ⟨g, k, none⟩ _) (by simp; have := HG.out; omega) (by simp; have := HG.out; omega), U3.out.trans' (Pk.Chg.set' _ ⟨g, k, none⟩ _) (by simp; have := HG.out; omega)⟩
   case measure => simp [intOf]; omega
  ·obtain rfl : k = n := by omega
   have hq := L.out
   rw [HKe.out] at hq
   have Q := hid hq
   clear hq
   go_wp2
   go_ret
   exact ⟨_, rfl, G.out.own HG.out, Q.out, U.out⟩
set_option maxHeartbeats 1000000 in
theorem readSpans_ok (R b0 n : Nat) (f : Nat → Sp) (most : Int) (hn : (n : Int) ≤ most) (hm : most ≤ 1000000) (hx : ∀ i, i < n → (Fl.W (f i).a ∧ Fl.canon (f i).a = (f i).a) ∧ (Fl.W (f i).b ∧ Fl.canon (f i).b = (f i).b)) (hf : ∀ i, i < n → (f i).p = false ∧ (f i).q = false) (B : List Nat) (w : World) (h : RL w R b0 (Pk.numL n ++ sRest f n 0 B)) (hb : b0 ≠ R) (hR : R < w.heap.size) (hb0 : b0 < w.heap.size) :
    Calls Tryz.prog 49 #[.pointer (some ⟨R, 0, none⟩), .int .i64 most] w fun e w' => ∃ v, e = .returned v ∧ SOwn w.heap.size w' v (rl f n) ∧ RL w' R b0 B ∧ Pk.Chg [R] w w' := by
 have HC := hid (rdCount R b0 n most hn hm (sRest f n 0 B) w h hb)
 have hn1 : n ≤ 1000000 := by omega
 have hmk := fun W => mkS n hn1 W
 have HKs := hid (sRest_step f n)
 have HKe := hid (sRest_end f n B)
 have HX := hid hx
 have HF := hid hf
 clear h hn hx hf
 go_enter Tryz.func49, Tryz.ntmps49
 go_upto_region 2 with (first | (go_at_call 75; refine HC.out.mono ?_; rintro e w1 ⟨rfl, r1, c1⟩; have R1 := hid r1; have C1 := hid c1; clear r1 c1))
 clear hmk HC
 generalize hw2 : w1.alloc (.cells (madeCells #[.float .f64 0, .float .f64 0, .bool false, .bool false] (n * 4)) 31) = w2 at *
 generalize hg : w1.heap.size = g at *
 obtain ⟨hG, hU⟩ := RowH.new w1 n f w2 hw2 g hg
 have HG := hid (show w.heap.size ≤ g by have := C1.out.size; omega)
 have HI := hid (show RowH w2 g n f 0 ∧ RL w2 R b0 (sRest f n 0 B) ∧ Pk.Chg [R] w w2 from ⟨hG, R1.out.chg (S := []) (Pk.Chg.old hU) (by simp) (by simp), C1.out.trans (Pk.Chg.old hU)⟩)
 clear hw2 hg hG hU R1 C1
 go_wp2
 go_loopw [13] (fun i wr => ∃ k : Nat, k ≤ n ∧ i = .int .i64 (k : Nat) ∧ RowH wr g n f k ∧ RL wr R b0 (sRest f n k B) ∧ Pk.Chg [R] w wr) (fun i _ => n - (intOf i).toNat)
 case atStart => exact ⟨0, Nat.zero_le _, rfl, HI.out.1, HI.out.2.1, HI.out.2.2⟩
 case round =>
  obtain ⟨k, hk, rfl, hG, hL, hU⟩ := hrel
  have G := hid hG
  have L := hid hL
  have U := hid hU
  clear hG hL hU HI
  by_cases hlt : k < n
  ·have hq := L.out
   rw [HKs.out k B hlt] at hq
   have HK := hid (rdKey R b0 (f k).a (HX.out k hlt).1.1 (HX.out k hlt).1.2 (keyB (f k).b ++ sRest f n (k + 1) B) wr hq hb)
   have HK2 := hid (fun W (q : RL W R b0 (keyB (f k).b ++ sRest f n (k + 1) B)) => rdKey R b0 (f k).b (HX.out k hlt).2.1 (HX.out k hlt).2.2 (sRest f n (k + 1) B) W q hb)
   have l1 : (0 : Int) ≤ (k : Int) := by omega
   have l2 : (k : Int) < (n : Int) := by omega
   have HSt := hid (fun (W : World) (q : RowH W g n f k) => q.set hlt)
   clear hq
   generalize f k = s at *
   have hne : g ∉ [R] := by simp; have := HG.out; omega
   have HNE := hid hne
   clear hne
   go_upto_region 6 with (first | (go_at_call 76; first | (refine HK.out.mono ?_; rintro e w3 ⟨rfl, r3, c3⟩; have G3 := hid (G.out.chg c3 HNE.out); have R3 := hid r3; have U3 := hid (U.out.trans c3); clear r3 c3) | (refine (HK2.out _ R3.out).mono ?_; rintro e w4 ⟨rfl, r4, c4⟩; have G4 := hid (G3.out.chg c4 HNE.out); have R4 := hid r4; have U4 := hid (U3.out.trans c4); obtain ⟨⟨z3, q3⟩, f3⟩ := G4.out.cell (k * 4) (by omega); obtain ⟨⟨z4, q4⟩, f4⟩ := G4.out.cell (k * 4 + 1) (by omega); clear r4 c4)))
   go_wp2
   go_roundw
   case rel => exact ⟨k + 1, hlt, by go_num, HSt.out _ G4.out, (R4.out.chg (S := [g]) (Pk.Chg.set' _ ⟨g, k * 4, none⟩ _) (by simp; have := HG.out; omega) (by simp; have := HG.out; omega)).chg (S := [g]) (Pk.Chg.set' _ ⟨g, k * 4 + 1, none⟩ _) (by simp; have := HG.out; omega) (by simp; have := HG.out; omega), (U4.out.trans' (Pk.Chg.set' _ ⟨g, k * 4, none⟩ _) (by simp; have := HG.out; omega)).trans' (Pk.Chg.set' _ ⟨g, k * 4 + 1, none⟩ _) (by simp; have := HG.out; omega)⟩
   case measure => simp [intOf]; omega
  ·obtain rfl : k = n := by omega
   have hq := L.out
   rw [HKe.out] at hq
   have Q := hid hq
   clear hq
   go_wp2
   go_ret
   exact ⟨_, rfl, G.out.own HG.out HF.out, Q.out, U.out⟩
end Go.Proofs.YtajoodkapiifcaaGreat
namespace Go.Proofs.YtajoodkapiifcaaGreat
open Go.RowKit Go.Lib
set_option linter.unusedVariables false
set_option linter.unusedSimpArgs false
set_option maxRecDepth 20000
def bytesS (s1 s2 s3 : Int) (n1 n2 n3 : Nat) (x1 x3 : Nat → Nat) (f2 : Nat → Sp) (B : List Nat) : List Nat := Pk.numL s1 ++ (Pk.numL s2 ++ (Pk.numL s3 ++ (Pk.numL n1 ++ kRest x1 n1 0 (Pk.numL n2 ++ sRest f2 n2 0 (Pk.numL n3 ++ kRest x3 n3 0 B)))))
theorem encV_pN (z : Int) : Pk.encV (pN z) = Pk.numL z := by simp [Pk.encV, pN]
theorem encV_pK (x : Nat) : Pk.encV (pK x) = keyB x := by simp [Pk.encV, pK, keyB]
theorem flat_map {α β γ : Type} (g : α → β) (h : β → List γ) (k : α → List γ) (e : ∀ a, h (g a) = k a) : ∀ L : List α, (L.map g).flatMap h = L.flatMap k
 | [] => rfl
 | a :: t => by rw [List.map_cons, List.flatMap_cons, List.flatMap_cons, e, flat_map g h k e t]
theorem flat_flat {α β γ : Type} (g : α → List β) (h : β → List γ) (k : α → List γ) (e : ∀ a, (g a).flatMap h = k a) : ∀ L : List α, (L.flatMap g).flatMap h = L.flatMap k
 | [] => rfl
 | a :: t => by rw [List.flatMap_cons, List.flatMap_append, List.flatMap_cons, e, flat_flat g h k e t]
theorem ksP_enc (x : Nat → Nat) (n : Nat) : (ksP x n n).flatMap Pk.encV = Pk.numL n ++ (rl x n).flatMap keyB := by
 unfold ksP
 rw [List.flatMap_cons, encV_pN, flat_map pK Pk.encV keyB encV_pK]
theorem ssP_enc (f : Nat → Sp) (n : Nat) : (ssP f n n).flatMap Pk.encV = Pk.numL n ++ (rl f n).flatMap sB := by
 unfold ssP
 rw [List.flatMap_cons, encV_pN, flat_flat sp2 Pk.encV sB (fun s => by simp [sp2, sB, encV_pK])]
theorem encS_bytes (s1 s2 s3 : Int) (n1 n2 n3 : Nat) (x1 x3 : Nat → Nat) (f2 : Nat → Sp) : encS s1 s2 s3 n1 n2 n3 x1 x3 f2 = bytesS s1 s2 s3 n1 n2 n3 x1 x3 f2 [] := by
 unfold encS subP bytesS kRest sRest
 rw [List.flatMap_append, List.flatMap_append, List.flatMap_append, ksP_enc, ssP_enc, ksP_enc]
 simp only [List.flatMap_cons, List.flatMap_nil, encV_pN, List.drop_zero, List.append_nil, List.append_assoc]
def BX (w : World) (m : Nat) (s1 s2 s3 : Int) (v1 v2 v3 : Value) : Prop := SubAt m s1 s2 s3 v1 v2 v3 w ∧ ∀ j, j < 6 → w.frozen? ⟨m, j, none⟩ = false
theorem BX.new (w : World) (w1 : World) (e : w.alloc (.cells #[.int .i64 0, .int .i64 0, .int .i64 0, .slice none 0 0, .slice none 0 0, .slice none 0 0] 28) = w1) (m : Nat) (hm : w.heap.size = m) : BX w1 m 0 0 0 (.slice none 0 0) (.slice none 0 0) (.slice none 0 0) ∧ Old w w1 ∧ w1.heap.size = m + 1 := by
 subst e hm
 exact ⟨⟨by simp [SubAt], fun j _ => by simp⟩, (Old.refl w).alloc _, by simp⟩
theorem BX.chg {S : List Nat} {w w' : World} {m : Nat} {s1 s2 s3 : Int} {v1 v2 v3 : Value} (h : BX w m s1 s2 s3 v1 v2 v3) (c : Pk.Chg S w w') (hn : m ∉ S) : BX w' m s1 s2 s3 v1 v2 v3 :=
 ⟨⟨c.cell' h.1.1 hn, c.cell' h.1.2.1 hn, c.cell' h.1.2.2.1 hn, c.cell' h.1.2.2.2.1 hn, c.cell' h.1.2.2.2.2.1 hn, c.cell' h.1.2.2.2.2.2 hn⟩, fun j hj => by obtain ⟨q, hq⟩ := h.1.cellJ j hj; exact c.fr hq (h.2 j hj) hn⟩
theorem BX.set012 {w : World} {m : Nat} {r1 r2 r3 : Int} {v1 v2 v3 : Value} (h : BX w m r1 r2 r3 v1 v2 v3) (s1 s2 s3 : Int) : BX (((w.setCell ⟨m, 0, none⟩ (.int .i64 s1)).setCell ⟨m, 1, none⟩ (.int .i64 s2)).setCell ⟨m, 2, none⟩ (.int .i64 s3)) m s1 s2 s3 v1 v2 v3 := by
 have F : ∀ (W : World) (o j : Nat) (u : Value), o ≠ j → (W.setCell ⟨m, o, none⟩ u).cell? ⟨m, j, none⟩ = W.cell? ⟨m, j, none⟩ := fun W o j u hn => World.cell?_setCell_other _ _ _ _ (fun q => hn (by cases q; rfl))
 obtain ⟨⟨h0, h1, h2, h3, h4, h5⟩, hf⟩ := h
 refine ⟨⟨?_, ?_, ?_, ?_, ?_, ?_⟩, fun j hj => by simp [hf j hj]⟩
 ·rw [F _ 2 0 _ (by omega), F _ 1 0 _ (by omega)]; exact World.cell?_setCell_same _ _ _ h0
 ·rw [F _ 2 1 _ (by omega)]; exact World.cell?_setCell_same _ _ _ (by rw [F _ 0 1 _ (by omega)]; exact h1)
 ·exact World.cell?_setCell_same _ _ _ (by rw [F _ 1 2 _ (by omega), F _ 0 2 _ (by omega)]; exact h2)
 ·rw [F _ 2 3 _ (by omega), F _ 1 3 _ (by omega), F _ 0 3 _ (by omega)]; exact h3
 ·rw [F _ 2 4 _ (by omega), F _ 1 4 _ (by omega), F _ 0 4 _ (by omega)]; exact h4
 ·rw [F _ 2 5 _ (by omega), F _ 1 5 _ (by omega), F _ 0 5 _ (by omega)]; exact h5
theorem BX.setV {w : World} {m : Nat} {s1 s2 s3 : Int} {v1 v2 v3 : Value} (h : BX w m s1 s2 s3 v1 v2 v3) (u : Value) : BX (w.setCell ⟨m, 3, none⟩ u) m s1 s2 s3 u v2 v3 ∧ BX (w.setCell ⟨m, 4, none⟩ u) m s1 s2 s3 v1 u v3 ∧ BX (w.setCell ⟨m, 5, none⟩ u) m s1 s2 s3 v1 v2 u :=
 ⟨⟨(h.1.setF u).1, fun j hj => by simp [h.2 j hj]⟩, ⟨(h.1.setF u).2.1, fun j hj => by simp [h.2 j hj]⟩, ⟨(h.1.setF u).2.2, fun j hj => by simp [h.2 j hj]⟩⟩
theorem set012_chg (w : World) (m : Nat) (a b c : Value) : Pk.Chg [m] w (((w.setCell ⟨m, 0, none⟩ a).setCell ⟨m, 1, none⟩ b).setCell ⟨m, 2, none⟩ c) := ((Pk.Chg.set' w ⟨m, 0, none⟩ a).trans (Pk.Chg.set' _ ⟨m, 1, none⟩ b)).trans (Pk.Chg.set' _ ⟨m, 2, none⟩ c)
theorem sameU_each {x y : Nat → Nat} : ∀ {n : Nat}, Fl.sameU x y n = true → ∀ i, i < n → x i = y i
 | n + 1, h, i, hi => by
  have h' : (Fl.sameU x y n && decide (x n = y n)) = true := h
  rw [Bool.and_eq_true, decide_eq_true_eq] at h'
  by_cases e : i = n
  ·subst e; exact h'.2
  ·exact sameU_each h'.1 i (by omega)
theorem spU_each {f g : Nat → Sp} : ∀ {n : Nat}, Fl.spU f g n = true → ∀ i, i < n → spEq (f i) (g i) = true
 | n + 1, h, i, hi => by
  have h' : (Fl.spU f g n && spEq (f n) (g n)) = true := h
  rw [Bool.and_eq_true] at h'
  by_cases e : i = n
  ·subst e; exact h'.2
  ·exact spU_each h'.1 i (by omega)
theorem ordF_canon {x : Nat → Nat} {n : Nat} (hx : ∀ i, i < n → Fl.W (x i)) (h : ordF x n = true) : ∀ i, i < n → Fl.W (x i) ∧ Fl.canon (x i) = x i := by
 intro i hi
 unfold ordF at h
 rw [Bool.and_eq_true, decide_eq_true_eq] at h
 have e := sameU_each h.2 i hi
 have hm : atN (Fl.sortL x n) i ∈ Fl.sortL x n := by
  rw [atN_get _ i (by omega)]
  exact List.getElem_mem _
 have q := (Fl.sortL_all x n hx n (Nat.le_refl _)).2.1 _ hm
 rw [← e] at q
 exact q
theorem ordS_form {f : Nat → Sp} {n : Nat} (hx : ∀ i, i < n → Fl.W (f i).a ∧ Fl.W (f i).b) (h : ordS f n = true) : ∀ i, i < n → ∃ r : Nat × Nat, Fl.RV r ∧ f i = Fl.spo r := by
 intro i hi
 unfold ordS at h
 rw [Bool.and_eq_true, decide_eq_true_eq] at h
 have e := sp_ext (spU_each h.2 i hi)
 have hk := Fl.dfold_ok _ (Fl.cdl f n) rfl (Fl.cdl_RV f n hx)
 have hl : i < ((Fl.dfold (Fl.cdl f n)).map Fl.spo).length := by rw [List.length_map]; omega
 rw [atS_get _ i hl, List.getElem_map] at e
 exact ⟨_, hk.1.2 _ (List.getElem_mem _), e⟩
end Go.Proofs.YtajoodkapiifcaaGreat
namespace Go.Proofs.YtajoodkapiifcaaGreat
open Go.RowKit Go.Lib
set_option linter.unusedVariables false
set_option linter.unusedSimpArgs false
set_option maxRecDepth 20000
theorem ordS_facts {f : Nat → Sp} {n : Nat} (hx : ∀ i, i < n → Fl.W (f i).a ∧ Fl.W (f i).b) (h : ordS f n = true) : (∀ i, i < n → (Fl.W (f i).a ∧ Fl.canon (f i).a = (f i).a) ∧ (Fl.W (f i).b ∧ Fl.canon (f i).b = (f i).b)) ∧ ∀ i, i < n → (f i).p = false ∧ (f i).q = false := by
 refine ⟨fun i hi => ?_, fun i hi => ?_⟩
 ·obtain ⟨r, hr, e⟩ := ordS_form hx h i hi
  have a := Fl.of_V hr.1
  have b := Fl.of_V hr.2.1
  rw [e]
  exact ⟨⟨a.1, a.2.2.1⟩, b.1, b.2.2.1⟩
 ·obtain ⟨r, hr, e⟩ := ordS_form hx h i hi
  rw [e]
  exact ⟨rfl, rfl⟩
def ReadPost (R b0 : Nat) (s1 s2 s3 : Int) (n1 n2 n3 : Nat) (x1 x3 : Nat → Nat) (f2 : Nat → Sp) (B : List Nat) (w : World) (e : Ending) (w' : World) : Prop := ∃ (p1 p2 p3 : Option Addr) (q1 q2 q3 : Nat), e = .returned (.agg #[.int .i64 s1, .int .i64 s2, .int .i64 s3, .slice p1 n1 q1, .slice p2 n2 q2, .slice p3 n3 q3]) ∧ FOwn w.heap.size w' (.slice p1 n1 q1) (rl x1 n1) ∧ SOwn w.heap.size w' (.slice p2 n2 q2) (rl f2 n2) ∧ FOwn w.heap.size w' (.slice p3 n3 q3) (rl x3 n3) ∧ RL w' R b0 B ∧ Pk.Chg [R] w w'
theorem FOwn.len2 {base : Nat} {w : World} {v : Value} {n : Nat} {x : Nat → Nat} (h : FOwn base w v (rl x n)) : ∃ p q, v = .slice p n q := by
 obtain ⟨p, q, e, _⟩ := h
 rw [rl_len] at e
 exact ⟨p, q, e⟩
theorem SOwn.len2 {base : Nat} {w : World} {v : Value} {n : Nat} {f : Nat → Sp} (h : SOwn base w v (rl f n)) : ∃ p q, v = .slice p n q := by
 obtain ⟨p, q, e, _⟩ := h
 rw [rl_len] at e
 exact ⟨p, q, e⟩
theorem FOwn.mono2 {base b' : Nat} {w : World} {v : Value} {L : List Nat} (h : FOwn base w v L) (hb : b' ≤ base) : FOwn b' w v L := h.mono' hb
theorem SOwn.mono2 {base b' : Nat} {w : World} {v : Value} {L : List Sp} (h : SOwn base w v L) (hb : b' ≤ base) : SOwn b' w v L := by
 obtain ⟨p, c, e, k⟩ := h
 exact ⟨p, c, e, fun hl => by obtain ⟨g, e2, hg, hi⟩ := k hl; exact ⟨g, e2, by omega, hi⟩⟩
attribute [local go_sem] run_bits run_frombits run_store_float eqF
set_option maxHeartbeats 4000000 in
theorem read_gen (R b0 : Nat) (s1 s2 s3 : Int) (n1 n2 n3 : Nat) (x1 x3 : Nat → Nat) (f2 : Nat → Sp) (hs : (-9223372036854775808 ≤ s1 ∧ s1 ≤ 9223372036854775807) ∧ (-9223372036854775808 ≤ s2 ∧ s2 ≤ 9223372036854775807) ∧ -9223372036854775808 ≤ s3 ∧ s3 ≤ 9223372036854775807) (hn : n1 ≤ 16 ∧ n2 ≤ 8 ∧ n3 ≤ 16)
    (hx1 : ∀ i, i < n1 → Fl.W (x1 i) ∧ Fl.canon (x1 i) = x1 i) (hx3 : ∀ i, i < n3 → Fl.W (x3 i) ∧ Fl.canon (x3 i) = x3 i) (hf : (∀ i, i < n2 → (Fl.W (f2 i).a ∧ Fl.canon (f2 i).a = (f2 i).a) ∧ (Fl.W (f2 i).b ∧ Fl.canon (f2 i).b = (f2 i).b)) ∧ ∀ i, i < n2 → (f2 i).p = false ∧ (f2 i).q = false)
    (B : List Nat) (w : World) (h : RL w R b0 (bytesS s1 s2 s3 n1 n2 n3 x1 x3 f2 B)) (hb : b0 ≠ R) (hR : R < w.heap.size) (hb0 : b0 < w.heap.size) :
    Calls Tryz.prog 24 #[.pointer (some ⟨R, 0, none⟩)] w fun e w' => ReadPost R b0 s1 s2 s3 n1 n2 n3 x1 x3 f2 B w e w' := by
 have HN1 := hid (fun W L (q : RL W R b0 (Pk.numL s1 ++ L)) => rdNum R b0 s1 (by omega) (by omega) L W q hb)
 have HN2 := hid (fun W L (q : RL W R b0 (Pk.numL s2 ++ L)) => rdNum R b0 s2 (by omega) (by omega) L W q hb)
 have HN3 := hid (fun W L (q : RL W R b0 (Pk.numL s3 ++ L)) => rdNum R b0 s3 (by omega) (by omega) L W q hb)
 have HK1 := hid (fun W L (q : RL W R b0 (Pk.numL n1 ++ kRest x1 n1 0 L)) (z1 : R < W.heap.size) (z2 : b0 < W.heap.size) => readKeys_ok R b0 n1 x1 16 (by omega) (by omega) hx1 L W q hb z1 z2)
 have HK3 := hid (fun W L (q : RL W R b0 (Pk.numL n3 ++ kRest x3 n3 0 L)) (z1 : R < W.heap.size) (z2 : b0 < W.heap.size) => readKeys_ok R b0 n3 x3 16 (by omega) (by omega) hx3 L W q hb z1 z2)
 have HK2 := hid (fun W L (q : RL W R b0 (Pk.numL n2 ++ sRest f2 n2 0 L)) (z1 : R < W.heap.size) (z2 : b0 < W.heap.size) => readSpans_ok R b0 n2 f2 8 (by omega) (by omega) hf.1 hf.2 L W q hb z1 z2)
 unfold bytesS at h
 generalize hL3 : Pk.numL n3 ++ kRest x3 n3 0 B = L3 at *
 generalize hL2 : Pk.numL n2 ++ sRest f2 n2 0 L3 = L2 at *
 generalize hL1 : Pk.numL n1 ++ kRest x1 n1 0 L2 = L1 at *
 have HL1 := hid hL1
 have HL2 := hid hL2
 have HL3 := hid hL3
 have HH := hid h
 clear hL1 hL2 hL3 h hx1 hx3 hf hs hn
 go_enter Tryz.func24, Tryz.ntmps24
 go_upto_region 1 with fail
 generalize hw1 : w.alloc (.cells #[.int .i64 0, .int .i64 0, .int .i64 0, .slice none 0 0, .slice none 0 0, .slice none 0 0] 28) = w1 at *
 generalize hrb : w.heap.size = rb at *
 have HB1 := hid (BX.new w w1 hw1 rb hrb)
 have HRB := hid hrb
 clear hw1 hrb
 go_upto_region 2 with fail
 generalize hw2 : w1.alloc (.cells #[.int .i64 0, .int .i64 0, .int .i64 0, .slice none 0 0, .slice none 0 0, .slice none 0 0] 28) = w2 at *
 generalize hsb : w1.heap.size = sb at *
 obtain ⟨hb2, hu2, hz2⟩ := BX.new w1 w2 hw2 sb hsb
 obtain ⟨hb1, hu1, hz1⟩ := HB1.out
 have hrb := HRB.out
 have HZ := hid (show sb = rb + 1 ∧ w.heap.size = rb ∧ R < rb ∧ b0 < rb ∧ w2.heap.size = rb + 2 from ⟨by omega, hrb, by omega, by omega, by omega⟩)
 have BR := hid (hb1.chg (S := []) (Pk.Chg.old hu2) (by simp))
 have BS := hid hb2
 have L0 := hid (HH.out.chg (S := []) (Pk.Chg.old (hu1.trans hu2)) (by simp) (by simp))
 have C0 := hid (show Pk.Chg [R] w w2 from Pk.Chg.old (hu1.trans hu2))
 have N1 := hid (show sb ∉ [R] by simp; have := HZ.out; omega)
 have N2 := hid (show rb ∉ [R] by simp; have := HZ.out; omega)
 clear hw2 hsb hrb hb1 hu1 hz1 hb2 hu2 hz2 HH HB1 HRB
 go_upto_region 3 with (first | (go_at_call 47; first | (refine (HN1.out _ _ L0.out).mono ?_; rintro e y1 ⟨rfl, r1, c1⟩; have M1 := hid r1; have C1 := hid (C0.out.trans c1); have S1 := hid (BS.out.chg c1 N1.out); have T1 := hid (BR.out.chg c1 N2.out); have Z1 := hid c1.size; clear r1 c1) | (refine (HN2.out _ _ M1.out).mono ?_; rintro e y2 ⟨rfl, r2, c2⟩; have M2 := hid r2; have C2 := hid (C1.out.trans c2); have S2 := hid (S1.out.chg c2 N1.out); have T2 := hid (T1.out.chg c2 N2.out); have Z2 := hid (Nat.le_trans Z1.out c2.size); clear r2 c2) | (refine (HN3.out _ _ M2.out).mono ?_; rintro e y3 ⟨rfl, r3, c3⟩; have M3 := hid r3; have C3 := hid (C2.out.trans c3); have S3 := hid (S2.out.chg c3 N1.out); have T3 := hid (T2.out.chg c3 N2.out); have Z3 := hid (Nat.le_trans Z2.out c3.size); obtain ⟨⟨k0, k1, k2, k3, k4, k5⟩, kf⟩ := S3.out; have f0 := kf 0 (by omega); have f1 := kf 1 (by omega); have f2' := kf 2 (by omega); clear r3 c3 kf)))
 clear M1 C1 S1 T1 M2 C2 S2 T2 Z1 Z2 HN1 HN2 HN3 L0 C0 BS BR
 generalize hw4 : ((y3.setCell ⟨sb, 0, none⟩ (.int .i64 s1)).setCell ⟨sb, 1, none⟩ (.int .i64 s2)).setCell ⟨sb, 2, none⟩ (.int .i64 s3) = w4 at *
 have c4 : Pk.Chg [sb] y3 w4 := by rw [← hw4]; exact set012_chg _ _ _ _ _
 have S4 := hid (show BX w4 sb s1 s2 s3 (.slice none 0 0) (.slice none 0 0) (.slice none 0 0) from by rw [← hw4]; exact S3.out.set012 s1 s2 s3)
 have T4 := hid (T3.out.chg c4 (by simp; have := HZ.out; omega))
 have M4 := hid (M3.out.chg c4 (by simp; have := HZ.out; omega) (by simp; have := HZ.out; omega))
 have C4 := hid (C3.out.trans' c4 (by simp; have := HZ.out; omega))
 have Z4 := hid (show rb + 2 ≤ w4.heap.size by have := c4.size; have := Z3.out; have := HZ.out; omega)
 rw [← HL1.out] at M4
 clear hw4 c4 S3 T3 M3 C3 Z3 k0 k1 k2 k3 k4 k5 f0 f1 f2' HL1
 obtain ⟨⟨k0, k1, k2, k3, k4, k5⟩, kf⟩ := S4.out
 have f3 := kf 3 (by omega)
 have KF := hid kf
 clear kf
 go_upto_region 4 with (first | (go_at_call 48; refine (HK1.out _ _ M4.out (by have := HZ.out; have := Z4.out; omega) (by have := HZ.out; have := Z4.out; omega)).mono ?_; rintro e y5 ⟨vr5, rfl, o5, r5, c5⟩; obtain ⟨p1, q1, hv5⟩ := o5.len2; subst hv5; have O1a := hid (o5.mono2 (show rb + 2 ≤ w4.heap.size from Z4.out)); have M5a := hid r5; have S5a := hid (S4.out.chg c5 N1.out); have T5a := hid (T4.out.chg c5 N2.out); have C5a := hid (C4.out.trans c5); have Z5a := hid (Nat.le_trans Z4.out c5.size); obtain ⟨⟨j0, j1, j2, j3, j4, j5⟩, jf⟩ := S5a.out; have g3 := jf 3 (by omega); clear o5 r5 c5 jf))
 generalize hw5 : y5.setCell ⟨sb, 3, none⟩ (.slice p1 n1 q1) = w5 at *
 have c5 : Pk.Chg [sb] y5 w5 := by rw [← hw5]; exact Pk.Chg.set' _ ⟨sb, 3, none⟩ _
 have S5 := hid (show BX w5 sb s1 s2 s3 (.slice p1 n1 q1) (.slice none 0 0) (.slice none 0 0) from by rw [← hw5]; exact (S5a.out.setV _).1)
 have T5 := hid (T5a.out.chg c5 (by simp; have := HZ.out; omega))
 have M5 := hid (M5a.out.chg c5 (by simp; have := HZ.out; omega) (by simp; have := HZ.out; omega))
 have C5 := hid (C5a.out.trans' c5 (by simp; have := HZ.out; omega))
 have Z5 := hid (show rb + 2 ≤ w5.heap.size by have := c5.size; have := Z5a.out; omega)
 have O1x5 := hid (O1a.out.chg c5 (by simp; have := HZ.out; omega))
 rw [← HL2.out] at M5
 clear hw5 c5 S5a T5a M5a C5a Z5a O1a j0 j1 j2 j3 j4 j5 k0 k1 k2 k3 k4 k5 g3 S4 T4 M4 C4 Z4
 obtain ⟨⟨k0, k1, k2, k3, k4, k5⟩, kf⟩ := S5.out
 clear kf
 go_upto_region 5 with (first | (go_at_call 49; refine (HK2.out _ _ M5.out (by have := HZ.out; have := Z5.out; omega) (by have := HZ.out; have := Z5.out; omega)).mono ?_; rintro e y6 ⟨vr6, rfl, o6, r6, c6⟩; obtain ⟨p2, q2, hv6⟩ := o6.len2; subst hv6; have O2a := hid (o6.mono2 (show rb + 2 ≤ w5.heap.size from Z5.out)); have O1b := hid (O1x5.out.chg c6 (by simp; have := HZ.out; have := Z5.out; omega)); have M6a := hid r6; have S6a := hid (S5.out.chg c6 N1.out); have T6a := hid (T5.out.chg c6 N2.out); have C6a := hid (C5.out.trans c6); have Z6a := hid (Nat.le_trans Z5.out c6.size); obtain ⟨⟨j0, j1, j2, j3, j4, j5⟩, jf⟩ := S6a.out; have g4 := jf 4 (by omega); clear o6 r6 c6 jf))
 generalize hw6 : y6.setCell ⟨sb, 4, none⟩ (.slice p2 n2 q2) = w6 at *
 have c6 : Pk.Chg [sb] y6 w6 := by rw [← hw6]; exact Pk.Chg.set' _ ⟨sb, 4, none⟩ _
 have S6 := hid (show BX w6 sb s1 s2 s3 (.slice p1 n1 q1) (.slice p2 n2 q2) (.slice none 0 0) from by rw [← hw6]; exact (S6a.out.setV _).2.1)
 have T6 := hid (T6a.out.chg c6 (by simp; have := HZ.out; omega))
 have M6 := hid (M6a.out.chg c6 (by simp; have := HZ.out; omega) (by simp; have := HZ.out; omega))
 have C6 := hid (C6a.out.trans' c6 (by simp; have := HZ.out; omega))
 have Z6 := hid (show rb + 2 ≤ w6.heap.size by have := c6.size; have := Z6a.out; omega)
 have O1x6 := hid (O1b.out.chg c6 (by simp; have := HZ.out; omega))
 clear O1b
 have O2x6 := hid (O2a.out.chg c6 (by simp; have := HZ.out; omega))
 rw [← HL3.out] at M6
 clear hw6 c6 S6a T6a M6a C6a Z6a O2a j0 j1 j2 j3 j4 j5 k0 k1 k2 k3 k4 k5 g4 S5 T5 M5 C5 Z5
 obtain ⟨⟨k0, k1, k2, k3, k4, k5⟩, kf⟩ := S6.out
 clear kf
 go_upto_region 6 with (first | (go_at_call 48; refine (HK3.out _ _ M6.out (by have := HZ.out; have := Z6.out; omega) (by have := HZ.out; have := Z6.out; omega)).mono ?_; rintro e y7 ⟨vr7, rfl, o7, r7, c7⟩; obtain ⟨p3, q3, hv7⟩ := o7.len2; subst hv7; have O3a := hid (o7.mono2 (show rb + 2 ≤ w6.heap.size from Z6.out)); have O1b := hid (O1x6.out.chg c7 (by simp; have := HZ.out; have := Z6.out; omega)); have O2b := hid (O2x6.out.chg c7 (by simp; have := HZ.out; have := Z6.out; omega)); have M7a := hid r7; have S7a := hid (S6.out.chg c7 N1.out); have T7a := hid (T6.out.chg c7 N2.out); have C7a := hid (C6.out.trans c7); have Z7a := hid (Nat.le_trans Z6.out c7.size); obtain ⟨⟨j0, j1, j2, j3, j4, j5⟩, jf⟩ := S7a.out; have g5 := jf 5 (by omega); clear o7 r7 c7 jf))
 generalize hw7 : y7.setCell ⟨sb, 5, none⟩ (.slice p3 n3 q3) = w7 at *
 have c7 : Pk.Chg [sb] y7 w7 := by rw [← hw7]; exact Pk.Chg.set' _ ⟨sb, 5, none⟩ _
 have S7 := hid (show BX w7 sb s1 s2 s3 (.slice p1 n1 q1) (.slice p2 n2 q2) (.slice p3 n3 q3) from by rw [← hw7]; exact (S7a.out.setV _).2.2)
 have T7 := hid (T7a.out.chg c7 (by simp; have := HZ.out; omega))
 have M7 := hid (M7a.out.chg c7 (by simp; have := HZ.out; omega) (by simp; have := HZ.out; omega))
 have C7 := hid (C7a.out.trans' c7 (by simp; have := HZ.out; omega))
 have Z7 := hid (show rb + 2 ≤ w7.heap.size by have := c7.size; have := Z7a.out; omega)
 have O1x7 := hid (O1b.out.chg c7 (by simp; have := HZ.out; omega))
 clear O1b
 have O2x7 := hid (O2b.out.chg c7 (by simp; have := HZ.out; omega))
 clear O2b
 have O3x7 := hid (O3a.out.chg c7 (by simp; have := HZ.out; omega))
 clear hw7 c7 S7a T7a M7a C7a Z7a O3a j0 j1 j2 j3 j4 j5 k0 k1 k2 k3 k4 k5 g5 S6 T6 M6 C6 Z6
 obtain ⟨⟨k0, k1, k2, k3, k4, k5⟩, kf⟩ := S7.out
 clear kf
 obtain ⟨⟨t0, t1, t2, t3, t4, t5⟩, tf⟩ := T7.out
 have e0 := tf 0 (by omega)
 have e1 := tf 1 (by omega)
 have e2 := tf 2 (by omega)
 have e3 := tf 3 (by omega)
 have e4 := tf 4 (by omega)
 have e5 := tf 5 (by omega)
 clear tf
 go_wp2
 refine bodyPost_ret (v := .agg #[.int .i64 s1, .int .i64 s2, .int .i64 s3, .slice p1 n1 q1, .slice p2 n2 q2, .slice p3 n3 q3]) (by simp [results, Tryz.results24, go_sem, *]) rfl ?_
 have cF : Pk.Chg [rb] w7 ((((((w7.setCell ⟨rb, 0, none⟩ (.int .i64 s1)).setCell ⟨rb, 1, none⟩ (.int .i64 s2)).setCell ⟨rb, 2, none⟩ (.int .i64 s3)).setCell ⟨rb, 3, none⟩ (.slice p1 n1 q1)).setCell ⟨rb, 4, none⟩ (.slice p2 n2 q2)).setCell ⟨rb, 5, none⟩ (.slice p3 n3 q3)) := ((((((Pk.Chg.set' _ ⟨rb, 0, none⟩ _).trans (Pk.Chg.set' _ ⟨rb, 1, none⟩ _)).trans (Pk.Chg.set' _ ⟨rb, 2, none⟩ _)).trans (Pk.Chg.set' _ ⟨rb, 3, none⟩ _)).trans (Pk.Chg.set' _ ⟨rb, 4, none⟩ _)).trans (Pk.Chg.set' _ ⟨rb, 5, none⟩ _))
 have hzz := HZ.out
 exact ⟨p1, p2, p3, q1, q2, q3, rfl, (O1x7.out.chg cF (by simp)).mono2 (by omega), (O2x7.out.chg cF (by simp)).mono2 (by omega), (O3x7.out.chg cF (by simp)).mono2 (by omega), M7.out.chg cF (by simp; omega) (by simp; omega), C7.out.trans' cF (by simp; omega)⟩
theorem read_ok (R b0 : Nat) (s1 s2 s3 : Int) (n1 n2 n3 : Nat) (x1 x3 : Nat → Nat) (f2 : Nat → Sp) (hs : (1 ≤ s1 ∧ s1 ≤ 1099511627776) ∧ (1 ≤ s2 ∧ s2 ≤ 1099511627776) ∧ 0 ≤ s3 ∧ s3 ≤ 1099511627776) (hn : n1 ≤ 16 ∧ n2 ≤ 8 ∧ n3 ≤ 16)
    (hx1 : ∀ i, i < n1 → Fl.W (x1 i) ∧ Fl.canon (x1 i) = x1 i) (hx3 : ∀ i, i < n3 → Fl.W (x3 i) ∧ Fl.canon (x3 i) = x3 i) (hf : (∀ i, i < n2 → (Fl.W (f2 i).a ∧ Fl.canon (f2 i).a = (f2 i).a) ∧ (Fl.W (f2 i).b ∧ Fl.canon (f2 i).b = (f2 i).b)) ∧ ∀ i, i < n2 → (f2 i).p = false ∧ (f2 i).q = false)
    (B : List Nat) (w : World) (h : RL w R b0 (bytesS s1 s2 s3 n1 n2 n3 x1 x3 f2 B)) (hb : b0 ≠ R) (hR : R < w.heap.size) (hb0 : b0 < w.heap.size) :
    Calls Tryz.prog 24 #[.pointer (some ⟨R, 0, none⟩)] w fun e w' => ReadPost R b0 s1 s2 s3 n1 n2 n3 x1 x3 f2 B w e w' :=
 read_gen R b0 s1 s2 s3 n1 n2 n3 x1 x3 f2 ⟨⟨by omega, by omega⟩, ⟨by omega, by omega⟩, by omega, by omega⟩ hn hx1 hx3 hf B w h hb hR hb0
end Go.Proofs.YtajoodkapiifcaaGreat
