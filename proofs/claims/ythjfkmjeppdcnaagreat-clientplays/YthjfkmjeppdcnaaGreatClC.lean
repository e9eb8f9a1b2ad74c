/- span.Covers; the document's Same at equal rows and Spans of a row of ranges; conditions: the lengths fit. -/
import Derived.Test.YthjfkmjeppdcnaaGreatClB
import Derived.Test.YthjfkmjeppdcnaaGreatSqa
namespace Go.Proofs.YthjfkmjeppdcnaaGreat
set_option linter.unusedSimpArgs false
open Go.RowKit
set_option linter.unusedVariables false
attribute [local go_sem] run_bits run_frombits run_store_float eqF
namespace Fl
def hasS (s : Sp) (k : Nat) : Bool := hasF (csU s.a s.b s.p s.q) (csV s.a s.b s.p s.q) (csE s.a s.b s.p s.q) k
def anyG (g : Nat → Bool) : Nat → Bool | 0 => false | n + 1 => anyG g n || g n
theorem anyG_true (g : Nat → Bool) : ∀ n i, i < n → g i = true → anyG g n = true
 | n + 1, i, h, e => by
  unfold anyG
  by_cases hi : i = n
  ·subst hi; rw [e]; simp
  ·rw [anyG_true g n i (by omega) e]; rfl
theorem anyG_step (g : Nat → Bool) (k : Nat) (h : anyG g k = false) (e : g k = false) : anyG g (k + 1) = false := by
 show (anyG g k || g k) = false
 rw [h, e]; rfl
end Fl
abbrev X8 (b o b' o' a1 b1 : Nat) (p1 q1 : Bool) (w : World) : Prop := (w.cell? ⟨b, o, none⟩ = some (.float .f64 a1) ∧ w.cell? ⟨b, o + 1, none⟩ = some (.float .f64 b1) ∧ w.cell? ⟨b, o + 2, none⟩ = some (.bool p1) ∧ w.cell? ⟨b, o + 3, none⟩ = some (.bool q1)) ∧ w.cell? ⟨b', o', none⟩ = some (.float .f64 a1) ∧ w.cell? ⟨b', o' + 1, none⟩ = some (.float .f64 b1) ∧ w.cell? ⟨b', o' + 2, none⟩ = some (.bool p1) ∧ w.cell? ⟨b', o' + 3, none⟩ = some (.bool q1)
theorem X8.old {b o b' o' a1 b1 : Nat} {p1 q1 : Bool} {w w' : World} (u : Old w w') (h : X8 b o b' o' a1 b1 p1 q1 w) : X8 b o b' o' a1 b1 p1 q1 w' := ⟨⟨u.keep h.1.1, u.keep h.1.2.1, u.keep h.1.2.2.1, u.keep h.1.2.2.2⟩, u.keep h.2.1, u.keep h.2.2.1, u.keep h.2.2.2.1, u.keep h.2.2.2.2⟩
set_option maxHeartbeats 1000000 in
set_option maxRecDepth 20000 in
theorem same_rows (v1 v2 : Value) (n : Nat) (f : Nat → Sp) (w : World) (h1 : SRow w v1 n f) (h2 : SRow w v2 n f) :
    Calls Tryz.prog 79 #[v1, v2] w fun e w' => e = .returned (.bool true) ∧ Old w w' := by
 obtain ⟨hm, a, c, rfl, hc⟩ := h1
 obtain ⟨_, a', c', rfl, hc'⟩ := h2
 have HC := hid hc
 have HC' := hid hc'
 clear hc hc'
 go_enter Tryz.func79, Tryz.ntmps79
 go_wp2
 go_loopw [5] (fun i wr => ∃ j : Nat, j ≤ n ∧ i = .int .i64 (j : Nat) ∧ Old w wr) (fun i _ => n - (intOf i).toNat)
 case atStart => exact ⟨0, Nat.zero_le _, rfl, Old.refl _⟩
 case round =>
  obtain ⟨j, hj, rfl, hu⟩ := hrel
  by_cases hlt : j < n
  ·obtain ⟨b, off, ha, _, _, c0, c1, c2, c3⟩ := HC.out j hlt
   obtain ⟨b', off', ha', _, _, d0, d1, d2, d3⟩ := HC'.out j hlt
   subst ha ha'
   have x0 := hu.keep c0
   have x1 := hu.keep c1
   have x2 := hu.keep c2
   have x3 := hu.keep c3
   have y0 := hu.keep d0
   have y1 := hu.keep d1
   have y2 := hu.keep d2
   have y3 := hu.keep d3
   have HK0 := fun W => sameSpan_any (f j).a (f j).b (f j).a (f j).b (f j).p (f j).q (f j).p (f j).q W
   have e1 : ((f j).p == (f j).p && (f j).q == (f j).q && (decide ((f j).a = (f j).a) && decide ((f j).b = (f j).b))) = true := by simp
   rw [e1] at HK0
   have HK := hid HK0
   have l1 : (0 : Int) ≤ (j : Int) := by omega
   have l2 : (j : Int) < (n : Int) := by omega
   clear c0 c1 c2 c3 d0 d1 d2 d3 HK0 e1
   generalize (f j).a = a1 at *
   generalize (f j).b = b1 at *
   generalize (f j).p = p1 at *
   generalize (f j).q = q1 at *
   have hX : X8 b (off + j * 4) b' (off' + j * 4) a1 b1 p1 q1 wr := ⟨⟨x0, x1, x2, x3⟩, ⟨y0, y1, y2, y3⟩⟩
   go_wp2_with fail
   go_region_held3 (X8 b (off + j * 4) b' (off' + j * 4) a1 b1 p1 q1) (first | assumption | exact hX | (refine X8.old ?_ hX; assumption)) (first | (go_at_call 116; refine (HK.out _).mono ?_; rintro o w5 ⟨rfl, u5⟩; have U5 : Old wr w5 := ((Old.refl _).drew).trans u5.old))
   all_goals go_wp2
   go_roundw
   case rel => exact ⟨j + 1, hlt, by go_num, Old.trans hu U5⟩
   case measure => simp [intOf]; omega
  ·obtain rfl : j = n := by omega
   go_wp2
   go_ret
   exact ⟨rfl, hu⟩
theorem map_snoc (L : List (Nat × Nat)) (k : Nat) (h : k < L.length) : (L.take (k + 1)).map Fl.spo = (L.take k).map Fl.spo ++ [Fl.spo L[k]] := by
 rw [List.take_succ_eq_append_getElem h, List.map_append]; rfl
set_option maxHeartbeats 1000000 in
set_option maxRecDepth 20000 in
theorem spans_any (v : Value) (base : Nat) (L : List (Nat × Nat)) (w : World) (hown : OwnG base w v L) (hR : ∀ r ∈ L, Fl.RV r) (hl : L.length ≤ 5864062014805) :
    Calls Tryz.prog 47 #[v] w fun e w' => ∃ v', e = .returned v' ∧ OwnS w.heap.size w' v' (L.map Fl.spo) ∧ Old w w' := by
 have hsh : 0 < L.length → ∃ g cap, v = .slice (some ⟨g, 0, none⟩) L.length cap ∧ ∀ i (hi : i < L.length), RgIn w g (i * 2) L[i] := fun h => by
  obtain ⟨g, cap, e, _, _, r⟩ := hown.shape h; exact ⟨g, cap, e, r⟩
 obtain ⟨a, c, rfl⟩ := hown.len
 have HS := hid hsh
 clear hsh hown
 go_enter Tryz.func47, Tryz.ntmps47
 go_wp2
 go_loopw [3, 4] (fun o i wr => ∃ k : Nat, k ≤ L.length ∧ i = .int .i64 (k : Nat) ∧ OwnS w.heap.size wr o ((L.take k).map Fl.spo) ∧ Old w wr) (fun _ i _ => L.length - (intOf i).toNat)
 case atStart => exact ⟨0, Nat.zero_le _, rfl, OwnS.empty (Nat.le_refl _) rfl, (Old.refl w).alloc _⟩
 case round =>
  obtain ⟨k, hk, rfl, ho, hu⟩ := hrel
  have HO := hid ho
  have HU := hid hu
  clear ho hu
  by_cases hlt : k < L.length
  ·obtain ⟨g, cap, he, hr⟩ := HS.out (by omega)
   obtain ⟨rfl, rfl⟩ : a = some ⟨g, 0, none⟩ ∧ c = cap := by cases he; exact ⟨rfl, rfl⟩
   have hrv := hR L[k] (List.getElem_mem hlt)
   obtain ⟨x0, x1⟩ := (hr k hlt).old HU.out
   have HK := hid (fun W => rSpan_some L[k].1 L[k].2 (Fl.V_isCode hrv.1).2.2 (Fl.V_isCode hrv.2.1).2.2 (by have := hrv.2.2; omega) W)
   have l1 : (0 : Int) ≤ (k : Int) := by omega
   have l2 : (k : Int) < (L.length : Int) := by omega
   have HM := hid (map_snoc L k hlt)
   have hlk : (List.map Fl.spo (L.take k)).length = k := by simp; omega
   have hsp : Fl.spo L[k] = ⟨Fl.of L[k].1, Fl.of L[k].2, false, false⟩ := rfl
   have HSP := hid hsp
   clear hsp hr he HS
   generalize Fl.of L[k].1 = u at *
   generalize Fl.of L[k].2 = v at *
   go_wp2_with (first | (go_at_call 73; refine (HK.out _).mono ?_; rintro o w5 ⟨rfl, u5⟩; have U5 := hid u5.old; clear u5) | (at_builtin; refine wp_appS rfl (.tmp 12) (.tmp 18) rfl w.heap.size _ (List.map Fl.spo (L.take k)) [⟨u, v, false, false⟩] _ 0 1 rfl rfl (OwnS.old HO.out (U5.out.alloc _)) (spIn_new _ ⟨u, v, false, false⟩ _ rfl) (by rw [hlk]; simp; omega) (by have := HU.out.size; have := U5.out.size; simp; omega) ?_; intro v8 w8 o8 u8; have O8 := hid o8; have V8 := hid (Old.below ((HU.out.trans U5.out).alloc _) u8); clear o8 u8))
   go_roundw
   case rel => exact ⟨k + 1, hlt, by go_num, by rw [HM.out, HSP.out]; exact O8.out, V8.out⟩
   case measure => simp [intOf]; omega
  ·obtain rfl : k = L.length := by omega
   have h2 := HO.out
   rw [List.take_length] at h2
   obtain ⟨a', c', rfl⟩ := h2.len
   go_wp2
   go_ret
   exact ⟨_, rfl, h2, HU.out⟩
end Go.Proofs.YthjfkmjeppdcnaaGreat
namespace Go.Proofs.YthjfkmjeppdcnaaGreat
abbrev oCmv0 : Oper := { dst := some 7, op := .load 93 (.tmp 2), type := 93, pos := "span.go:138", after := #[], guard := none }
abbrev oCmv1 : Oper := { dst := some 9, op := .load 93 (.tmp 3), type := 93, pos := "span.go:138", after := #[], guard := none }
abbrev oCmv2 : Oper := { dst := some 8, op := .call { callee := Callee.value (.func 90), args := #[.tmp 7], argTypes := #[93] }, type := 93, pos := "span.go:138", after := #[⟨0, .data⟩], guard := none }
abbrev oCmv3 : Oper := { dst := some 5, op := .alloc 93, type := 0, pos := "span.go:138", after := #[], guard := none }
abbrev oCmv4 : Oper := { dst := some 6, op := .alloc 93, type := 0, pos := "span.go:138", after := #[], guard := none }
abbrev oCmv5 : Oper := { dst := some 10, op := .call { callee := Callee.value (.func 90), args := #[.tmp 9], argTypes := #[93] }, type := 93, pos := "span.go:138", after := #[⟨2, .data⟩, ⟨1, .chain⟩], guard := none }
abbrev oCmv6 : Oper := { dst := none, op := .store 93 (.tmp 5) (.tmp 8), type := 0, pos := "span.go:138", after := #[⟨4, .data⟩, ⟨1, .data⟩, ⟨3, .chain⟩, ⟨0, .phase⟩, ⟨1, .phase⟩, ⟨2, .textOnly Departure.lateStores⟩, ⟨3, .textOnly Departure.lateStoresUnsure⟩, ⟨4, .phase⟩, ⟨5, .phase⟩], guard := none }
abbrev oCmv7 : Oper := { dst := none, op := .store 93 (.tmp 6) (.tmp 10), type := 0, pos := "span.go:138", after := #[⟨5, .data⟩, ⟨3, .data⟩, ⟨6, .chain⟩, ⟨0, .phase⟩, ⟨1, .phase⟩, ⟨2, .phase⟩, ⟨3, .phase⟩, ⟨4, .phase⟩, ⟨5, .phase⟩, ⟨6, .phase⟩], guard := none }
abbrev oCmv8 : Oper := { dst := some 23, op := .fieldAddr 93 (.tmp 5) 0, type := 0, pos := "span.go:147", after := #[], guard := none }
abbrev oCmv9 : Oper := { dst := some 24, op := .load 29 (.tmp 23), type := 29, pos := "span.go:147", after := #[⟨0, .data⟩], guard := none }
abbrev oCmv10 : Oper := { dst := some 25, op := .fieldAddr 93 (.tmp 6) 0, type := 0, pos := "span.go:147", after := #[], guard := none }
abbrev oCmv11 : Oper := { dst := some 26, op := .load 29 (.tmp 25), type := 29, pos := "span.go:147", after := #[⟨2, .data⟩], guard := none }
abbrev oCmv12 : Oper := { dst := some 28, op := .fieldAddr 93 (.tmp 5) 1, type := 0, pos := "span.go:147", after := #[], guard := none }
abbrev oCmv13 : Oper := { dst := some 29, op := .load 29 (.tmp 28), type := 29, pos := "span.go:147", after := #[⟨5, .data⟩], guard := none }
abbrev oCmv14 : Oper := { dst := some 30, op := .fieldAddr 93 (.tmp 6) 1, type := 0, pos := "span.go:147", after := #[], guard := none }
abbrev oCmv15 : Oper := { dst := some 31, op := .load 29 (.tmp 30), type := 29, pos := "span.go:147", after := #[⟨7, .data⟩], guard := none }
abbrev oCmv16 : Oper := { dst := some 27, op := .call { callee := Callee.value (.func 83), args := #[.tmp 24, .tmp 26], argTypes := #[29, 29] }, type := 3, pos := "span.go:147", after := #[⟨1, .data⟩, ⟨3, .data⟩], guard := none }
abbrev oCmv17 : Oper := { dst := some 32, op := .call { callee := Callee.value (.func 83), args := #[.tmp 29, .tmp 31], argTypes := #[29, 29] }, type := 3, pos := "span.go:147", after := #[⟨6, .data⟩, ⟨8, .data⟩, ⟨4, .chain⟩], guard := none }
abbrev oCmv18 : Oper := { dst := some 33, op := .buildSlice 22 2 #[(0, .tmp 27), (1, .tmp 32)], type := 22, pos := "span.go:147", after := #[⟨4, .data⟩, ⟨9, .data⟩], guard := none }
abbrev oCmv19 : Oper := { dst := some 34, op := .call { callee := Callee.value (.func 146), args := #[.tmp 33], argTypes := #[22] }, type := 3, pos := "span.go:147", after := #[⟨10, .data⟩, ⟨9, .chain⟩], guard := none }
abbrev oCmv20 : Oper := { dst := some 4, op := .assign (.tmp 34), type := 3, pos := "span.go:147", after := #[⟨11, .data⟩, ⟨11, .chain⟩, ⟨0, .phase⟩, ⟨1, .phase⟩, ⟨2, .phase⟩, ⟨3, .phase⟩, ⟨4, .phase⟩, ⟨5, .phase⟩, ⟨6, .phase⟩, ⟨7, .phase⟩, ⟨8, .phase⟩, ⟨9, .phase⟩, ⟨10, .phase⟩, ⟨11, .phase⟩], guard := none }
set_option linter.unusedSimpArgs false
open Go.RowKit
set_option linter.unusedVariables false
set_option maxHeartbeats 400000 in
set_option maxRecDepth 20000 in
theorem or_first (m c : Nat) (x y : Int) (hx : (x != 0) = true) (W : World) (h0 : W.cell? ⟨m, 0, none⟩ = some (.int .i64 x)) (h1 : W.cell? ⟨m, 1, none⟩ = some (.int .i64 y)) :
    Calls Tryz.prog 146 #[.slice (some ⟨m, 0, none⟩) 2 c] W fun e w' => e = .returned (.int .i64 x) ∧ w' = W := by
 go_enter Tryz.func146, Tryz.ntmps146
 go_wp2
 refine wp_loop_rounds 1 ?_
 rw [rounds_succ]
 go_wp2
 all_goals go_ret
 all_goals exact ⟨rfl, rfl⟩
set_option maxHeartbeats 400000 in
set_option maxRecDepth 20000 in
theorem or_second (m c : Nat) (y : Int) (hy : (y != 0) = true) (W : World) (h0 : W.cell? ⟨m, 0, none⟩ = some (.int .i64 0)) (h1 : W.cell? ⟨m, 1, none⟩ = some (.int .i64 y)) :
    Calls Tryz.prog 146 #[.slice (some ⟨m, 0, none⟩) 2 c] W fun e w' => e = .returned (.int .i64 y) ∧ w' = W := by
 go_enter Tryz.func146, Tryz.ntmps146
 go_wp2
 refine wp_loop_rounds 2 ?_
 rw [rounds_succ]
 go_wp2
 rw [rounds_succ]
 go_wp2
 all_goals go_ret
 all_goals exact ⟨rfl, rfl⟩
set_option maxHeartbeats 400000 in
set_option maxRecDepth 20000 in
theorem or_none (m c : Nat) (W : World) (h0 : W.cell? ⟨m, 0, none⟩ = some (.int .i64 0)) (h1 : W.cell? ⟨m, 1, none⟩ = some (.int .i64 0)) :
    Calls Tryz.prog 146 #[.slice (some ⟨m, 0, none⟩) 2 c] W fun e w' => e = .returned (.int .i64 0) ∧ w' = W := by
 go_enter Tryz.func146, Tryz.ntmps146
 go_wp2
 refine wp_loop_rounds 3 ?_
 rw [rounds_succ]
 go_wp2
 rw [rounds_succ]
 go_wp2
 rw [rounds_succ]
 go_wp2
 all_goals go_ret
 all_goals exact ⟨rfl, rfl⟩
theorem R2i_new {m : Nat} {u v : Int} {w w' : World} (hm : m = w.heap.size) (hw : w' = w.alloc (.cells #[.int .i64 u, .int .i64 v] 3)) : w'.cell? ⟨m, 0, none⟩ = some (.int .i64 u) ∧ w'.cell? ⟨m, 1, none⟩ = some (.int .i64 v) ∧ Up w w' := by subst hm hw; exact ⟨by simp, by simp, (Up.refl _).alloc _⟩
theorem stepBuild2i {ops : Array Oper} {o : Oper} {a : Act} {w : World} {K : Act → World → Prop} {Q : Exit → Act → World → Prop} {E : Prop} (hg : o.guard = none) (x y : Operand) (hop : o.op = Op.buildSlice 22 2 #[(0, x), (1, y)]) (u v : Int)
    (hx : a.eval x = .int .i64 u) (hy : a.eval y = .int .i64 v)
    (hK : ∀ m w', m = w.heap.size → w' = w.alloc (.cells #[.int .i64 u, .int .i64 v] 3) → K (a.put o.dst (.slice (some ⟨m, 0, none⟩) 2 2)) w') :
    if Region.wanted o (yielded ops a.tmps) = true then Oper.wp Tryz.prog o a w K Q else E := by
 have hw : Region.wanted o (yielded ops a.tmps) = true := by simp [Region.wanted, hg]
 rw [if_pos hw]
 obtain ⟨d, p, t, ps, af, gd⟩ := o
 subst hop
 unfold Oper.wp execOp
 simp only [List.map_toArray, List.map_cons, List.map_nil, hx, hy]
 go_simp
 exact hK _ _ rfl rfl
theorem ent_fcmp (args : Array Value) (w : World) : (callFunc 83 args).run Tryz.prog w = .ok (.enter 83 args) w := by kernel_rfl
theorem ent_or (args : Array Value) (w : World) : (callFunc 146 args).run Tryz.prog w = .ok (.enter 146 args) w := by kernel_rfl
attribute [local go_sem] run_bits run_frombits run_store_float eqF
set_option maxHeartbeats 4000000 in
set_option maxRecDepth 20000 in
theorem cmp_core (a b c d u1 v1 u2 v2 : Nat) (x y R : Int) (p q r s e1 e2 q1 q2 : Bool) (h1 : e1 = true → u1 = 0 ∧ v1 = 0) (h2 : e2 = true → u2 = 0 ∧ v2 = 0)
    (g1 : (FloatKind.f64.format.order u1 u2 == some .eq) = q1) (g2 : (FloatKind.f64.format.order v1 v2 == some .eq) = q2)
    (HA : Hid (∀ w, Calls Tryz.prog 90 #[.agg #[.float .f64 a, .float .f64 b, .bool p, .bool q]] w fun o w' => o = .returned (.agg #[.float .f64 u1, .float .f64 v1, .bool e1, .bool e1]) ∧ Up w w')) (HB : Hid (∀ w, Calls Tryz.prog 90 #[.agg #[.float .f64 c, .float .f64 d, .bool r, .bool s]] w fun o w' => o = .returned (.agg #[.float .f64 u2, .float .f64 v2, .bool e2, .bool e2]) ∧ Up w w'))
    (HX : Hid (∀ w, Calls Tryz.prog 83 #[.float .f64 u1, .float .f64 u2] w fun o w' => o = .returned (.int .i64 x) ∧ w' = w)) (HY : Hid (∀ w, Calls Tryz.prog 83 #[.float .f64 v1, .float .f64 v2] w fun o w' => o = .returned (.int .i64 y) ∧ w' = w))
    (HOr : Hid ((e1 || e2) = false → ∀ m c W, W.cell? ⟨m, 0, none⟩ = some (.int .i64 x) → W.cell? ⟨m, 1, none⟩ = some (.int .i64 y) → Calls Tryz.prog 146 #[.slice (some ⟨m, 0, none⟩) 2 c] W fun o w' => o = .returned (.int .i64 R) ∧ w' = W))
    (hR : Hid (((e1 && e2) = true → R = 0) ∧ ((e1 && !e2) = true → R = -1) ∧ ((!e1 && e2) = true → R = 1) ∧ ((q1 && q2 && (!e1 && !e2)) = true → R = 0))) (w : World) :
    Calls Tryz.prog 121 #[.agg #[.float .f64 a, .float .f64 b, .bool p, .bool q], .agg #[.float .f64 c, .float .f64 d, .bool r, .bool s]] w fun o w' => o = .returned (.int .i64 R) ∧ Up w w' := by
 have o0 : FloatKind.f64.format.order 0 0 = some .eq := by decide +kernel
 go_enter Tryz.func121, Tryz.ntmps121
 go_upto_region 1 with fail
 obtain ⟨w0, hw0⟩ : ∃ w0, w0 = ((w.alloc (Obj.cells #[Value.float FloatKind.f64 a, Value.float FloatKind.f64 b, Value.bool p, Value.bool q] 93)).alloc (Obj.cells #[Value.float FloatKind.f64 c, Value.float FloatKind.f64 d, Value.bool r, Value.bool s] 93)) := ⟨_, rfl⟩
 have s0 : B2 w.heap.size a b p q (w.heap.size + 1) c d r s w0 := by rw [hw0]; simp [B2, SpAt]
 have U0 : Up w w0 := by rw [hw0]; exact ((Up.refl w).alloc _).alloc _
 rw [← hw0]
 clear hw0
 have HB0 := hid s0
 clear s0
 go_cut [5, 6] (fun f g wx => ∃ m n : Nat, f = .pointer (some ⟨m, 0, none⟩) ∧ g = .pointer (some ⟨n, 0, none⟩) ∧ SpAt m u1 v1 e1 e1 wx ∧ SpAt n u2 v2 e2 e2 wx ∧ Up w0 wx)
 case first =>
  focus
   refine wp_region_noPanic ?_
   refine wp_region_held_drew (S := B2 w.heap.size a b p q (w.heap.size + 1) c d r s) (by kernel_rfl) ?_ (fun hHeld => ?_)
   ·exact B2.up ((Up.refl _).drew) HB0.out
   try simp only [Act.put, puA, puB, puC]
   clear hHeld
   all_goals
    refine atA [false, false, false, false, false, false, false, false] ?_
    refine tkA (i := 0) (oi := oCmv0) (B2.up (J2.start w0).1 HB0.out) ?_
    try simp only [Act.put, puA, puB, puC]
    refine tkA (i := 2) (oi := oCmv1) (B2.up (J2.start w0).1 HB0.out) ?_
    try simp only [Act.put, puA, puB, puC]
    refine rdA [1, 4, 5] ?_
    refine AllReadyH.cons (o := oCmv2) rfl (fun K hK => ?_) (AllReadyH.cons (o := oCmv3) rfl (fun K hK => ?_) (AllReadyH.cons (o := oCmv4) rfl (fun K hK => ?_) AllReadyH.nil))
    refine stepCall1 ?_ 90 (.tmp 7) #[93] ?_ (.agg #[.float .f64 a, .float .f64 b, .bool p, .bool q]) ?_ ?_ (enter_canonS _ _) ?_
    iterate 4 rfl
    refine (HA.out _).mono ?_
    rintro o x100n ⟨rfl, b100n⟩
    refine ⟨_, rfl, ?_⟩
    have j100n := (J2.start w0).up b100n
    refine hK.out _ _ (B2.up j100n.1 HB0.out) (fun _ => ?_)
    clear hK K
    try simp only [Act.put, puA, puB, puC]
    have jj_100 := j100n
    rotate_left
    refine stepAlloc ?_ ?_ ?_
    iterate 2 rfl
    intro m100n x100n hm100n hx100n
    have j100n := (J2.start w0).nF hm100n hx100n
    clear hm100n hx100n
    refine hK.out _ _ (B2.up j100n.1 HB0.out) (fun _ => ?_)
    clear hK K
    try simp only [Act.put, puA, puB, puC]
    have jj_100 := j100n
    obtain ⟨mm0_100, rfl⟩ : ∃ z, z = m100n := ⟨_, rfl⟩
    rotate_left
    refine stepAlloc ?_ ?_ ?_
    iterate 2 rfl
    intro m100n x100n hm100n hx100n
    have j100n := (J2.start w0).nG hm100n hx100n
    clear hm100n hx100n
    refine hK.out _ _ (B2.up j100n.1 HB0.out) (fun _ => ?_)
    clear hK K
    try simp only [Act.put, puA, puB, puC]
    have jj_100 := j100n
    obtain ⟨mm1_100, rfl⟩ : ∃ z, z = m100n := ⟨_, rfl⟩
    rotate_left
   all_goals first
    |refine atA [true, true, true, false, false, false, false, false] ?_
     refine rdA [3, 4, 5] ?_
     refine AllReadyH.cons (o := oCmv5) rfl (fun K hK => ?_) (AllReadyH.cons (o := oCmv3) rfl (fun K hK => ?_) (AllReadyH.cons (o := oCmv4) rfl (fun K hK => ?_) AllReadyH.nil))
     refine stepCall1 ?_ 90 (.tmp 9) #[93] ?_ (.agg #[.float .f64 c, .float .f64 d, .bool r, .bool s]) ?_ ?_ (enter_canonS _ _) ?_
     iterate 4 rfl
     refine (HB.out _).mono ?_
     rintro o x100n ⟨rfl, b100n⟩
     refine ⟨_, rfl, ?_⟩
     have j100n := jj_100.up b100n
     refine hK.out _ _ (B2.up j100n.1 HB0.out) (fun _ => ?_)
     clear hK K
     try simp only [Act.put, puA, puB, puC]
     have jj_100 := j100n
     rotate_left
     refine stepAlloc ?_ ?_ ?_
     iterate 2 rfl
     intro m100n x100n hm100n hx100n
     have j100n := jj_100.nF hm100n hx100n
     clear hm100n hx100n
     refine hK.out _ _ (B2.up j100n.1 HB0.out) (fun _ => ?_)
     clear hK K
     try simp only [Act.put, puA, puB, puC]
     have jj_100 := j100n
     obtain ⟨mm0_100, rfl⟩ : ∃ z, z = m100n := ⟨_, rfl⟩
     rotate_left
     refine stepAlloc ?_ ?_ ?_
     iterate 2 rfl
     intro m100n x100n hm100n hx100n
     have j100n := jj_100.nG hm100n hx100n
     clear hm100n hx100n
     refine hK.out _ _ (B2.up j100n.1 HB0.out) (fun _ => ?_)
     clear hK K
     try simp only [Act.put, puA, puB, puC]
     have jj_100 := j100n
     obtain ⟨mm1_100, rfl⟩ : ∃ z, z = m100n := ⟨_, rfl⟩
     rotate_left
    |refine atA [true, false, true, false, true, false, false, false] ?_
     refine rdA [1, 5] ?_
     refine AllReadyH.cons (o := oCmv2) rfl (fun K hK => ?_) (AllReadyH.cons (o := oCmv4) rfl (fun K hK => ?_) AllReadyH.nil)
     refine stepCall1 ?_ 90 (.tmp 7) #[93] ?_ (.agg #[.float .f64 a, .float .f64 b, .bool p, .bool q]) ?_ ?_ (enter_canonS _ _) ?_
     iterate 4 rfl
     refine (HA.out _).mono ?_
     rintro o x100n ⟨rfl, b100n⟩
     refine ⟨_, rfl, ?_⟩
     have j100n := jj_100.up b100n
     refine hK.out _ _ (B2.up j100n.1 HB0.out) (fun _ => ?_)
     clear hK K
     try simp only [Act.put, puA, puB, puC]
     have jj_100 := j100n
     rotate_left
     refine stepAlloc ?_ ?_ ?_
     iterate 2 rfl
     intro m100n x100n hm100n hx100n
     have j100n := jj_100.nG hm100n hx100n
     clear hm100n hx100n
     refine hK.out _ _ (B2.up j100n.1 HB0.out) (fun _ => ?_)
     clear hK K
     try simp only [Act.put, puA, puB, puC]
     have jj_100 := j100n
     obtain ⟨mm1_100, rfl⟩ : ∃ z, z = m100n := ⟨_, rfl⟩
     rotate_left
    |refine atA [true, false, true, false, false, true, false, false] ?_
     refine rdA [1, 4] ?_
     refine AllReadyH.cons (o := oCmv2) rfl (fun K hK => ?_) (AllReadyH.cons (o := oCmv3) rfl (fun K hK => ?_) AllReadyH.nil)
     refine stepCall1 ?_ 90 (.tmp 7) #[93] ?_ (.agg #[.float .f64 a, .float .f64 b, .bool p, .bool q]) ?_ ?_ (enter_canonS _ _) ?_
     iterate 4 rfl
     refine (HA.out _).mono ?_
     rintro o x100n ⟨rfl, b100n⟩
     refine ⟨_, rfl, ?_⟩
     have j100n := jj_100.up b100n
     refine hK.out _ _ (B2.up j100n.1 HB0.out) (fun _ => ?_)
     clear hK K
     try simp only [Act.put, puA, puB, puC]
     have jj_100 := j100n
     rotate_left
     refine stepAlloc ?_ ?_ ?_
     iterate 2 rfl
     intro m100n x100n hm100n hx100n
     have j100n := jj_100.nF hm100n hx100n
     clear hm100n hx100n
     refine hK.out _ _ (B2.up j100n.1 HB0.out) (fun _ => ?_)
     clear hK K
     try simp only [Act.put, puA, puB, puC]
     have jj_100 := j100n
     obtain ⟨mm0_100, rfl⟩ : ∃ z, z = m100n := ⟨_, rfl⟩
     rotate_left
   all_goals first
    |refine atA [true, true, true, true, false, false, false, false] ?_
     refine rdA [4, 5] ?_
     refine AllReadyH.cons (o := oCmv3) rfl (fun K hK => ?_) (AllReadyH.cons (o := oCmv4) rfl (fun K hK => ?_) AllReadyH.nil)
     refine stepAlloc ?_ ?_ ?_
     iterate 2 rfl
     intro m100n x100n hm100n hx100n
     have j100n := jj_100.nF hm100n hx100n
     clear hm100n hx100n
     refine hK.out _ _ (B2.up j100n.1 HB0.out) (fun _ => ?_)
     clear hK K
     try simp only [Act.put, puA, puB, puC]
     have jj_100 := j100n
     obtain ⟨mm0_100, rfl⟩ : ∃ z, z = m100n := ⟨_, rfl⟩
     rotate_left
     refine stepAlloc ?_ ?_ ?_
     iterate 2 rfl
     intro m100n x100n hm100n hx100n
     have j100n := jj_100.nG hm100n hx100n
     clear hm100n hx100n
     refine hK.out _ _ (B2.up j100n.1 HB0.out) (fun _ => ?_)
     clear hK K
     try simp only [Act.put, puA, puB, puC]
     have jj_100 := j100n
     obtain ⟨mm1_100, rfl⟩ : ∃ z, z = m100n := ⟨_, rfl⟩
     rotate_left
    |refine atA [true, true, true, false, true, false, false, false] ?_
     refine rdA [3, 5] ?_
     refine AllReadyH.cons (o := oCmv5) rfl (fun K hK => ?_) (AllReadyH.cons (o := oCmv4) rfl (fun K hK => ?_) AllReadyH.nil)
     refine stepCall1 ?_ 90 (.tmp 9) #[93] ?_ (.agg #[.float .f64 c, .float .f64 d, .bool r, .bool s]) ?_ ?_ (enter_canonS _ _) ?_
     iterate 4 rfl
     refine (HB.out _).mono ?_
     rintro o x100n ⟨rfl, b100n⟩
     refine ⟨_, rfl, ?_⟩
     have j100n := jj_100.up b100n
     refine hK.out _ _ (B2.up j100n.1 HB0.out) (fun _ => ?_)
     clear hK K
     try simp only [Act.put, puA, puB, puC]
     have jj_100 := j100n
     rotate_left
     refine stepAlloc ?_ ?_ ?_
     iterate 2 rfl
     intro m100n x100n hm100n hx100n
     have j100n := jj_100.nG hm100n hx100n
     clear hm100n hx100n
     refine hK.out _ _ (B2.up j100n.1 HB0.out) (fun _ => ?_)
     clear hK K
     try simp only [Act.put, puA, puB, puC]
     have jj_100 := j100n
     obtain ⟨mm1_100, rfl⟩ : ∃ z, z = m100n := ⟨_, rfl⟩
     rotate_left
    |refine atA [true, true, true, false, false, true, false, false] ?_
     refine rdA [3, 4] ?_
     refine AllReadyH.cons (o := oCmv5) rfl (fun K hK => ?_) (AllReadyH.cons (o := oCmv3) rfl (fun K hK => ?_) AllReadyH.nil)
     refine stepCall1 ?_ 90 (.tmp 9) #[93] ?_ (.agg #[.float .f64 c, .float .f64 d, .bool r, .bool s]) ?_ ?_ (enter_canonS _ _) ?_
     iterate 4 rfl
     refine (HB.out _).mono ?_
     rintro o x100n ⟨rfl, b100n⟩
     refine ⟨_, rfl, ?_⟩
     have j100n := jj_100.up b100n
     refine hK.out _ _ (B2.up j100n.1 HB0.out) (fun _ => ?_)
     clear hK K
     try simp only [Act.put, puA, puB, puC]
     have jj_100 := j100n
     rotate_left
     refine stepAlloc ?_ ?_ ?_
     iterate 2 rfl
     intro m100n x100n hm100n hx100n
     have j100n := jj_100.nF hm100n hx100n
     clear hm100n hx100n
     refine hK.out _ _ (B2.up j100n.1 HB0.out) (fun _ => ?_)
     clear hK K
     try simp only [Act.put, puA, puB, puC]
     have jj_100 := j100n
     obtain ⟨mm0_100, rfl⟩ : ∃ z, z = m100n := ⟨_, rfl⟩
     rotate_left
    |refine atA [true, false, true, false, true, true, false, false] ?_
     refine rdA [1] ?_
     refine AllReadyH.cons (o := oCmv2) rfl (fun K hK => ?_) AllReadyH.nil
     refine stepCall1 ?_ 90 (.tmp 7) #[93] ?_ (.agg #[.float .f64 a, .float .f64 b, .bool p, .bool q]) ?_ ?_ (enter_canonS _ _) ?_
     iterate 4 rfl
     refine (HA.out _).mono ?_
     rintro o x100n ⟨rfl, b100n⟩
     refine ⟨_, rfl, ?_⟩
     have j100n := jj_100.up b100n
     refine hK.out _ _ (B2.up j100n.1 HB0.out) (fun _ => ?_)
     clear hK K
     try simp only [Act.put, puA, puB, puC]
     have jj_100 := j100n
   all_goals first
    |refine atA [true, true, true, true, true, false, false, false] ?_
     refine rdA [5] ?_
     refine AllReadyH.cons (o := oCmv4) rfl (fun K hK => ?_) AllReadyH.nil
     refine stepAlloc ?_ ?_ ?_
     iterate 2 rfl
     intro m100n x100n hm100n hx100n
     have j100n := jj_100.nG hm100n hx100n
     clear hm100n hx100n
     refine hK.out _ _ (B2.up j100n.1 HB0.out) (fun _ => ?_)
     clear hK K
     try simp only [Act.put, puA, puB, puC]
     have jj_100 := j100n
     obtain ⟨mm1_100, rfl⟩ : ∃ z, z = m100n := ⟨_, rfl⟩
    |refine atA [true, true, true, true, false, true, false, false] ?_
     refine rdA [4] ?_
     refine AllReadyH.cons (o := oCmv3) rfl (fun K hK => ?_) AllReadyH.nil
     refine stepAlloc ?_ ?_ ?_
     iterate 2 rfl
     intro m100n x100n hm100n hx100n
     have j100n := jj_100.nF hm100n hx100n
     clear hm100n hx100n
     refine hK.out _ _ (B2.up j100n.1 HB0.out) (fun _ => ?_)
     clear hK K
     try simp only [Act.put, puA, puB, puC]
     have jj_100 := j100n
     obtain ⟨mm0_100, rfl⟩ : ∃ z, z = m100n := ⟨_, rfl⟩
    |refine atA [true, true, true, false, true, true, false, false] ?_
     refine rdA [3] ?_
     refine AllReadyH.cons (o := oCmv5) rfl (fun K hK => ?_) AllReadyH.nil
     refine stepCall1 ?_ 90 (.tmp 9) #[93] ?_ (.agg #[.float .f64 c, .float .f64 d, .bool r, .bool s]) ?_ ?_ (enter_canonS _ _) ?_
     iterate 4 rfl
     refine (HB.out _).mono ?_
     rintro o x100n ⟨rfl, b100n⟩
     refine ⟨_, rfl, ?_⟩
     have j100n := jj_100.up b100n
     refine hK.out _ _ (B2.up j100n.1 HB0.out) (fun _ => ?_)
     clear hK K
     try simp only [Act.put, puA, puB, puC]
     have jj_100 := j100n
   all_goals
    refine atA [true, true, true, true, true, true, false, false] ?_
    refine rdA [6] ?_
    refine AllReadyH.cons (o := oCmv6) rfl (fun K hK => ?_) AllReadyH.nil
    refine stepStore ?_ (.tmp 5) (.tmp 8) ?_ mm0_100 u1 v1 e1 e1 ?_ ?_ jj_100.thereF ?_
    iterate 4 rfl
    refine hK.out _ _ (B2.up (jj_100.upF _) HB0.out) (fun _ => ?_)
    clear hK K
    try simp only [Act.put, puA, puB, puC]
   all_goals
    refine atA [true, true, true, true, true, true, true, false] ?_
    refine rdA [7] ?_
    refine AllReadyH.cons (o := oCmv7) rfl (fun K hK => ?_) AllReadyH.nil
    refine stepStore ?_ (.tmp 6) (.tmp 10) ?_ mm1_100 u2 v2 e2 e2 ?_ ?_ (jj_100.thereG _) ?_
    iterate 4 rfl
    refine hK.out _ _ (B2.up (jj_100.fin u1 v1 u2 v2 e1 e1 e2 e2).2.2 HB0.out) (fun _ => ?_)
    clear hK K
    try simp only [Act.put, puA, puB, puC]
   all_goals
    refine atA [true, true, true, true, true, true, true, true] ?_
    refine wpAnyH_done (by kernel_rfl) ?_ _
    refine NoPanic.normal ?_
    go_wp2_with fail
    go_meet
    case rel => exact ⟨mm0_100, mm1_100, rfl, rfl, (jj_100.fin u1 v1 u2 v2 e1 e1 e2 e2).1, (jj_100.fin u1 v1 u2 v2 e1 e1 e2 e2).2.1, (jj_100.fin u1 v1 u2 v2 e1 e1 e2 e2).2.2⟩
 case rest =>
  obtain ⟨m, n, rfl, rfl, sm, sn, U1⟩ := hcut
  have UW : Up w wc := U0.trans U1
  have hT0 : T2 m u1 v1 e1 n u2 v2 e2 wc := ⟨sm, sn⟩
  clear HB0 HA HB U0 U1
  obtain ⟨R1, R2, R3, R4⟩ := hR.out
  clear hR
  cases e1
  ·cases e2
   ·clear h1 h2 R1 R2 R3
    cases q1
    ·clear R4
     go_wp2_with fail
     go_region_held3 (T2 m u1 v1 false n u2 v2 false) (first | assumption | (refine T2.up ?_ hT0; (repeat (first | exact Up.refl _ | assumption | refine Up.drew ?_ | refine Up.alloc ?_ _ | refine Up.trans ?_ ‹Up _ _›)); done)) (first | (go_at_call 91; refine (none_any _).mono ?_; rintro o w5 ⟨rfl, hb5⟩))
     have hT5 : T2 m u1 v1 false n u2 v2 false w5 := by assumption
     go_wp2_with fail
     go_region_held3 (T2 m u1 v1 false n u2 v2 false) (first | assumption | (refine T2.up ?_ hT5; (repeat (first | exact Up.refl _ | assumption | refine Up.drew ?_ | refine Up.alloc ?_ _ | refine Up.trans ?_ ‹Up _ _›)); done)) (first | (go_at_call 91; refine (none_any _).mono ?_; rintro o w6 ⟨rfl, hb6⟩))
     have hT6 : T2 m u1 v1 false n u2 v2 false w6 := by assumption
     have UW6 : Up w w6 := (by repeat (first | exact Up.refl _ | assumption | refine Up.drew ?_ | refine Up.drewN ?_ _ | refine Up.alloc ?_ _ | refine Up.setCell ?_ ?_ _ | exact Nat.le_refl _ | exact Nat.le_add_right _ _ | (dsimp only; omega) | refine Up.trans ?_ ‹Up _ _›))
     go_wp2_with fail
     focus
      refine wp_region_noPanic ?_
      refine wp_region_held_drew (S := T2 m u1 v1 false n u2 v2 false) (by kernel_rfl) ?_ (fun hHeld => ?_)
      ·exact T2.up ((Up.refl _).drew) hT6
      try simp only [Act.put, puA, puB, puC]
      clear hHeld
      all_goals
       refine atA [false, false, false, false, false, false, false, false, false, false, false, false, false] ?_
       refine tkA (i := 0) (oi := oCmv8) (T2.up ((Up.refl w6).drew) hT6) ?_
       try simp only [Act.put, puA, puB, puC]
       refine tkA (i := 1) (oi := oCmv9) (T2.up ((Up.refl w6).drew) hT6) ?_
       try simp only [Act.put, puA, puB, puC]
       refine tkA (i := 2) (oi := oCmv10) (T2.up ((Up.refl w6).drew) hT6) ?_
       try simp only [Act.put, puA, puB, puC]
       refine tkA (i := 3) (oi := oCmv11) (T2.up ((Up.refl w6).drew) hT6) ?_
       try simp only [Act.put, puA, puB, puC]
       refine tkA (i := 5) (oi := oCmv12) (T2.up ((Up.refl w6).drew) hT6) ?_
       try simp only [Act.put, puA, puB, puC]
       refine tkA (i := 6) (oi := oCmv13) (T2.up ((Up.refl w6).drew) hT6) ?_
       try simp only [Act.put, puA, puB, puC]
       refine tkA (i := 7) (oi := oCmv14) (T2.up ((Up.refl w6).drew) hT6) ?_
       try simp only [Act.put, puA, puB, puC]
       refine tkA (i := 8) (oi := oCmv15) (T2.up ((Up.refl w6).drew) hT6) ?_
       try simp only [Act.put, puA, puB, puC]
       refine rdA [4] ?_
       refine AllReadyH.cons (o := oCmv16) rfl (fun K hK => ?_) AllReadyH.nil
       refine wantCall2 ?_ 83 (.tmp 24) (.tmp 26) #[29, 29] ?_ (.float .f64 u1) (.float .f64 u2) ?_ ?_ ?_ (ent_fcmp _ _) ?_
       iterate 5 rfl
       refine (HX.out _).mono ?_
       rintro o y200n ⟨rfl, rfl⟩
       refine ⟨_, rfl, ?_⟩
       refine hK.out _ _ (T2.up ((Up.refl w6).drew) hT6) (fun _ => ?_)
       clear hK K
       try simp only [Act.put, puA, puB, puC]
      all_goals
       refine atA [true, true, true, true, true, true, true, true, true, false, false, false, false] ?_
       refine rdA [9] ?_
       refine AllReadyH.cons (o := oCmv17) rfl (fun K hK => ?_) AllReadyH.nil
       refine wantCall2 ?_ 83 (.tmp 29) (.tmp 31) #[29, 29] ?_ (.float .f64 v1) (.float .f64 v2) ?_ ?_ ?_ (ent_fcmp _ _) ?_
       iterate 5 rfl
       refine (HY.out _).mono ?_
       rintro o y200n ⟨rfl, rfl⟩
       refine ⟨_, rfl, ?_⟩
       refine hK.out _ _ (T2.up ((Up.refl w6).drew) hT6) (fun _ => ?_)
       clear hK K
       try simp only [Act.put, puA, puB, puC]
      all_goals
       refine atA [true, true, true, true, true, true, true, true, true, true, false, false, false] ?_
       refine rdA [10] ?_
       refine AllReadyH.cons (o := oCmv18) rfl (fun K hK => ?_) AllReadyH.nil
       refine stepBuild2i ?_ (.tmp 27) (.tmp 32) ?_ x y ?_ ?_ ?_
       iterate 4 rfl
       intro m200n x200n hm200n hx200n
       obtain ⟨r0, r1, b200n⟩ := R2i_new (u := x) (v := y) hm200n hx200n
       clear hm200n hx200n
       have U200n := ((Up.refl w6).drew).trans b200n
       refine hK.out _ _ (T2.up U200n hT6) (fun _ => ?_)
       clear hK K
       try simp only [Act.put, puA, puB, puC]
       have UU_200 := U200n
       obtain ⟨mm_200, rfl⟩ : ∃ z, z = m200n := ⟨_, rfl⟩
      all_goals
       refine atA [true, true, true, true, true, true, true, true, true, true, true, false, false] ?_
       refine rdA [11] ?_
       refine AllReadyH.cons (o := oCmv19) rfl (fun K hK => ?_) AllReadyH.nil
       refine wantCall1 ?_ 146 (.tmp 33) #[22] ?_ (.slice (some ⟨mm_200, 0, none⟩) 2 2) ?_ ?_ (ent_or _ _) ?_
       iterate 4 rfl
       refine (HOr.out rfl _ _ _ r0 r1).mono ?_
       rintro o y200n ⟨rfl, rfl⟩
       refine ⟨_, rfl, ?_⟩
       refine hK.out _ _ (T2.up UU_200 hT6) (fun _ => ?_)
       clear hK K
       try simp only [Act.put, puA, puB, puC]
      all_goals
       refine atA [true, true, true, true, true, true, true, true, true, true, true, true, false] ?_
       refine rdA [12] ?_
       refine AllReadyH.cons (o := oCmv20) rfl (fun K hK => ?_) AllReadyH.nil
       go_simp
       refine hK.out _ _ (T2.up UU_200 hT6) (fun _ => ?_)
       clear hK K
       try simp only [Act.put, puA, puB, puC]
      all_goals
       refine atA [true, true, true, true, true, true, true, true, true, true, true, true, true] ?_
       refine wpAnyH_done (by kernel_rfl) ?_ _
       refine NoPanic.normal ?_
       go_wp2
       go_ret
       exact ⟨rfl, UW6.trans UU_200⟩
    ·cases q2
     ·clear R4
      go_wp2_with fail
      go_region_held3 (T2 m u1 v1 false n u2 v2 false) (first | assumption | (refine T2.up ?_ hT0; (repeat (first | exact Up.refl _ | assumption | refine Up.drew ?_ | refine Up.alloc ?_ _ | refine Up.trans ?_ ‹Up _ _›)); done)) (first | (go_at_call 91; refine (none_any _).mono ?_; rintro o w5 ⟨rfl, hb5⟩))
      have hT5 : T2 m u1 v1 false n u2 v2 false w5 := by assumption
      go_wp2_with fail
      go_region_held3 (T2 m u1 v1 false n u2 v2 false) (first | assumption | (refine T2.up ?_ hT5; (repeat (first | exact Up.refl _ | assumption | refine Up.drew ?_ | refine Up.alloc ?_ _ | refine Up.trans ?_ ‹Up _ _›)); done)) (first | (go_at_call 91; refine (none_any _).mono ?_; rintro o w6 ⟨rfl, hb6⟩))
      have hT6 : T2 m u1 v1 false n u2 v2 false w6 := by assumption
      have UW6 : Up w w6 := (by repeat (first | exact Up.refl _ | assumption | refine Up.drew ?_ | refine Up.drewN ?_ _ | refine Up.alloc ?_ _ | refine Up.setCell ?_ ?_ _ | exact Nat.le_refl _ | exact Nat.le_add_right _ _ | (dsimp only; omega) | refine Up.trans ?_ ‹Up _ _›))
      go_wp2_with fail
      focus
       refine wp_region_noPanic ?_
       refine wp_region_held_drew (S := T2 m u1 v1 false n u2 v2 false) (by kernel_rfl) ?_ (fun hHeld => ?_)
       ·exact T2.up ((Up.refl _).drew) hT6
       try simp only [Act.put, puA, puB, puC]
       clear hHeld
       all_goals
        refine atA [false, false, false, false, false, false, false, false, false, false, false, false, false] ?_
        refine tkA (i := 0) (oi := oCmv8) (T2.up ((Up.refl w6).drew) hT6) ?_
        try simp only [Act.put, puA, puB, puC]
        refine tkA (i := 1) (oi := oCmv9) (T2.up ((Up.refl w6).drew) hT6) ?_
        try simp only [Act.put, puA, puB, puC]
        refine tkA (i := 2) (oi := oCmv10) (T2.up ((Up.refl w6).drew) hT6) ?_
        try simp only [Act.put, puA, puB, puC]
        refine tkA (i := 3) (oi := oCmv11) (T2.up ((Up.refl w6).drew) hT6) ?_
        try simp only [Act.put, puA, puB, puC]
        refine tkA (i := 5) (oi := oCmv12) (T2.up ((Up.refl w6).drew) hT6) ?_
        try simp only [Act.put, puA, puB, puC]
        refine tkA (i := 6) (oi := oCmv13) (T2.up ((Up.refl w6).drew) hT6) ?_
        try simp only [Act.put, puA, puB, puC]
        refine tkA (i := 7) (oi := oCmv14) (T2.up ((Up.refl w6).drew) hT6) ?_
        try simp only [Act.put, puA, puB, puC]
        refine tkA (i := 8) (oi := oCmv15) (T2.up ((Up.refl w6).drew) hT6) ?_
        try simp only [Act.put, puA, puB, puC]
        refine rdA [4] ?_
        refine AllReadyH.cons (o := oCmv16) rfl (fun K hK => ?_) AllReadyH.nil
        refine wantCall2 ?_ 83 (.tmp 24) (.tmp 26) #[29, 29] ?_ (.float .f64 u1) (.float .f64 u2) ?_ ?_ ?_ (ent_fcmp _ _) ?_
        iterate 5 rfl
        refine (HX.out _).mono ?_
        rintro o y300n ⟨rfl, rfl⟩
        refine ⟨_, rfl, ?_⟩
        refine hK.out _ _ (T2.up ((Up.refl w6).drew) hT6) (fun _ => ?_)
        clear hK K
        try simp only [Act.put, puA, puB, puC]
       all_goals
        refine atA [true, true, true, true, true, true, true, true, true, false, false, false, false] ?_
        refine rdA [9] ?_
        refine AllReadyH.cons (o := oCmv17) rfl (fun K hK => ?_) AllReadyH.nil
        refine wantCall2 ?_ 83 (.tmp 29) (.tmp 31) #[29, 29] ?_ (.float .f64 v1) (.float .f64 v2) ?_ ?_ ?_ (ent_fcmp _ _) ?_
        iterate 5 rfl
        refine (HY.out _).mono ?_
        rintro o y300n ⟨rfl, rfl⟩
        refine ⟨_, rfl, ?_⟩
        refine hK.out _ _ (T2.up ((Up.refl w6).drew) hT6) (fun _ => ?_)
        clear hK K
        try simp only [Act.put, puA, puB, puC]
       all_goals
        refine atA [true, true, true, true, true, true, true, true, true, true, false, false, false] ?_
        refine rdA [10] ?_
        refine AllReadyH.cons (o := oCmv18) rfl (fun K hK => ?_) AllReadyH.nil
        refine stepBuild2i ?_ (.tmp 27) (.tmp 32) ?_ x y ?_ ?_ ?_
        iterate 4 rfl
        intro m300n x300n hm300n hx300n
        obtain ⟨r0, r1, b300n⟩ := R2i_new (u := x) (v := y) hm300n hx300n
        clear hm300n hx300n
        have U300n := ((Up.refl w6).drew).trans b300n
        refine hK.out _ _ (T2.up U300n hT6) (fun _ => ?_)
        clear hK K
        try simp only [Act.put, puA, puB, puC]
        have UU_300 := U300n
        obtain ⟨mm_300, rfl⟩ : ∃ z, z = m300n := ⟨_, rfl⟩
       all_goals
        refine atA [true, true, true, true, true, true, true, true, true, true, true, false, false] ?_
        refine rdA [11] ?_
        refine AllReadyH.cons (o := oCmv19) rfl (fun K hK => ?_) AllReadyH.nil
        refine wantCall1 ?_ 146 (.tmp 33) #[22] ?_ (.slice (some ⟨mm_300, 0, none⟩) 2 2) ?_ ?_ (ent_or _ _) ?_
        iterate 4 rfl
        refine (HOr.out rfl _ _ _ r0 r1).mono ?_
        rintro o y300n ⟨rfl, rfl⟩
        refine ⟨_, rfl, ?_⟩
        refine hK.out _ _ (T2.up UU_300 hT6) (fun _ => ?_)
        clear hK K
        try simp only [Act.put, puA, puB, puC]
       all_goals
        refine atA [true, true, true, true, true, true, true, true, true, true, true, true, false] ?_
        refine rdA [12] ?_
        refine AllReadyH.cons (o := oCmv20) rfl (fun K hK => ?_) AllReadyH.nil
        go_simp
        refine hK.out _ _ (T2.up UU_300 hT6) (fun _ => ?_)
        clear hK K
        try simp only [Act.put, puA, puB, puC]
       all_goals
        refine atA [true, true, true, true, true, true, true, true, true, true, true, true, true] ?_
        refine wpAnyH_done (by kernel_rfl) ?_ _
        refine NoPanic.normal ?_
        go_wp2
        go_ret
        exact ⟨rfl, UW6.trans UU_300⟩
     ·have hR := R4 rfl
      subst hR
      clear R4
      go_wp2
      go_ret
      exact ⟨rfl, UW⟩
   ·obtain ⟨rfl, rfl⟩ := h2 rfl
    have hR := R3 rfl
    subst hR
    clear h1 h2 R1 R2 R3 R4 HX HY HOr
    cases q1
    ·skip
     go_wp2_with fail
     go_region_held3 (T2 m u1 v1 false n 0 0 true) (first | assumption | (refine T2.up ?_ hT0; (repeat (first | exact Up.refl _ | assumption | refine Up.drew ?_ | refine Up.alloc ?_ _ | refine Up.trans ?_ ‹Up _ _›)); done)) (first | (go_at_call 91; refine (none_any _).mono ?_; rintro o w5 ⟨rfl, hb5⟩))
     have hT5 : T2 m u1 v1 false n 0 0 true w5 := by assumption
     go_wp2_with fail
     go_region_held3 (T2 m u1 v1 false n 0 0 true) (first | assumption | (refine T2.up ?_ hT5; (repeat (first | exact Up.refl _ | assumption | refine Up.drew ?_ | refine Up.alloc ?_ _ | refine Up.trans ?_ ‹Up _ _›)); done)) (first | (go_at_call 91; refine (none_any _).mono ?_; rintro o w6 ⟨rfl, hb6⟩))
     all_goals go_wp2
     all_goals go_ret
     all_goals exact ⟨rfl, (by repeat (first | exact Up.refl _ | assumption | refine Up.drew ?_ | refine Up.drewN ?_ _ | refine Up.alloc ?_ _ | refine Up.setCell ?_ ?_ _ | exact Nat.le_refl _ | exact Nat.le_add_right _ _ | (dsimp only; omega) | refine Up.trans ?_ ‹Up _ _›))⟩
    ·cases q2
     all_goals
      go_wp2_with fail
      go_region_held3 (T2 m u1 v1 false n 0 0 true) (first | assumption | (refine T2.up ?_ hT0; (repeat (first | exact Up.refl _ | assumption | refine Up.drew ?_ | refine Up.alloc ?_ _ | refine Up.trans ?_ ‹Up _ _›)); done)) (first | (go_at_call 91; refine (none_any _).mono ?_; rintro o w5 ⟨rfl, hb5⟩))
      have hT5 : T2 m u1 v1 false n 0 0 true w5 := by assumption
      go_wp2_with fail
      go_region_held3 (T2 m u1 v1 false n 0 0 true) (first | assumption | (refine T2.up ?_ hT5; (repeat (first | exact Up.refl _ | assumption | refine Up.drew ?_ | refine Up.alloc ?_ _ | refine Up.trans ?_ ‹Up _ _›)); done)) (first | (go_at_call 91; refine (none_any _).mono ?_; rintro o w6 ⟨rfl, hb6⟩))
      all_goals go_wp2
      all_goals go_ret
      all_goals exact ⟨rfl, (by repeat (first | exact Up.refl _ | assumption | refine Up.drew ?_ | refine Up.drewN ?_ _ | refine Up.alloc ?_ _ | refine Up.setCell ?_ ?_ _ | exact Nat.le_refl _ | exact Nat.le_add_right _ _ | (dsimp only; omega) | refine Up.trans ?_ ‹Up _ _›))⟩
  ·obtain ⟨rfl, rfl⟩ := h1 rfl
   cases e2
   ·have hR := R2 rfl
    subst hR
    clear h1 h2 R1 R2 R3 R4 HX HY HOr
    cases q1
    ·skip
     go_wp2_with fail
     go_region_held3 (T2 m 0 0 true n u2 v2 false) (first | assumption | (refine T2.up ?_ hT0; (repeat (first | exact Up.refl _ | assumption | refine Up.drew ?_ | refine Up.alloc ?_ _ | refine Up.trans ?_ ‹Up _ _›)); done)) (first | (go_at_call 91; refine (none_any _).mono ?_; rintro o w5 ⟨rfl, hb5⟩))
     all_goals go_wp2
     all_goals go_ret
     all_goals exact ⟨rfl, (by repeat (first | exact Up.refl _ | assumption | refine Up.drew ?_ | refine Up.drewN ?_ _ | refine Up.alloc ?_ _ | refine Up.setCell ?_ ?_ _ | exact Nat.le_refl _ | exact Nat.le_add_right _ _ | (dsimp only; omega) | refine Up.trans ?_ ‹Up _ _›))⟩
    ·cases q2
     all_goals
      go_wp2_with fail
      go_region_held3 (T2 m 0 0 true n u2 v2 false) (first | assumption | (refine T2.up ?_ hT0; (repeat (first | exact Up.refl _ | assumption | refine Up.drew ?_ | refine Up.alloc ?_ _ | refine Up.trans ?_ ‹Up _ _›)); done)) (first | (go_at_call 91; refine (none_any _).mono ?_; rintro o w5 ⟨rfl, hb5⟩))
      all_goals go_wp2
      all_goals go_ret
      all_goals exact ⟨rfl, (by repeat (first | exact Up.refl _ | assumption | refine Up.drew ?_ | refine Up.drewN ?_ _ | refine Up.alloc ?_ _ | refine Up.setCell ?_ ?_ _ | exact Nat.le_refl _ | exact Nat.le_add_right _ _ | (dsimp only; omega) | refine Up.trans ?_ ‹Up _ _›))⟩
   ·obtain ⟨rfl, rfl⟩ := h2 rfl
    have hR := R1 rfl
    subst hR
    clear h1 h2 R1 R2 R3 R4 HX HY HOr
    clear g1 g2
    go_wp2
    go_ret
    exact ⟨rfl, UW⟩
theorem cmp_at {u1 v1 u2 v2 : Nat} {e1 e2 : Bool} (f1 : Fl.IsForm u1 v1 e1) (f2 : Fl.IsForm u2 v2 e2) (a b c d : Nat) (p q r s : Bool) (HA : Hid (∀ w, Calls Tryz.prog 90 #[.agg #[.float .f64 a, .float .f64 b, .bool p, .bool q]] w fun o w' => o = .returned (.agg #[.float .f64 u1, .float .f64 v1, .bool e1, .bool e1]) ∧ Up w w')) (HB : Hid (∀ w, Calls Tryz.prog 90 #[.agg #[.float .f64 c, .float .f64 d, .bool r, .bool s]] w fun o w' => o = .returned (.agg #[.float .f64 u2, .float .f64 v2, .bool e2, .bool e2]) ∧ Up w w')) (w : World) :
    Calls Tryz.prog 121 #[.agg #[.float .f64 a, .float .f64 b, .bool p, .bool q], .agg #[.float .f64 c, .float .f64 d, .bool r, .bool s]] w fun o w' => o = .returned (.int .i64 (Fl.fc u1 v1 e1 u2 v2 e2)) ∧ Up w w' := by
 have n1 := Fl.form_nan f1
 have n2 := Fl.form_nan f2
 refine cmp_core a b c d u1 v1 u2 v2 (Fl.cmpc u1 u2) (Fl.cmpc v1 v2) _ p q r s e1 e2 _ _ f1.2.2.1 f2.2.2.1 rfl rfl HA HB (fun w => cmp_any u1 u2 f1.1 f2.1 w) (fun w => cmp_any v1 v2 f1.2.1 f2.2.1 w) ?_ ?_ w
 ·intro he m k W h0 h1
  obtain ⟨rfl, rfl⟩ : e1 = false ∧ e2 = false := by simpa using he
  have e0 : Fl.fc u1 v1 false u2 v2 false = if Fl.code u1 < Fl.code u2 then -1 else if Fl.code u2 < Fl.code u1 then 1 else if Fl.code v1 < Fl.code v2 then -1 else if Fl.code v2 < Fl.code v1 then 1 else 0 := rfl
  rw [e0]
  rcases Fl.cmpc_cases u1 u2 with ⟨e, l⟩ | ⟨e, l⟩ | ⟨e, l⟩
  ·rw [e] at h0; rw [if_pos l]; exact or_first m k (-1) _ (by decide) W h0 h1
  ·rw [e] at h0; rw [if_neg (by omega), if_neg (by omega)]
   rcases Fl.cmpc_cases v1 v2 with ⟨e', l'⟩ | ⟨e', l'⟩ | ⟨e', l'⟩
   ·rw [e'] at h1; rw [if_pos l']; exact or_second m k (-1) (by decide) W h0 h1
   ·rw [e'] at h1; rw [if_neg (by omega), if_neg (by omega)]; exact or_none m k W h0 h1
   ·rw [e'] at h1; rw [if_neg (by omega), if_pos l']; exact or_second m k 1 (by decide) W h0 h1
  ·rw [e] at h0; rw [if_neg (by omega), if_pos l]; exact or_first m k 1 _ (by decide) W h0 h1
 ·refine ⟨?_, ?_, ?_, ?_⟩
  ·intro h; obtain ⟨rfl, rfl⟩ : e1 = true ∧ e2 = true := by simpa using h
   rfl
  ·intro h; obtain ⟨rfl, rfl⟩ : e1 = true ∧ e2 = false := by simpa using h
   rfl
  ·intro h; obtain ⟨rfl, rfl⟩ : e1 = false ∧ e2 = true := by simpa using h
   rfl
  ·intro h
   rw [Fl.ord_code u1 u2 f1.1 f2.1 n1.1 n2.1, Fl.ord_code v1 v2 f1.2.1 f2.2.1 n1.2.1 n2.2.1] at h
   simp only [Bool.and_eq_true, decide_eq_true_eq, Bool.not_eq_true'] at h
   obtain ⟨⟨c1, c2⟩, rfl, rfl⟩ := h
   unfold Fl.fc; simp [c1, c2]
end Go.Proofs.YthjfkmjeppdcnaaGreat
namespace Go.Proofs.YthjfkmjeppdcnaaGreat
abbrev oJrv0 : Oper := { dst := some 12, op := .fieldAddr 132 (.tmp 2) 1, type := 0, pos := "ref.go:88", after := #[], guard := none }
abbrev oJrv1 : Oper := { dst := some 13, op := .load 128 (.tmp 12), type := 128, pos := "ref.go:88", after := #[⟨0, .data⟩], guard := none }
abbrev oJrv2 : Oper := { dst := some 15, op := .fieldAddr 132 (.tmp 3) 0, type := 0, pos := "ref.go:88", after := #[], guard := none }
abbrev oJrv3 : Oper := { dst := some 16, op := .load 128 (.tmp 15), type := 128, pos := "ref.go:88", after := #[⟨3, .data⟩], guard := none }
abbrev oJrv4 : Oper := { dst := some 14, op := .call { callee := Callee.value (.func 115), args := #[.tmp 13], argTypes := #[128] }, type := 128, pos := "ref.go:88", after := #[⟨1, .data⟩], guard := none }
abbrev oJrv5 : Oper := { dst := some 17, op := .binOp .lss 128 (.tmp 14) (.tmp 16) 128, type := 4, pos := "ref.go:88", after := #[⟨2, .data⟩, ⟨4, .data⟩], guard := none }
abbrev oJrv6 : Oper := { dst := some 18, op := .move (.tmp 17), type := 4, pos := "ref.go:88", after := #[⟨5, .data⟩, ⟨2, .chain⟩], guard := none }
abbrev oJrv7 : Oper := { dst := some 19, op := .fieldAddr 132 (.tmp 3) 1, type := 0, pos := "ref.go:88", after := #[⟨6, .guard⟩], guard := some (6, false) }
abbrev oJrv8 : Oper := { dst := some 20, op := .load 128 (.tmp 19), type := 128, pos := "ref.go:88", after := #[⟨7, .data⟩, ⟨6, .guard⟩], guard := some (6, false) }
abbrev oJrv9 : Oper := { dst := some 21, op := .call { callee := Callee.value (.func 115), args := #[.tmp 20], argTypes := #[128] }, type := 128, pos := "ref.go:88", after := #[⟨8, .data⟩, ⟨6, .chain⟩, ⟨6, .guard⟩], guard := some (6, false) }
abbrev oJrv10 : Oper := { dst := some 22, op := .fieldAddr 132 (.tmp 2) 0, type := 0, pos := "ref.go:88", after := #[⟨6, .guard⟩], guard := some (6, false) }
abbrev oJrv11 : Oper := { dst := some 23, op := .load 128 (.tmp 22), type := 128, pos := "ref.go:88", after := #[⟨10, .data⟩, ⟨6, .guard⟩], guard := some (6, false) }
abbrev oJrv12 : Oper := { dst := some 24, op := .binOp .lss 128 (.tmp 21) (.tmp 23) 128, type := 4, pos := "ref.go:88", after := #[⟨9, .data⟩, ⟨11, .data⟩, ⟨6, .guard⟩], guard := some (6, false) }
abbrev oJrv13 : Oper := { dst := some 25, op := .pick (.tmp 18) (.const (.bool true)) (.tmp 24), type := 4, pos := "ref.go:88", after := #[⟨6, .data⟩, ⟨12, .data⟩], guard := none }
set_option linter.unusedSimpArgs false
open Go.RowKit
set_option linter.unusedVariables false
abbrev D3 (x l1 h1 y l2 h2 k : Nat) (w : World) : Prop := RgAt x l1 h1 w ∧ RgAt y l2 h2 w ∧ RgAt k 0 0 w
theorem D3.up {x l1 h1 y l2 h2 k : Nat} {W w' : World} (u : Up W w') (h : D3 x l1 h1 y l2 h2 k W) : D3 x l1 h1 y l2 h2 k w' := ⟨RgAt.up u h.1, RgAt.up u h.2.1, RgAt.up u h.2.2⟩
theorem ent_next (args : Array Value) (w : World) : (callFunc 115 args).run Tryz.prog w = .ok (.enter 115 args) w := by kernel_rfl
def Fl.rn (u : Nat) : Nat := if Fl.isCode (u + 1) = true then u + 1 else u + 2
set_option maxHeartbeats 400000 in
set_option maxRecDepth 20000 in
theorem rnext_any (u : Nat) (hu : u ≤ 18442240474082181120) (w : World) :
    Calls Tryz.prog 115 #[.int .u64 (u : Nat)] w fun o w' => o = .returned (.int .u64 (Fl.rn u : Nat)) ∧ Up w w' := by
 have HI := hid (fun w => isCode_any (u + 1) (by unfold Fl.W; omega) w)
 unfold Fl.rn
 cases h : Fl.isCode (u + 1)
 ·rw [h] at HI
  go_enter Tryz.func115, Tryz.ntmps115
  go_wp2_with (go_at_call 114; refine (HI.out _).mono ?_; rintro o w' ⟨rfl, rfl⟩)
  go_ret
  exact ⟨ret_i (by simp), Up.refl _⟩
 ·rw [h] at HI
  go_enter Tryz.func115, Tryz.ntmps115
  go_wp2_with (go_at_call 114; refine (HI.out _).mono ?_; rintro o w' ⟨rfl, rfl⟩)
  go_ret
  exact ⟨ret_i (by simp), Up.refl _⟩
set_option maxHeartbeats 2000000 in
set_option maxRecDepth 20000 in
theorem rJoin_t (L1 H1 L2 H2 N1 N2 : Nat) (w1 : Fl.W L1) (w2 : Fl.W H1) (w3 : Fl.W L2) (w4 : Fl.W H2) (w5 : Fl.W N1) (w6 : Fl.W N2) (e2 : Bool) (HE1 : Hid (∀ w, Calls Tryz.prog 75 #[.agg #[.int .u64 (L1 : Nat), .int .u64 (H1 : Nat)]] w fun o w' => o = .returned (.bool true) ∧ Up w w')) (HE2 : Hid (∀ w, Calls Tryz.prog 75 #[.agg #[.int .u64 (L2 : Nat), .int .u64 (H2 : Nat)]] w fun o w' => o = .returned (.bool e2) ∧ Up w w')) (HN1 : Hid (∀ w, Calls Tryz.prog 115 #[.int .u64 (H1 : Nat)] w fun o w' => o = .returned (.int .u64 (N1 : Nat)) ∧ Up w w')) (HN2 : Hid (∀ w, Calls Tryz.prog 115 #[.int .u64 (H2 : Nat)] w fun o w' => o = .returned (.int .u64 (N2 : Nat)) ∧ Up w w')) (w : World) :
    Calls Tryz.prog 76 #[.agg #[.int .u64 (L1 : Nat), .int .u64 (H1 : Nat)], .agg #[.int .u64 (L2 : Nat), .int .u64 (H2 : Nat)]] w fun o w' => o = .returned (.tuple #[.agg #[.int .u64 (L2 : Nat), .int .u64 (H2 : Nat)], .bool true]) ∧ Up w w' := by
 clear w1 w2 w3 w4 w5 w6
 go_enter Tryz.func76, Tryz.ntmps76
 go_wp2_with (first | (go_at_call_of 75 (Value.int IntKind.u64 (H1 : Nat)); refine (HE1.out _).mono ?_; rintro o w5 ⟨rfl, hb5⟩; have d5 : D3 w.heap.size L1 H1 (w.heap.size + 1) L2 H2 (w.heap.size + 2) w5 := D3.up hb5 (by first | assumption | (simp [D3, RgAt, go_sem]; done))) | (go_at_call_of 75 (Value.int IntKind.u64 (H2 : Nat)); refine (HE2.out _).mono ?_; rintro o w6 ⟨rfl, hb6⟩; have d6 : D3 w.heap.size L1 H1 (w.heap.size + 1) L2 H2 (w.heap.size + 2) w6 := D3.up hb6 (by first | assumption | (simp [D3, RgAt, go_sem]; done))) | (go_at_call 113; refine (rnone_any _).mono ?_; rintro o w7 ⟨rfl, hb7⟩; have d7 : D3 w.heap.size L1 H1 (w.heap.size + 1) L2 H2 (w.heap.size + 2) w7 := D3.up hb7 (by assumption)))
 all_goals exact bodyPost_ret (v := .tuple #[.agg #[.int .u64 (L2 : Nat), .int .u64 (H2 : Nat)], .bool true]) (by simp [results, Tryz.results76, go_sem, *]) rfl ⟨rfl, (by repeat (first | exact Up.refl _ | assumption | refine Up.drew ?_ | refine Up.drewN ?_ _ | refine Up.alloc ?_ _ | refine Up.setCell ?_ ?_ _ | exact Nat.le_refl _ | exact Nat.le_add_right _ _ | (dsimp only; omega) | refine Up.trans ?_ ‹Up _ _›))⟩
set_option maxHeartbeats 2000000 in
set_option maxRecDepth 20000 in
theorem rJoin_ft (L1 H1 L2 H2 N1 N2 : Nat) (w1 : Fl.W L1) (w2 : Fl.W H1) (w3 : Fl.W L2) (w4 : Fl.W H2) (w5 : Fl.W N1) (w6 : Fl.W N2)  (HE1 : Hid (∀ w, Calls Tryz.prog 75 #[.agg #[.int .u64 (L1 : Nat), .int .u64 (H1 : Nat)]] w fun o w' => o = .returned (.bool false) ∧ Up w w')) (HE2 : Hid (∀ w, Calls Tryz.prog 75 #[.agg #[.int .u64 (L2 : Nat), .int .u64 (H2 : Nat)]] w fun o w' => o = .returned (.bool true) ∧ Up w w')) (HN1 : Hid (∀ w, Calls Tryz.prog 115 #[.int .u64 (H1 : Nat)] w fun o w' => o = .returned (.int .u64 (N1 : Nat)) ∧ Up w w')) (HN2 : Hid (∀ w, Calls Tryz.prog 115 #[.int .u64 (H2 : Nat)] w fun o w' => o = .returned (.int .u64 (N2 : Nat)) ∧ Up w w')) (w : World) :
    Calls Tryz.prog 76 #[.agg #[.int .u64 (L1 : Nat), .int .u64 (H1 : Nat)], .agg #[.int .u64 (L2 : Nat), .int .u64 (H2 : Nat)]] w fun o w' => o = .returned (.tuple #[.agg #[.int .u64 (L1 : Nat), .int .u64 (H1 : Nat)], .bool true]) ∧ Up w w' := by
 clear w1 w2 w3 w4 w5 w6
 go_enter Tryz.func76, Tryz.ntmps76
 go_wp2_with (first | (go_at_call_of 75 (Value.int IntKind.u64 (H1 : Nat)); refine (HE1.out _).mono ?_; rintro o w5 ⟨rfl, hb5⟩; have d5 : D3 w.heap.size L1 H1 (w.heap.size + 1) L2 H2 (w.heap.size + 2) w5 := D3.up hb5 (by first | assumption | (simp [D3, RgAt, go_sem]; done))) | (go_at_call_of 75 (Value.int IntKind.u64 (H2 : Nat)); refine (HE2.out _).mono ?_; rintro o w6 ⟨rfl, hb6⟩; have d6 : D3 w.heap.size L1 H1 (w.heap.size + 1) L2 H2 (w.heap.size + 2) w6 := D3.up hb6 (by first | assumption | (simp [D3, RgAt, go_sem]; done))) | (go_at_call 113; refine (rnone_any _).mono ?_; rintro o w7 ⟨rfl, hb7⟩; have d7 : D3 w.heap.size L1 H1 (w.heap.size + 1) L2 H2 (w.heap.size + 2) w7 := D3.up hb7 (by assumption)))
 all_goals exact bodyPost_ret (v := .tuple #[.agg #[.int .u64 (L1 : Nat), .int .u64 (H1 : Nat)], .bool true]) (by simp [results, Tryz.results76, go_sem, *]) rfl ⟨rfl, (by repeat (first | exact Up.refl _ | assumption | refine Up.drew ?_ | refine Up.drewN ?_ _ | refine Up.alloc ?_ _ | refine Up.setCell ?_ ?_ _ | exact Nat.le_refl _ | exact Nat.le_add_right _ _ | (dsimp only; omega) | refine Up.trans ?_ ‹Up _ _›))⟩
set_option maxHeartbeats 2000000 in
set_option maxRecDepth 20000 in
theorem rJoin_g1 (L1 H1 L2 H2 N1 N2 : Nat) (w1 : Fl.W L1) (w2 : Fl.W H1) (w3 : Fl.W L2) (w4 : Fl.W H2) (w5 : Fl.W N1) (w6 : Fl.W N2) (h1 : N1 < L2) (HE1 : Hid (∀ w, Calls Tryz.prog 75 #[.agg #[.int .u64 (L1 : Nat), .int .u64 (H1 : Nat)]] w fun o w' => o = .returned (.bool false) ∧ Up w w')) (HE2 : Hid (∀ w, Calls Tryz.prog 75 #[.agg #[.int .u64 (L2 : Nat), .int .u64 (H2 : Nat)]] w fun o w' => o = .returned (.bool false) ∧ Up w w')) (HN1 : Hid (∀ w, Calls Tryz.prog 115 #[.int .u64 (H1 : Nat)] w fun o w' => o = .returned (.int .u64 (N1 : Nat)) ∧ Up w w')) (HN2 : Hid (∀ w, Calls Tryz.prog 115 #[.int .u64 (H2 : Nat)] w fun o w' => o = .returned (.int .u64 (N2 : Nat)) ∧ Up w w')) (w : World) :
    Calls Tryz.prog 76 #[.agg #[.int .u64 (L1 : Nat), .int .u64 (H1 : Nat)], .agg #[.int .u64 (L2 : Nat), .int .u64 (H2 : Nat)]] w fun o w' => o = .returned (.tuple #[.agg #[.int .u64 1, .int .u64 0], .bool false]) ∧ Up w w' := by
 have aN1L2 : decide (N1 < L2) = true := by simp; omega
 have bN1L2 : decide ((N1 : Int) < (L2 : Int)) = true := by simp; omega
 clear w1 w2 w3 w4 w5 w6
 go_enter Tryz.func76, Tryz.ntmps76
 go_upto_region 5 with (first | (go_at_call_of 75 (Value.int IntKind.u64 (H1 : Nat)); refine (HE1.out _).mono ?_; rintro o w5 ⟨rfl, hb5⟩; have d5 : D3 w.heap.size L1 H1 (w.heap.size + 1) L2 H2 (w.heap.size + 2) w5 := D3.up hb5 (by first | assumption | (simp [D3, RgAt, go_sem]; done))) | (go_at_call_of 75 (Value.int IntKind.u64 (H2 : Nat)); refine (HE2.out _).mono ?_; rintro o w6 ⟨rfl, hb6⟩; have d6 : D3 w.heap.size L1 H1 (w.heap.size + 1) L2 H2 (w.heap.size + 2) w6 := D3.up hb6 (by first | assumption | (simp [D3, RgAt, go_sem]; done))) | (go_at_call 113; refine (rnone_any _).mono ?_; rintro o w7 ⟨rfl, hb7⟩; have d7 : D3 w.heap.size L1 H1 (w.heap.size + 1) L2 H2 (w.heap.size + 2) w7 := D3.up hb7 (by assumption)))
 have UB : Up w w6 := (by repeat (first | exact Up.refl _ | assumption | refine Up.drew ?_ | refine Up.drewN ?_ _ | refine Up.alloc ?_ _ | refine Up.setCell ?_ ?_ _ | exact Nat.le_refl _ | exact Nat.le_add_right _ _ | (dsimp only; omega) | refine Up.trans ?_ ‹Up _ _›))
 have hS : D3 w.heap.size L1 H1 (w.heap.size + 1) L2 H2 (w.heap.size + 2) w6 := by assumption
 clear d5 d6 hb5 hb6
 refine wp_region_noPanic ?_
 refine wp_region_held_drew (S := D3 w.heap.size L1 H1 (w.heap.size + 1) L2 H2 (w.heap.size + 2)) (by kernel_rfl) ?_ (fun hHeld => ?_)
 ·exact D3.up ((Up.refl _).drew) hS
 try simp only [Act.put, puA, puB, puC]
 clear hHeld
 refine tkA (i := 0) (oi := oJrv0) (D3.up ((Up.refl w6).drew) hS) ?_
 try simp only [Act.put, puA, puB, puC]
 refine tkA (i := 1) (oi := oJrv1) (D3.up ((Up.refl w6).drew) hS) ?_
 try simp only [Act.put, puA, puB, puC]
 refine tkA (i := 3) (oi := oJrv2) (D3.up ((Up.refl w6).drew) hS) ?_
 try simp only [Act.put, puA, puB, puC]
 refine tkA (i := 4) (oi := oJrv3) (D3.up ((Up.refl w6).drew) hS) ?_
 try simp only [Act.put, puA, puB, puC]
 refine rdB 2 oJrv4 fun K hK => ?_
 refine wantCall1 ?_ 115 (.tmp 13) #[128] ?_ (.int .u64 (H1 : Nat)) ?_ ?_ (ent_next _ _) ?_
 iterate 4 rfl
 refine (HN1.out _).mono ?_
 rintro o x5 ⟨rfl, b5⟩
 refine ⟨_, rfl, ?_⟩
 have U5 := ((Up.refl w6).drew).trans b5
 refine hK.out _ _ (D3.up U5 hS) (fun _ => ?_)
 clear hK K
 try simp only [Act.put, puA, puB, puC]
 refine tkA (i := 5) (oi := oJrv5) (D3.up U5 hS) ?_
 try simp only [Act.put, puA, puB, puC]
 refine tkA (i := 6) (oi := oJrv6) (D3.up U5 hS) ?_
 try simp only [Act.put, puA, puB, puC]
 refine wpAnyH_take (i := 7) (oi := oJrv7) (v := undef) rfl (by kernel_rfl) (by kernel_rfl) (by kernel_rfl) (fun _ _ _ h => h) (Or.inr ⟨by rfl, rfl⟩) (D3.up U5 hS) ?_
 try simp only [Act.put, puA, puB, puC]
 refine wpAnyH_take (i := 8) (oi := oJrv8) (v := undef) rfl (by kernel_rfl) (by kernel_rfl) (by kernel_rfl) (fun _ _ _ h => h) (Or.inr ⟨by rfl, rfl⟩) (D3.up U5 hS) ?_
 try simp only [Act.put, puA, puB, puC]
 refine wpAnyH_take (i := 9) (oi := oJrv9) (v := undef) rfl (by kernel_rfl) (by kernel_rfl) (by kernel_rfl) (fun _ _ _ h => h) (Or.inr ⟨by rfl, rfl⟩) (D3.up U5 hS) ?_
 try simp only [Act.put, puA, puB, puC]
 refine wpAnyH_take (i := 10) (oi := oJrv10) (v := undef) rfl (by kernel_rfl) (by kernel_rfl) (by kernel_rfl) (fun _ _ _ h => h) (Or.inr ⟨by rfl, rfl⟩) (D3.up U5 hS) ?_
 try simp only [Act.put, puA, puB, puC]
 refine wpAnyH_take (i := 11) (oi := oJrv11) (v := undef) rfl (by kernel_rfl) (by kernel_rfl) (by kernel_rfl) (fun _ _ _ h => h) (Or.inr ⟨by rfl, rfl⟩) (D3.up U5 hS) ?_
 try simp only [Act.put, puA, puB, puC]
 refine wpAnyH_take (i := 12) (oi := oJrv12) (v := undef) rfl (by kernel_rfl) (by kernel_rfl) (by kernel_rfl) (fun _ _ _ h => h) (Or.inr ⟨by rfl, rfl⟩) (D3.up U5 hS) ?_
 try simp only [Act.put, puA, puB, puC]
 refine tkA (i := 13) (oi := oJrv13) (D3.up U5 hS) ?_
 try simp only [Act.put, puA, puB, puC]
 refine wpAnyH_done (by kernel_rfl) ?_ _
 refine NoPanic.normal ?_
 have UX : Up w x5 := UB.trans U5
 have hX : D3 w.heap.size L1 H1 (w.heap.size + 1) L2 H2 (w.heap.size + 2) x5 := D3.up U5 hS
 generalize x5 = wx at UX hX ⊢
 go_wp2_with (first | (go_at_call_of 75 (Value.int IntKind.u64 (H1 : Nat)); refine (HE1.out _).mono ?_; rintro o w5 ⟨rfl, hb5⟩; have d5 : D3 w.heap.size L1 H1 (w.heap.size + 1) L2 H2 (w.heap.size + 2) w5 := D3.up hb5 (by first | assumption | (simp [D3, RgAt, go_sem]; done))) | (go_at_call_of 75 (Value.int IntKind.u64 (H2 : Nat)); refine (HE2.out _).mono ?_; rintro o w6 ⟨rfl, hb6⟩; have d6 : D3 w.heap.size L1 H1 (w.heap.size + 1) L2 H2 (w.heap.size + 2) w6 := D3.up hb6 (by first | assumption | (simp [D3, RgAt, go_sem]; done))) | (go_at_call 113; refine (rnone_any _).mono ?_; rintro o w7 ⟨rfl, hb7⟩; have d7 : D3 w.heap.size L1 H1 (w.heap.size + 1) L2 H2 (w.heap.size + 2) w7 := D3.up hb7 (by assumption)))
 all_goals exact bodyPost_ret (v := .tuple #[.agg #[.int .u64 1, .int .u64 0], .bool false]) (by simp [results, Tryz.results76, go_sem, *]) rfl ⟨rfl, (by repeat (first | exact Up.refl _ | assumption | refine Up.drew ?_ | refine Up.drewN ?_ _ | refine Up.alloc ?_ _ | refine Up.setCell ?_ ?_ _ | exact Nat.le_refl _ | exact Nat.le_add_right _ _ | (dsimp only; omega) | refine Up.trans ?_ ‹Up _ _›))⟩
set_option maxHeartbeats 2000000 in
set_option maxRecDepth 20000 in
theorem rJoin_g2 (L1 H1 L2 H2 N1 N2 : Nat) (w1 : Fl.W L1) (w2 : Fl.W H1) (w3 : Fl.W L2) (w4 : Fl.W H2) (w5 : Fl.W N1) (w6 : Fl.W N2) (h1 : ¬ N1 < L2) (h2 : N2 < L1) (HE1 : Hid (∀ w, Calls Tryz.prog 75 #[.agg #[.int .u64 (L1 : Nat), .int .u64 (H1 : Nat)]] w fun o w' => o = .returned (.bool false) ∧ Up w w')) (HE2 : Hid (∀ w, Calls Tryz.prog 75 #[.agg #[.int .u64 (L2 : Nat), .int .u64 (H2 : Nat)]] w fun o w' => o = .returned (.bool false) ∧ Up w w')) (HN1 : Hid (∀ w, Calls Tryz.prog 115 #[.int .u64 (H1 : Nat)] w fun o w' => o = .returned (.int .u64 (N1 : Nat)) ∧ Up w w')) (HN2 : Hid (∀ w, Calls Tryz.prog 115 #[.int .u64 (H2 : Nat)] w fun o w' => o = .returned (.int .u64 (N2 : Nat)) ∧ Up w w')) (w : World) :
    Calls Tryz.prog 76 #[.agg #[.int .u64 (L1 : Nat), .int .u64 (H1 : Nat)], .agg #[.int .u64 (L2 : Nat), .int .u64 (H2 : Nat)]] w fun o w' => o = .returned (.tuple #[.agg #[.int .u64 1, .int .u64 0], .bool false]) ∧ Up w w' := by
 have aN1L2 : decide (N1 < L2) = false := by simp; omega
 have bN1L2 : decide ((N1 : Int) < (L2 : Int)) = false := by simp; omega
 have aN2L1 : decide (N2 < L1) = true := by simp; omega
 have bN2L1 : decide ((N2 : Int) < (L1 : Int)) = true := by simp; omega
 clear w1 w2 w3 w4 w5 w6
 go_enter Tryz.func76, Tryz.ntmps76
 go_upto_region 5 with (first | (go_at_call_of 75 (Value.int IntKind.u64 (H1 : Nat)); refine (HE1.out _).mono ?_; rintro o w5 ⟨rfl, hb5⟩; have d5 : D3 w.heap.size L1 H1 (w.heap.size + 1) L2 H2 (w.heap.size + 2) w5 := D3.up hb5 (by first | assumption | (simp [D3, RgAt, go_sem]; done))) | (go_at_call_of 75 (Value.int IntKind.u64 (H2 : Nat)); refine (HE2.out _).mono ?_; rintro o w6 ⟨rfl, hb6⟩; have d6 : D3 w.heap.size L1 H1 (w.heap.size + 1) L2 H2 (w.heap.size + 2) w6 := D3.up hb6 (by first | assumption | (simp [D3, RgAt, go_sem]; done))) | (go_at_call 113; refine (rnone_any _).mono ?_; rintro o w7 ⟨rfl, hb7⟩; have d7 : D3 w.heap.size L1 H1 (w.heap.size + 1) L2 H2 (w.heap.size + 2) w7 := D3.up hb7 (by assumption)))
 have UB : Up w w6 := (by repeat (first | exact Up.refl _ | assumption | refine Up.drew ?_ | refine Up.drewN ?_ _ | refine Up.alloc ?_ _ | refine Up.setCell ?_ ?_ _ | exact Nat.le_refl _ | exact Nat.le_add_right _ _ | (dsimp only; omega) | refine Up.trans ?_ ‹Up _ _›))
 have hS : D3 w.heap.size L1 H1 (w.heap.size + 1) L2 H2 (w.heap.size + 2) w6 := by assumption
 clear d5 d6 hb5 hb6
 refine wp_region_noPanic ?_
 refine wp_region_held_drew (S := D3 w.heap.size L1 H1 (w.heap.size + 1) L2 H2 (w.heap.size + 2)) (by kernel_rfl) ?_ (fun hHeld => ?_)
 ·exact D3.up ((Up.refl _).drew) hS
 try simp only [Act.put, puA, puB, puC]
 clear hHeld
 refine tkA (i := 0) (oi := oJrv0) (D3.up ((Up.refl w6).drew) hS) ?_
 try simp only [Act.put, puA, puB, puC]
 refine tkA (i := 1) (oi := oJrv1) (D3.up ((Up.refl w6).drew) hS) ?_
 try simp only [Act.put, puA, puB, puC]
 refine tkA (i := 3) (oi := oJrv2) (D3.up ((Up.refl w6).drew) hS) ?_
 try simp only [Act.put, puA, puB, puC]
 refine tkA (i := 4) (oi := oJrv3) (D3.up ((Up.refl w6).drew) hS) ?_
 try simp only [Act.put, puA, puB, puC]
 refine rdB 2 oJrv4 fun K hK => ?_
 refine wantCall1 ?_ 115 (.tmp 13) #[128] ?_ (.int .u64 (H1 : Nat)) ?_ ?_ (ent_next _ _) ?_
 iterate 4 rfl
 refine (HN1.out _).mono ?_
 rintro o x13 ⟨rfl, b13⟩
 refine ⟨_, rfl, ?_⟩
 have U13 := ((Up.refl w6).drew).trans b13
 refine hK.out _ _ (D3.up U13 hS) (fun _ => ?_)
 clear hK K
 try simp only [Act.put, puA, puB, puC]
 refine tkA (i := 5) (oi := oJrv5) (D3.up U13 hS) ?_
 try simp only [Act.put, puA, puB, puC]
 refine tkA (i := 6) (oi := oJrv6) (D3.up U13 hS) ?_
 try simp only [Act.put, puA, puB, puC]
 refine tkA (i := 7) (oi := oJrv7) (D3.up U13 hS) ?_
 try simp only [Act.put, puA, puB, puC]
 refine tkA (i := 8) (oi := oJrv8) (D3.up U13 hS) ?_
 try simp only [Act.put, puA, puB, puC]
 refine tkA (i := 10) (oi := oJrv10) (D3.up U13 hS) ?_
 try simp only [Act.put, puA, puB, puC]
 refine tkA (i := 11) (oi := oJrv11) (D3.up U13 hS) ?_
 try simp only [Act.put, puA, puB, puC]
 refine rdB 9 oJrv9 fun K hK => ?_
 refine wantCall1 ?_ 115 (.tmp 20) #[128] ?_ (.int .u64 (H2 : Nat)) ?_ ?_ (ent_next _ _) ?_
 iterate 4 rfl
 refine (HN2.out _).mono ?_
 rintro o x20 ⟨rfl, b20⟩
 refine ⟨_, rfl, ?_⟩
 have U20 := U13.trans b20
 refine hK.out _ _ (D3.up U20 hS) (fun _ => ?_)
 clear hK K
 try simp only [Act.put, puA, puB, puC]
 refine tkA (i := 12) (oi := oJrv12) (D3.up U20 hS) ?_
 try simp only [Act.put, puA, puB, puC]
 refine tkA (i := 13) (oi := oJrv13) (D3.up U20 hS) ?_
 try simp only [Act.put, puA, puB, puC]
 refine wpAnyH_done (by kernel_rfl) ?_ _
 refine NoPanic.normal ?_
 have UX : Up w x20 := UB.trans U20
 have hX : D3 w.heap.size L1 H1 (w.heap.size + 1) L2 H2 (w.heap.size + 2) x20 := D3.up U20 hS
 generalize x20 = wx at UX hX ⊢
 go_wp2_with (first | (go_at_call_of 75 (Value.int IntKind.u64 (H1 : Nat)); refine (HE1.out _).mono ?_; rintro o w5 ⟨rfl, hb5⟩; have d5 : D3 w.heap.size L1 H1 (w.heap.size + 1) L2 H2 (w.heap.size + 2) w5 := D3.up hb5 (by first | assumption | (simp [D3, RgAt, go_sem]; done))) | (go_at_call_of 75 (Value.int IntKind.u64 (H2 : Nat)); refine (HE2.out _).mono ?_; rintro o w6 ⟨rfl, hb6⟩; have d6 : D3 w.heap.size L1 H1 (w.heap.size + 1) L2 H2 (w.heap.size + 2) w6 := D3.up hb6 (by first | assumption | (simp [D3, RgAt, go_sem]; done))) | (go_at_call 113; refine (rnone_any _).mono ?_; rintro o w7 ⟨rfl, hb7⟩; have d7 : D3 w.heap.size L1 H1 (w.heap.size + 1) L2 H2 (w.heap.size + 2) w7 := D3.up hb7 (by assumption)))
 all_goals exact bodyPost_ret (v := .tuple #[.agg #[.int .u64 1, .int .u64 0], .bool false]) (by simp [results, Tryz.results76, go_sem, *]) rfl ⟨rfl, (by repeat (first | exact Up.refl _ | assumption | refine Up.drew ?_ | refine Up.drewN ?_ _ | refine Up.alloc ?_ _ | refine Up.setCell ?_ ?_ _ | exact Nat.le_refl _ | exact Nat.le_add_right _ _ | (dsimp only; omega) | refine Up.trans ?_ ‹Up _ _›))⟩
set_option maxHeartbeats 2000000 in
set_option maxRecDepth 20000 in
theorem rJoin_k11 (L1 H1 L2 H2 N1 N2 : Nat) (w1 : Fl.W L1) (w2 : Fl.W H1) (w3 : Fl.W L2) (w4 : Fl.W H2) (w5 : Fl.W N1) (w6 : Fl.W N2) (h1 : ¬ N1 < L2) (h2 : ¬ N2 < L1) (h3 : L2 < L1) (h4 : H1 < H2) (HE1 : Hid (∀ w, Calls Tryz.prog 75 #[.agg #[.int .u64 (L1 : Nat), .int .u64 (H1 : Nat)]] w fun o w' => o = .returned (.bool false) ∧ Up w w')) (HE2 : Hid (∀ w, Calls Tryz.prog 75 #[.agg #[.int .u64 (L2 : Nat), .int .u64 (H2 : Nat)]] w fun o w' => o = .returned (.bool false) ∧ Up w w')) (HN1 : Hid (∀ w, Calls Tryz.prog 115 #[.int .u64 (H1 : Nat)] w fun o w' => o = .returned (.int .u64 (N1 : Nat)) ∧ Up w w')) (HN2 : Hid (∀ w, Calls Tryz.prog 115 #[.int .u64 (H2 : Nat)] w fun o w' => o = .returned (.int .u64 (N2 : Nat)) ∧ Up w w')) (w : World) :
    Calls Tryz.prog 76 #[.agg #[.int .u64 (L1 : Nat), .int .u64 (H1 : Nat)], .agg #[.int .u64 (L2 : Nat), .int .u64 (H2 : Nat)]] w fun o w' => o = .returned (.tuple #[.agg #[.int .u64 (L2 : Nat), .int .u64 (H2 : Nat)], .bool true]) ∧ Up w w' := by
 have aN1L2 : decide (N1 < L2) = false := by simp; omega
 have bN1L2 : decide ((N1 : Int) < (L2 : Int)) = false := by simp; omega
 have aN2L1 : decide (N2 < L1) = false := by simp; omega
 have bN2L1 : decide ((N2 : Int) < (L1 : Int)) = false := by simp; omega
 have aL2L1 : decide (L2 < L1) = true := by simp; omega
 have bL2L1 : decide ((L2 : Int) < (L1 : Int)) = true := by simp; omega
 have aH1H2 : decide (H1 < H2) = true := by simp; omega
 have bH1H2 : decide ((H1 : Int) < (H2 : Int)) = true := by simp; omega
 clear w1 w2 w3 w4 w5 w6
 go_enter Tryz.func76, Tryz.ntmps76
 go_upto_region 5 with (first | (go_at_call_of 75 (Value.int IntKind.u64 (H1 : Nat)); refine (HE1.out _).mono ?_; rintro o w5 ⟨rfl, hb5⟩; have d5 : D3 w.heap.size L1 H1 (w.heap.size + 1) L2 H2 (w.heap.size + 2) w5 := D3.up hb5 (by first | assumption | (simp [D3, RgAt, go_sem]; done))) | (go_at_call_of 75 (Value.int IntKind.u64 (H2 : Nat)); refine (HE2.out _).mono ?_; rintro o w6 ⟨rfl, hb6⟩; have d6 : D3 w.heap.size L1 H1 (w.heap.size + 1) L2 H2 (w.heap.size + 2) w6 := D3.up hb6 (by first | assumption | (simp [D3, RgAt, go_sem]; done))) | (go_at_call 113; refine (rnone_any _).mono ?_; rintro o w7 ⟨rfl, hb7⟩; have d7 : D3 w.heap.size L1 H1 (w.heap.size + 1) L2 H2 (w.heap.size + 2) w7 := D3.up hb7 (by assumption)))
 have UB : Up w w6 := (by repeat (first | exact Up.refl _ | assumption | refine Up.drew ?_ | refine Up.drewN ?_ _ | refine Up.alloc ?_ _ | refine Up.setCell ?_ ?_ _ | exact Nat.le_refl _ | exact Nat.le_add_right _ _ | (dsimp only; omega) | refine Up.trans ?_ ‹Up _ _›))
 have hS : D3 w.heap.size L1 H1 (w.heap.size + 1) L2 H2 (w.heap.size + 2) w6 := by assumption
 clear d5 d6 hb5 hb6
 refine wp_region_noPanic ?_
 refine wp_region_held_drew (S := D3 w.heap.size L1 H1 (w.heap.size + 1) L2 H2 (w.heap.size + 2)) (by kernel_rfl) ?_ (fun hHeld => ?_)
 ·exact D3.up ((Up.refl _).drew) hS
 try simp only [Act.put, puA, puB, puC]
 clear hHeld
 refine tkA (i := 0) (oi := oJrv0) (D3.up ((Up.refl w6).drew) hS) ?_
 try simp only [Act.put, puA, puB, puC]
 refine tkA (i := 1) (oi := oJrv1) (D3.up ((Up.refl w6).drew) hS) ?_
 try simp only [Act.put, puA, puB, puC]
 refine tkA (i := 3) (oi := oJrv2) (D3.up ((Up.refl w6).drew) hS) ?_
 try simp only [Act.put, puA, puB, puC]
 refine tkA (i := 4) (oi := oJrv3) (D3.up ((Up.refl w6).drew) hS) ?_
 try simp only [Act.put, puA, puB, puC]
 refine rdB 2 oJrv4 fun K hK => ?_
 refine wantCall1 ?_ 115 (.tmp 13) #[128] ?_ (.int .u64 (H1 : Nat)) ?_ ?_ (ent_next _ _) ?_
 iterate 4 rfl
 refine (HN1.out _).mono ?_
 rintro o x27 ⟨rfl, b27⟩
 refine ⟨_, rfl, ?_⟩
 have U27 := ((Up.refl w6).drew).trans b27
 refine hK.out _ _ (D3.up U27 hS) (fun _ => ?_)
 clear hK K
 try simp only [Act.put, puA, puB, puC]
 refine tkA (i := 5) (oi := oJrv5) (D3.up U27 hS) ?_
 try simp only [Act.put, puA, puB, puC]
 refine tkA (i := 6) (oi := oJrv6) (D3.up U27 hS) ?_
 try simp only [Act.put, puA, puB, puC]
 refine tkA (i := 7) (oi := oJrv7) (D3.up U27 hS) ?_
 try simp only [Act.put, puA, puB, puC]
 refine tkA (i := 8) (oi := oJrv8) (D3.up U27 hS) ?_
 try simp only [Act.put, puA, puB, puC]
 refine tkA (i := 10) (oi := oJrv10) (D3.up U27 hS) ?_
 try simp only [Act.put, puA, puB, puC]
 refine tkA (i := 11) (oi := oJrv11) (D3.up U27 hS) ?_
 try simp only [Act.put, puA, puB, puC]
 refine rdB 9 oJrv9 fun K hK => ?_
 refine wantCall1 ?_ 115 (.tmp 20) #[128] ?_ (.int .u64 (H2 : Nat)) ?_ ?_ (ent_next _ _) ?_
 iterate 4 rfl
 refine (HN2.out _).mono ?_
 rintro o x34 ⟨rfl, b34⟩
 refine ⟨_, rfl, ?_⟩
 have U34 := U27.trans b34
 refine hK.out _ _ (D3.up U34 hS) (fun _ => ?_)
 clear hK K
 try simp only [Act.put, puA, puB, puC]
 refine tkA (i := 12) (oi := oJrv12) (D3.up U34 hS) ?_
 try simp only [Act.put, puA, puB, puC]
 refine tkA (i := 13) (oi := oJrv13) (D3.up U34 hS) ?_
 try simp only [Act.put, puA, puB, puC]
 refine wpAnyH_done (by kernel_rfl) ?_ _
 refine NoPanic.normal ?_
 have UX : Up w x34 := UB.trans U34
 have hX : D3 w.heap.size L1 H1 (w.heap.size + 1) L2 H2 (w.heap.size + 2) x34 := D3.up U34 hS
 generalize x34 = wx at UX hX ⊢
 go_wp2_with (first | (go_at_call_of 75 (Value.int IntKind.u64 (H1 : Nat)); refine (HE1.out _).mono ?_; rintro o w5 ⟨rfl, hb5⟩; have d5 : D3 w.heap.size L1 H1 (w.heap.size + 1) L2 H2 (w.heap.size + 2) w5 := D3.up hb5 (by first | assumption | (simp [D3, RgAt, go_sem]; done))) | (go_at_call_of 75 (Value.int IntKind.u64 (H2 : Nat)); refine (HE2.out _).mono ?_; rintro o w6 ⟨rfl, hb6⟩; have d6 : D3 w.heap.size L1 H1 (w.heap.size + 1) L2 H2 (w.heap.size + 2) w6 := D3.up hb6 (by first | assumption | (simp [D3, RgAt, go_sem]; done))) | (go_at_call 113; refine (rnone_any _).mono ?_; rintro o w7 ⟨rfl, hb7⟩; have d7 : D3 w.heap.size L1 H1 (w.heap.size + 1) L2 H2 (w.heap.size + 2) w7 := D3.up hb7 (by assumption)))
 all_goals exact bodyPost_ret (v := .tuple #[.agg #[.int .u64 (L2 : Nat), .int .u64 (H2 : Nat)], .bool true]) (by simp [results, Tryz.results76, go_sem, *]) rfl ⟨rfl, (by repeat (first | exact Up.refl _ | assumption | refine Up.drew ?_ | refine Up.drewN ?_ _ | refine Up.alloc ?_ _ | refine Up.setCell ?_ ?_ _ | exact Nat.le_refl _ | exact Nat.le_add_right _ _ | (dsimp only; omega) | refine Up.trans ?_ ‹Up _ _›))⟩
set_option maxHeartbeats 2000000 in
set_option maxRecDepth 20000 in
theorem rJoin_k10 (L1 H1 L2 H2 N1 N2 : Nat) (w1 : Fl.W L1) (w2 : Fl.W H1) (w3 : Fl.W L2) (w4 : Fl.W H2) (w5 : Fl.W N1) (w6 : Fl.W N2) (h1 : ¬ N1 < L2) (h2 : ¬ N2 < L1) (h3 : L2 < L1) (h4 : ¬ H1 < H2) (HE1 : Hid (∀ w, Calls Tryz.prog 75 #[.agg #[.int .u64 (L1 : Nat), .int .u64 (H1 : Nat)]] w fun o w' => o = .returned (.bool false) ∧ Up w w')) (HE2 : Hid (∀ w, Calls Tryz.prog 75 #[.agg #[.int .u64 (L2 : Nat), .int .u64 (H2 : Nat)]] w fun o w' => o = .returned (.bool false) ∧ Up w w')) (HN1 : Hid (∀ w, Calls Tryz.prog 115 #[.int .u64 (H1 : Nat)] w fun o w' => o = .returned (.int .u64 (N1 : Nat)) ∧ Up w w')) (HN2 : Hid (∀ w, Calls Tryz.prog 115 #[.int .u64 (H2 : Nat)] w fun o w' => o = .returned (.int .u64 (N2 : Nat)) ∧ Up w w')) (w : World) :
    Calls Tryz.prog 76 #[.agg #[.int .u64 (L1 : Nat), .int .u64 (H1 : Nat)], .agg #[.int .u64 (L2 : Nat), .int .u64 (H2 : Nat)]] w fun o w' => o = .returned (.tuple #[.agg #[.int .u64 (L2 : Nat), .int .u64 (H1 : Nat)], .bool true]) ∧ Up w w' := by
 have aN1L2 : decide (N1 < L2) = false := by simp; omega
 have bN1L2 : decide ((N1 : Int) < (L2 : Int)) = false := by simp; omega
 have aN2L1 : decide (N2 < L1) = false := by simp; omega
 have bN2L1 : decide ((N2 : Int) < (L1 : Int)) = false := by simp; omega
 have aL2L1 : decide (L2 < L1) = true := by simp; omega
 have bL2L1 : decide ((L2 : Int) < (L1 : Int)) = true := by simp; omega
 have aH1H2 : decide (H1 < H2) = false := by simp; omega
 have bH1H2 : decide ((H1 : Int) < (H2 : Int)) = false := by simp; omega
 clear w1 w2 w3 w4 w5 w6
 go_enter Tryz.func76, Tryz.ntmps76
 go_upto_region 5 with (first | (go_at_call_of 75 (Value.int IntKind.u64 (H1 : Nat)); refine (HE1.out _).mono ?_; rintro o w5 ⟨rfl, hb5⟩; have d5 : D3 w.heap.size L1 H1 (w.heap.size + 1) L2 H2 (w.heap.size + 2) w5 := D3.up hb5 (by first | assumption | (simp [D3, RgAt, go_sem]; done))) | (go_at_call_of 75 (Value.int IntKind.u64 (H2 : Nat)); refine (HE2.out _).mono ?_; rintro o w6 ⟨rfl, hb6⟩; have d6 : D3 w.heap.size L1 H1 (w.heap.size + 1) L2 H2 (w.heap.size + 2) w6 := D3.up hb6 (by first | assumption | (simp [D3, RgAt, go_sem]; done))) | (go_at_call 113; refine (rnone_any _).mono ?_; rintro o w7 ⟨rfl, hb7⟩; have d7 : D3 w.heap.size L1 H1 (w.heap.size + 1) L2 H2 (w.heap.size + 2) w7 := D3.up hb7 (by assumption)))
 have UB : Up w w6 := (by repeat (first | exact Up.refl _ | assumption | refine Up.drew ?_ | refine Up.drewN ?_ _ | refine Up.alloc ?_ _ | refine Up.setCell ?_ ?_ _ | exact Nat.le_refl _ | exact Nat.le_add_right _ _ | (dsimp only; omega) | refine Up.trans ?_ ‹Up _ _›))
 have hS : D3 w.heap.size L1 H1 (w.heap.size + 1) L2 H2 (w.heap.size + 2) w6 := by assumption
 clear d5 d6 hb5 hb6
 refine wp_region_noPanic ?_
 refine wp_region_held_drew (S := D3 w.heap.size L1 H1 (w.heap.size + 1) L2 H2 (w.heap.size + 2)) (by kernel_rfl) ?_ (fun hHeld => ?_)
 ·exact D3.up ((Up.refl _).drew) hS
 try simp only [Act.put, puA, puB, puC]
 clear hHeld
 refine tkA (i := 0) (oi := oJrv0) (D3.up ((Up.refl w6).drew) hS) ?_
 try simp only [Act.put, puA, puB, puC]
 refine tkA (i := 1) (oi := oJrv1) (D3.up ((Up.refl w6).drew) hS) ?_
 try simp only [Act.put, puA, puB, puC]
 refine tkA (i := 3) (oi := oJrv2) (D3.up ((Up.refl w6).drew) hS) ?_
 try simp only [Act.put, puA, puB, puC]
 refine tkA (i := 4) (oi := oJrv3) (D3.up ((Up.refl w6).drew) hS) ?_
 try simp only [Act.put, puA, puB, puC]
 refine rdB 2 oJrv4 fun K hK => ?_
 refine wantCall1 ?_ 115 (.tmp 13) #[128] ?_ (.int .u64 (H1 : Nat)) ?_ ?_ (ent_next _ _) ?_
 iterate 4 rfl
 refine (HN1.out _).mono ?_
 rintro o x41 ⟨rfl, b41⟩
 refine ⟨_, rfl, ?_⟩
 have U41 := ((Up.refl w6).drew).trans b41
 refine hK.out _ _ (D3.up U41 hS) (fun _ => ?_)
 clear hK K
 try simp only [Act.put, puA, puB, puC]
 refine tkA (i := 5) (oi := oJrv5) (D3.up U41 hS) ?_
 try simp only [Act.put, puA, puB, puC]
 refine tkA (i := 6) (oi := oJrv6) (D3.up U41 hS) ?_
 try simp only [Act.put, puA, puB, puC]
 refine tkA (i := 7) (oi := oJrv7) (D3.up U41 hS) ?_
 try simp only [Act.put, puA, puB, puC]
 refine tkA (i := 8) (oi := oJrv8) (D3.up U41 hS) ?_
 try simp only [Act.put, puA, puB, puC]
 refine tkA (i := 10) (oi := oJrv10) (D3.up U41 hS) ?_
 try simp only [Act.put, puA, puB, puC]
 refine tkA (i := 11) (oi := oJrv11) (D3.up U41 hS) ?_
 try simp only [Act.put, puA, puB, puC]
 refine rdB 9 oJrv9 fun K hK => ?_
 refine wantCall1 ?_ 115 (.tmp 20) #[128] ?_ (.int .u64 (H2 : Nat)) ?_ ?_ (ent_next _ _) ?_
 iterate 4 rfl
 refine (HN2.out _).mono ?_
 rintro o x48 ⟨rfl, b48⟩
 refine ⟨_, rfl, ?_⟩
 have U48 := U41.trans b48
 refine hK.out _ _ (D3.up U48 hS) (fun _ => ?_)
 clear hK K
 try simp only [Act.put, puA, puB, puC]
 refine tkA (i := 12) (oi := oJrv12) (D3.up U48 hS) ?_
 try simp only [Act.put, puA, puB, puC]
 refine tkA (i := 13) (oi := oJrv13) (D3.up U48 hS) ?_
 try simp only [Act.put, puA, puB, puC]
 refine wpAnyH_done (by kernel_rfl) ?_ _
 refine NoPanic.normal ?_
 have UX : Up w x48 := UB.trans U48
 have hX : D3 w.heap.size L1 H1 (w.heap.size + 1) L2 H2 (w.heap.size + 2) x48 := D3.up U48 hS
 generalize x48 = wx at UX hX ⊢
 go_wp2_with (first | (go_at_call_of 75 (Value.int IntKind.u64 (H1 : Nat)); refine (HE1.out _).mono ?_; rintro o w5 ⟨rfl, hb5⟩; have d5 : D3 w.heap.size L1 H1 (w.heap.size + 1) L2 H2 (w.heap.size + 2) w5 := D3.up hb5 (by first | assumption | (simp [D3, RgAt, go_sem]; done))) | (go_at_call_of 75 (Value.int IntKind.u64 (H2 : Nat)); refine (HE2.out _).mono ?_; rintro o w6 ⟨rfl, hb6⟩; have d6 : D3 w.heap.size L1 H1 (w.heap.size + 1) L2 H2 (w.heap.size + 2) w6 := D3.up hb6 (by first | assumption | (simp [D3, RgAt, go_sem]; done))) | (go_at_call 113; refine (rnone_any _).mono ?_; rintro o w7 ⟨rfl, hb7⟩; have d7 : D3 w.heap.size L1 H1 (w.heap.size + 1) L2 H2 (w.heap.size + 2) w7 := D3.up hb7 (by assumption)))
 all_goals exact bodyPost_ret (v := .tuple #[.agg #[.int .u64 (L2 : Nat), .int .u64 (H1 : Nat)], .bool true]) (by simp [results, Tryz.results76, go_sem, *]) rfl ⟨rfl, (by repeat (first | exact Up.refl _ | assumption | refine Up.drew ?_ | refine Up.drewN ?_ _ | refine Up.alloc ?_ _ | refine Up.setCell ?_ ?_ _ | exact Nat.le_refl _ | exact Nat.le_add_right _ _ | (dsimp only; omega) | refine Up.trans ?_ ‹Up _ _›))⟩
set_option maxHeartbeats 2000000 in
set_option maxRecDepth 20000 in
theorem rJoin_k01 (L1 H1 L2 H2 N1 N2 : Nat) (w1 : Fl.W L1) (w2 : Fl.W H1) (w3 : Fl.W L2) (w4 : Fl.W H2) (w5 : Fl.W N1) (w6 : Fl.W N2) (h1 : ¬ N1 < L2) (h2 : ¬ N2 < L1) (h3 : ¬ L2 < L1) (h4 : H1 < H2) (HE1 : Hid (∀ w, Calls Tryz.prog 75 #[.agg #[.int .u64 (L1 : Nat), .int .u64 (H1 : Nat)]] w fun o w' => o = .returned (.bool false) ∧ Up w w')) (HE2 : Hid (∀ w, Calls Tryz.prog 75 #[.agg #[.int .u64 (L2 : Nat), .int .u64 (H2 : Nat)]] w fun o w' => o = .returned (.bool false) ∧ Up w w')) (HN1 : Hid (∀ w, Calls Tryz.prog 115 #[.int .u64 (H1 : Nat)] w fun o w' => o = .returned (.int .u64 (N1 : Nat)) ∧ Up w w')) (HN2 : Hid (∀ w, Calls Tryz.prog 115 #[.int .u64 (H2 : Nat)] w fun o w' => o = .returned (.int .u64 (N2 : Nat)) ∧ Up w w')) (w : World) :
    Calls Tryz.prog 76 #[.agg #[.int .u64 (L1 : Nat), .int .u64 (H1 : Nat)], .agg #[.int .u64 (L2 : Nat), .int .u64 (H2 : Nat)]] w fun o w' => o = .returned (.tuple #[.agg #[.int .u64 (L1 : Nat), .int .u64 (H2 : Nat)], .bool true]) ∧ Up w w' := by
 have aN1L2 : decide (N1 < L2) = false := by simp; omega
 have bN1L2 : decide ((N1 : Int) < (L2 : Int)) = false := by simp; omega
 have aN2L1 : decide (N2 < L1) = false := by simp; omega
 have bN2L1 : decide ((N2 : Int) < (L1 : Int)) = false := by simp; omega
 have aL2L1 : decide (L2 < L1) = false := by simp; omega
 have bL2L1 : decide ((L2 : Int) < (L1 : Int)) = false := by simp; omega
 have aH1H2 : decide (H1 < H2) = true := by simp; omega
 have bH1H2 : decide ((H1 : Int) < (H2 : Int)) = true := by simp; omega
 clear w1 w2 w3 w4 w5 w6
 go_enter Tryz.func76, Tryz.ntmps76
 go_upto_region 5 with (first | (go_at_call_of 75 (Value.int IntKind.u64 (H1 : Nat)); refine (HE1.out _).mono ?_; rintro o w5 ⟨rfl, hb5⟩; have d5 : D3 w.heap.size L1 H1 (w.heap.size + 1) L2 H2 (w.heap.size + 2) w5 := D3.up hb5 (by first | assumption | (simp [D3, RgAt, go_sem]; done))) | (go_at_call_of 75 (Value.int IntKind.u64 (H2 : Nat)); refine (HE2.out _).mono ?_; rintro o w6 ⟨rfl, hb6⟩; have d6 : D3 w.heap.size L1 H1 (w.heap.size + 1) L2 H2 (w.heap.size + 2) w6 := D3.up hb6 (by first | assumption | (simp [D3, RgAt, go_sem]; done))) | (go_at_call 113; refine (rnone_any _).mono ?_; rintro o w7 ⟨rfl, hb7⟩; have d7 : D3 w.heap.size L1 H1 (w.heap.size + 1) L2 H2 (w.heap.size + 2) w7 := D3.up hb7 (by assumption)))
 have UB : Up w w6 := (by repeat (first | exact Up.refl _ | assumption | refine Up.drew ?_ | refine Up.drewN ?_ _ | refine Up.alloc ?_ _ | refine Up.setCell ?_ ?_ _ | exact Nat.le_refl _ | exact Nat.le_add_right _ _ | (dsimp only; omega) | refine Up.trans ?_ ‹Up _ _›))
 have hS : D3 w.heap.size L1 H1 (w.heap.size + 1) L2 H2 (w.heap.size + 2) w6 := by assumption
 clear d5 d6 hb5 hb6
 refine wp_region_noPanic ?_
 refine wp_region_held_drew (S := D3 w.heap.size L1 H1 (w.heap.size + 1) L2 H2 (w.heap.size + 2)) (by kernel_rfl) ?_ (fun hHeld => ?_)
 ·exact D3.up ((Up.refl _).drew) hS
 try simp only [Act.put, puA, puB, puC]
 clear hHeld
 refine tkA (i := 0) (oi := oJrv0) (D3.up ((Up.refl w6).drew) hS) ?_
 try simp only [Act.put, puA, puB, puC]
 refine tkA (i := 1) (oi := oJrv1) (D3.up ((Up.refl w6).drew) hS) ?_
 try simp only [Act.put, puA, puB, puC]
 refine tkA (i := 3) (oi := oJrv2) (D3.up ((Up.refl w6).drew) hS) ?_
 try simp only [Act.put, puA, puB, puC]
 refine tkA (i := 4) (oi := oJrv3) (D3.up ((Up.refl w6).drew) hS) ?_
 try simp only [Act.put, puA, puB, puC]
 refine rdB 2 oJrv4 fun K hK => ?_
 refine wantCall1 ?_ 115 (.tmp 13) #[128] ?_ (.int .u64 (H1 : Nat)) ?_ ?_ (ent_next _ _) ?_
 iterate 4 rfl
 refine (HN1.out _).mono ?_
 rintro o x55 ⟨rfl, b55⟩
 refine ⟨_, rfl, ?_⟩
 have U55 := ((Up.refl w6).drew).trans b55
 refine hK.out _ _ (D3.up U55 hS) (fun _ => ?_)
 clear hK K
 try simp only [Act.put, puA, puB, puC]
 refine tkA (i := 5) (oi := oJrv5) (D3.up U55 hS) ?_
 try simp only [Act.put, puA, puB, puC]
 refine tkA (i := 6) (oi := oJrv6) (D3.up U55 hS) ?_
 try simp only [Act.put, puA, puB, puC]
 refine tkA (i := 7) (oi := oJrv7) (D3.up U55 hS) ?_
 try simp only [Act.put, puA, puB, puC]
 refine tkA (i := 8) (oi := oJrv8) (D3.up U55 hS) ?_
 try simp only [Act.put, puA, puB, puC]
 refine tkA (i := 10) (oi := oJrv10) (D3.up U55 hS) ?_
 try simp only [Act.put, puA, puB, puC]
 refine tkA (i := 11) (oi := oJrv11) (D3.up U55 hS) ?_
 try simp only [Act.put, puA, puB, puC]
 refine rdB 9 oJrv9 fun K hK => ?_
 refine wantCall1 ?_ 115 (.tmp 20) #[128] ?_ (.int .u64 (H2 : Nat)) ?_ ?_ (ent_next _ _) ?_
 iterate 4 rfl
 refine (HN2.out _).mono ?_
 rintro o x62 ⟨rfl, b62⟩
 refine ⟨_, rfl, ?_⟩
 have U62 := U55.trans b62
 refine hK.out _ _ (D3.up U62 hS) (fun _ => ?_)
 clear hK K
 try simp only [Act.put, puA, puB, puC]
 refine tkA (i := 12) (oi := oJrv12) (D3.up U62 hS) ?_
 try simp only [Act.put, puA, puB, puC]
 refine tkA (i := 13) (oi := oJrv13) (D3.up U62 hS) ?_
 try simp only [Act.put, puA, puB, puC]
 refine wpAnyH_done (by kernel_rfl) ?_ _
 refine NoPanic.normal ?_
 have UX : Up w x62 := UB.trans U62
 have hX : D3 w.heap.size L1 H1 (w.heap.size + 1) L2 H2 (w.heap.size + 2) x62 := D3.up U62 hS
 generalize x62 = wx at UX hX ⊢
 go_wp2_with (first | (go_at_call_of 75 (Value.int IntKind.u64 (H1 : Nat)); refine (HE1.out _).mono ?_; rintro o w5 ⟨rfl, hb5⟩; have d5 : D3 w.heap.size L1 H1 (w.heap.size + 1) L2 H2 (w.heap.size + 2) w5 := D3.up hb5 (by first | assumption | (simp [D3, RgAt, go_sem]; done))) | (go_at_call_of 75 (Value.int IntKind.u64 (H2 : Nat)); refine (HE2.out _).mono ?_; rintro o w6 ⟨rfl, hb6⟩; have d6 : D3 w.heap.size L1 H1 (w.heap.size + 1) L2 H2 (w.heap.size + 2) w6 := D3.up hb6 (by first | assumption | (simp [D3, RgAt, go_sem]; done))) | (go_at_call 113; refine (rnone_any _).mono ?_; rintro o w7 ⟨rfl, hb7⟩; have d7 : D3 w.heap.size L1 H1 (w.heap.size + 1) L2 H2 (w.heap.size + 2) w7 := D3.up hb7 (by assumption)))
 all_goals exact bodyPost_ret (v := .tuple #[.agg #[.int .u64 (L1 : Nat), .int .u64 (H2 : Nat)], .bool true]) (by simp [results, Tryz.results76, go_sem, *]) rfl ⟨rfl, (by repeat (first | exact Up.refl _ | assumption | refine Up.drew ?_ | refine Up.drewN ?_ _ | refine Up.alloc ?_ _ | refine Up.setCell ?_ ?_ _ | exact Nat.le_refl _ | exact Nat.le_add_right _ _ | (dsimp only; omega) | refine Up.trans ?_ ‹Up _ _›))⟩
set_option maxHeartbeats 2000000 in
set_option maxRecDepth 20000 in
theorem rJoin_k00 (L1 H1 L2 H2 N1 N2 : Nat) (w1 : Fl.W L1) (w2 : Fl.W H1) (w3 : Fl.W L2) (w4 : Fl.W H2) (w5 : Fl.W N1) (w6 : Fl.W N2) (h1 : ¬ N1 < L2) (h2 : ¬ N2 < L1) (h3 : ¬ L2 < L1) (h4 : ¬ H1 < H2) (HE1 : Hid (∀ w, Calls Tryz.prog 75 #[.agg #[.int .u64 (L1 : Nat), .int .u64 (H1 : Nat)]] w fun o w' => o = .returned (.bool false) ∧ Up w w')) (HE2 : Hid (∀ w, Calls Tryz.prog 75 #[.agg #[.int .u64 (L2 : Nat), .int .u64 (H2 : Nat)]] w fun o w' => o = .returned (.bool false) ∧ Up w w')) (HN1 : Hid (∀ w, Calls Tryz.prog 115 #[.int .u64 (H1 : Nat)] w fun o w' => o = .returned (.int .u64 (N1 : Nat)) ∧ Up w w')) (HN2 : Hid (∀ w, Calls Tryz.prog 115 #[.int .u64 (H2 : Nat)] w fun o w' => o = .returned (.int .u64 (N2 : Nat)) ∧ Up w w')) (w : World) :
    Calls Tryz.prog 76 #[.agg #[.int .u64 (L1 : Nat), .int .u64 (H1 : Nat)], .agg #[.int .u64 (L2 : Nat), .int .u64 (H2 : Nat)]] w fun o w' => o = .returned (.tuple #[.agg #[.int .u64 (L1 : Nat), .int .u64 (H1 : Nat)], .bool true]) ∧ Up w w' := by
 have aN1L2 : decide (N1 < L2) = false := by simp; omega
 have bN1L2 : decide ((N1 : Int) < (L2 : Int)) = false := by simp; omega
 have aN2L1 : decide (N2 < L1) = false := by simp; omega
 have bN2L1 : decide ((N2 : Int) < (L1 : Int)) = false := by simp; omega
 have aL2L1 : decide (L2 < L1) = false := by simp; omega
 have bL2L1 : decide ((L2 : Int) < (L1 : Int)) = false := by simp; omega
 have aH1H2 : decide (H1 < H2) = false := by simp; omega
 have bH1H2 : decide ((H1 : Int) < (H2 : Int)) = false := by simp; omega
 clear w1 w2 w3 w4 w5 w6
 go_enter Tryz.func76, Tryz.ntmps76
 go_upto_region 5 with (first | (go_at_call_of 75 (Value.int IntKind.u64 (H1 : Nat)); refine (HE1.out _).mono ?_; rintro o w5 ⟨rfl, hb5⟩; have d5 : D3 w.heap.size L1 H1 (w.heap.size + 1) L2 H2 (w.heap.size + 2) w5 := D3.up hb5 (by first | assumption | (simp [D3, RgAt, go_sem]; done))) | (go_at_call_of 75 (Value.int IntKind.u64 (H2 : Nat)); refine (HE2.out _).mono ?_; rintro o w6 ⟨rfl, hb6⟩; have d6 : D3 w.heap.size L1 H1 (w.heap.size + 1) L2 H2 (w.heap.size + 2) w6 := D3.up hb6 (by first | assumption | (simp [D3, RgAt, go_sem]; done))) | (go_at_call 113; refine (rnone_any _).mono ?_; rintro o w7 ⟨rfl, hb7⟩; have d7 : D3 w.heap.size L1 H1 (w.heap.size + 1) L2 H2 (w.heap.size + 2) w7 := D3.up hb7 (by assumption)))
 have UB : Up w w6 := (by repeat (first | exact Up.refl _ | assumption | refine Up.drew ?_ | refine Up.drewN ?_ _ | refine Up.alloc ?_ _ | refine Up.setCell ?_ ?_ _ | exact Nat.le_refl _ | exact Nat.le_add_right _ _ | (dsimp only; omega) | refine Up.trans ?_ ‹Up _ _›))
 have hS : D3 w.heap.size L1 H1 (w.heap.size + 1) L2 H2 (w.heap.size + 2) w6 := by assumption
 clear d5 d6 hb5 hb6
 refine wp_region_noPanic ?_
 refine wp_region_held_drew (S := D3 w.heap.size L1 H1 (w.heap.size + 1) L2 H2 (w.heap.size + 2)) (by kernel_rfl) ?_ (fun hHeld => ?_)
 ·exact D3.up ((Up.refl _).drew) hS
 try simp only [Act.put, puA, puB, puC]
 clear hHeld
 refine tkA (i := 0) (oi := oJrv0) (D3.up ((Up.refl w6).drew) hS) ?_
 try simp only [Act.put, puA, puB, puC]
 refine tkA (i := 1) (oi := oJrv1) (D3.up ((Up.refl w6).drew) hS) ?_
 try simp only [Act.put, puA, puB, puC]
 refine tkA (i := 3) (oi := oJrv2) (D3.up ((Up.refl w6).drew) hS) ?_
 try simp only [Act.put, puA, puB, puC]
 refine tkA (i := 4) (oi := oJrv3) (D3.up ((Up.refl w6).drew) hS) ?_
 try simp only [Act.put, puA, puB, puC]
 refine rdB 2 oJrv4 fun K hK => ?_
 refine wantCall1 ?_ 115 (.tmp 13) #[128] ?_ (.int .u64 (H1 : Nat)) ?_ ?_ (ent_next _ _) ?_
 iterate 4 rfl
 refine (HN1.out _).mono ?_
 rintro o x69 ⟨rfl, b69⟩
 refine ⟨_, rfl, ?_⟩
 have U69 := ((Up.refl w6).drew).trans b69
 refine hK.out _ _ (D3.up U69 hS) (fun _ => ?_)
 clear hK K
 try simp only [Act.put, puA, puB, puC]
 refine tkA (i := 5) (oi := oJrv5) (D3.up U69 hS) ?_
 try simp only [Act.put, puA, puB, puC]
 refine tkA (i := 6) (oi := oJrv6) (D3.up U69 hS) ?_
 try simp only [Act.put, puA, puB, puC]
 refine tkA (i := 7) (oi := oJrv7) (D3.up U69 hS) ?_
 try simp only [Act.put, puA, puB, puC]
 refine tkA (i := 8) (oi := oJrv8) (D3.up U69 hS) ?_
 try simp only [Act.put, puA, puB, puC]
 refine tkA (i := 10) (oi := oJrv10) (D3.up U69 hS) ?_
 try simp only [Act.put, puA, puB, puC]
 refine tkA (i := 11) (oi := oJrv11) (D3.up U69 hS) ?_
 try simp only [Act.put, puA, puB, puC]
 refine rdB 9 oJrv9 fun K hK => ?_
 refine wantCall1 ?_ 115 (.tmp 20) #[128] ?_ (.int .u64 (H2 : Nat)) ?_ ?_ (ent_next _ _) ?_
 iterate 4 rfl
 refine (HN2.out _).mono ?_
 rintro o x76 ⟨rfl, b76⟩
 refine ⟨_, rfl, ?_⟩
 have U76 := U69.trans b76
 refine hK.out _ _ (D3.up U76 hS) (fun _ => ?_)
 clear hK K
 try simp only [Act.put, puA, puB, puC]
 refine tkA (i := 12) (oi := oJrv12) (D3.up U76 hS) ?_
 try simp only [Act.put, puA, puB, puC]
 refine tkA (i := 13) (oi := oJrv13) (D3.up U76 hS) ?_
 try simp only [Act.put, puA, puB, puC]
 refine wpAnyH_done (by kernel_rfl) ?_ _
 refine NoPanic.normal ?_
 have UX : Up w x76 := UB.trans U76
 have hX : D3 w.heap.size L1 H1 (w.heap.size + 1) L2 H2 (w.heap.size + 2) x76 := D3.up U76 hS
 generalize x76 = wx at UX hX ⊢
 go_wp2_with (first | (go_at_call_of 75 (Value.int IntKind.u64 (H1 : Nat)); refine (HE1.out _).mono ?_; rintro o w5 ⟨rfl, hb5⟩; have d5 : D3 w.heap.size L1 H1 (w.heap.size + 1) L2 H2 (w.heap.size + 2) w5 := D3.up hb5 (by first | assumption | (simp [D3, RgAt, go_sem]; done))) | (go_at_call_of 75 (Value.int IntKind.u64 (H2 : Nat)); refine (HE2.out _).mono ?_; rintro o w6 ⟨rfl, hb6⟩; have d6 : D3 w.heap.size L1 H1 (w.heap.size + 1) L2 H2 (w.heap.size + 2) w6 := D3.up hb6 (by first | assumption | (simp [D3, RgAt, go_sem]; done))) | (go_at_call 113; refine (rnone_any _).mono ?_; rintro o w7 ⟨rfl, hb7⟩; have d7 : D3 w.heap.size L1 H1 (w.heap.size + 1) L2 H2 (w.heap.size + 2) w7 := D3.up hb7 (by assumption)))
 all_goals exact bodyPost_ret (v := .tuple #[.agg #[.int .u64 (L1 : Nat), .int .u64 (H1 : Nat)], .bool true]) (by simp [results, Tryz.results76, go_sem, *]) rfl ⟨rfl, (by repeat (first | exact Up.refl _ | assumption | refine Up.drew ?_ | refine Up.drewN ?_ _ | refine Up.alloc ?_ _ | refine Up.setCell ?_ ?_ _ | exact Nat.le_refl _ | exact Nat.le_add_right _ _ | (dsimp only; omega) | refine Up.trans ?_ ‹Up _ _›))⟩
namespace Fl
theorem rn_W (u : Nat) (h : u ≤ 18442240474082181120) : W (rn u) := by unfold rn W; split <;> omega
theorem gp_rn {v1 u2 : Nat} (h1 : W v1) (n1 : nan v1 = false) (hu : code u2 ≤ 18442240474082181120) : gp v1 u2 = decide (rn (code v1) < code u2) := by
 have cp := code_pos v1 h1 n1
 have cr := code_range v1 h1
 unfold gp
 rw [decide_eq_decide]
 by_cases hi : v1 = INF
 ·have c := (code_inf_iff v1 h1).2 hi
  have e : code (nextB v1) = code v1 := by rw [hi]; decide +kernel
  rw [e, c]; unfold rn; split <;> omega
 ·have c : code v1 ≠ 18442240474082181120 := fun h => hi ((code_inf_iff v1 h1).1 h)
  rw [code_next v1 h1 hi]
  have k := isCode_iff (code v1 + 1)
  unfold rn nc
  by_cases hc : isCode (code v1 + 1) = true
  ·rw [if_pos hc]
   have k' := k.1 hc
   (repeat' split) <;> omega
  ·rw [if_neg hc]
   have k' : ¬ _ := fun h => hc (k.2 h)
   (repeat' split) <;> omega
end Fl
set_option maxHeartbeats 1000000 in
set_option maxRecDepth 20000 in
theorem rJoin_form {u1 v1 u2 v2 : Nat} {e1 e2 : Bool} (f1 : Fl.IsForm u1 v1 e1) (f2 : Fl.IsForm u2 v2 e2) (w : World) :
    Calls Tryz.prog 76 #[.agg #[.int .u64 (Fl.rl u1 e1 : Nat), .int .u64 (Fl.rh v1 e1 : Nat)], .agg #[.int .u64 (Fl.rl u2 e2 : Nat), .int .u64 (Fl.rh v2 e2 : Nat)]] w fun o w' => o = .returned (.tuple #[.agg #[.int .u64 (Fl.rl (Fl.jU u1 v1 e1 u2 v2 e2) (Fl.jE u1 v1 e1 u2 v2 e2) : Nat), .int .u64 (Fl.rh (Fl.jV u1 v1 e1 u2 v2 e2) (Fl.jE u1 v1 e1 u2 v2 e2) : Nat)], .bool (Fl.jK u1 v1 e1 u2 v2 e2)]) ∧ Up w w' := by
 have HE1 := fun w => rEmpty_any (Fl.rl u1 e1) (Fl.rh v1 e1) w
 rw [Fl.empty_rng f1] at HE1
 have HE2 := fun w => rEmpty_any (Fl.rl u2 e2) (Fl.rh v2 e2) w
 rw [Fl.empty_rng f2] at HE2
 have W1 := Fl.rl_W e1 f1.1
 have W2 := Fl.rh_W e1 f1.2.1
 have W3 := Fl.rl_W e2 f2.1
 have W4 := Fl.rh_W e2 f2.2.1
 have n1 := Fl.form_nan f1
 have n2 := Fl.form_nan f2
 have B1 : Fl.rh v1 e1 ≤ 18442240474082181120 := by rcases Fl.form_rng f1 with ⟨_, _, _, _, r2⟩ | ⟨_, _, r2, _, _, r5⟩ <;> omega
 have B2 : Fl.rh v2 e2 ≤ 18442240474082181120 := by rcases Fl.form_rng f2 with ⟨_, _, _, _, r2⟩ | ⟨_, _, r2, _, _, r5⟩ <;> omega
 have HN1 := fun w => rnext_any (Fl.rh v1 e1) B1 w
 have HN2 := fun w => rnext_any (Fl.rh v2 e2) B2 w
 have W5 := Fl.rn_W _ B1
 have W6 := Fl.rn_W _ B2
 cases e1
 ·cases e2
  ·have r1 := Fl.form_rng f1
   have r2 := Fl.form_rng f2
   simp at r1 r2
   have g1 := Fl.gp_rn (u2 := u2) f1.2.1 n1.2.1 (by omega)
   have g2 := Fl.gp_rn (u2 := u1) f2.2.1 n2.2.1 (by omega)
   have c1 := Fl.code_mn u1 u2
   have c2 := Fl.code_mx v1 v2
   by_cases h1 : Fl.rn (Fl.code v1) < Fl.code u2
   ·have k : Fl.jK u1 v1 false u2 v2 false = false := by unfold Fl.jK; rw [g1, decide_eq_true h1]; rfl
    unfold Fl.jU Fl.jV Fl.jE; rw [k]
    exact rJoin_g1 _ _ _ _ _ _ W1 W2 W3 W4 W5 W6 h1 HE1 HE2 HN1 HN2 w
   ·by_cases h2 : Fl.rn (Fl.code v2) < Fl.code u1
    ·have k : Fl.jK u1 v1 false u2 v2 false = false := by unfold Fl.jK; rw [g2, decide_eq_true h2]; simp
     unfold Fl.jU Fl.jV Fl.jE; rw [k]
     exact rJoin_g2 _ _ _ _ _ _ W1 W2 W3 W4 W5 W6 h1 h2 HE1 HE2 HN1 HN2 w
    ·have k : Fl.jK u1 v1 false u2 v2 false = true := by unfold Fl.jK; rw [g1, g2, decide_eq_false h1, decide_eq_false h2]; rfl
     unfold Fl.jU Fl.jV Fl.jE; rw [k]
     have eL : Fl.rl (if false = true then u2 else if false = true then u1 else if true = true then Fl.mn u1 u2 else 0) (if false = true then false else if false = true then false else !true) = min (Fl.code u1) (Fl.code u2) := by simp [Fl.rl, c1]
     have eH : Fl.rh (if false = true then v2 else if false = true then v1 else if true = true then Fl.mx v1 v2 else 0) (if false = true then false else if false = true then false else !true) = max (Fl.code v1) (Fl.code v2) := by simp [Fl.rh, c2]
     rw [eL, eH]
     by_cases h3 : Fl.code u2 < Fl.code u1
     ·rw [show min (Fl.code u1) (Fl.code u2) = Fl.code u2 by omega]
      by_cases h4 : Fl.code v1 < Fl.code v2
      ·rw [show max (Fl.code v1) (Fl.code v2) = Fl.code v2 by omega]; exact rJoin_k11 _ _ _ _ _ _ W1 W2 W3 W4 W5 W6 h1 h2 h3 h4 HE1 HE2 HN1 HN2 w
      ·rw [show max (Fl.code v1) (Fl.code v2) = Fl.code v1 by omega]; exact rJoin_k10 _ _ _ _ _ _ W1 W2 W3 W4 W5 W6 h1 h2 h3 h4 HE1 HE2 HN1 HN2 w
     ·rw [show min (Fl.code u1) (Fl.code u2) = Fl.code u1 by omega]
      by_cases h4 : Fl.code v1 < Fl.code v2
      ·rw [show max (Fl.code v1) (Fl.code v2) = Fl.code v2 by omega]; exact rJoin_k01 _ _ _ _ _ _ W1 W2 W3 W4 W5 W6 h1 h2 h3 h4 HE1 HE2 HN1 HN2 w
      ·rw [show max (Fl.code v1) (Fl.code v2) = Fl.code v1 by omega]; exact rJoin_k00 _ _ _ _ _ _ W1 W2 W3 W4 W5 W6 h1 h2 h3 h4 HE1 HE2 HN1 HN2 w
  ·exact rJoin_ft _ _ _ _ _ _ W1 W2 W3 W4 W5 W6 HE1 HE2 HN1 HN2 w
 ·exact rJoin_t _ _ _ _ _ _ W1 W2 W3 W4 W5 W6 e2 HE1 HE2 HN1 HN2 w
end Go.Proofs.YthjfkmjeppdcnaaGreat
