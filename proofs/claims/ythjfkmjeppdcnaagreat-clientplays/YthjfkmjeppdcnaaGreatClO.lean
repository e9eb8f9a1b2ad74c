/- The document's bytes of a number and of a key; bytes behind bytes; conditions: the lengths fit. -/
import Derived.Test.YthjfkmjeppdcnaaGreatClM
import Derived.Test.YthjfkmjeppdcnaaGreatSqa
import Derived.Test.YthjfkmjeppdcnaaGreatClN
namespace Go.Proofs.YthjfkmjeppdcnaaGreat.Pk
set_option linter.unusedSimpArgs false
set_option maxRecDepth 20000
open Go.RowKit
set_option linter.unusedVariables false
attribute [local go_sem] run_bits run_frombits run_store_float
theorem row1 (w : World) (A : Int) (x : Nat → Nat) (h0 : A = (x 0 : Int)) (hl : x 0 < 256) :
    OwnB w.heap.size (w.alloc (.cells #[.int .u8 A] 5)) (.slice (some ⟨w.heap.size, 0, none⟩) 1 1) 1 x := by
 subst h0
 refine ⟨?_, fun i hi => by obtain rfl : i = 0 := by omega
                            exact hl⟩
 have h := World.ownsRow_lit (base := w.heap.size) (e := 5) (size := 1) w #[.int .u8 (x 0 : Int)] 1 (Nat.le_refl _) (by unfold maxLen; omega) rfl
 exact h
set_option maxHeartbeats 400000 in
theorem join_some (base : Nat) (v : Value) (n b off m cap : Nat) (X Y : Nat → Nat) (hnm : n + m ≤ 140737488355328) (w : World) (hown : OwnB base w v n X) (hbase : base ≤ w.heap.size) (hc : ∀ i, i < m → Y i < 256 ∧ w.cell? ⟨b, off + i, none⟩ = some (.int .u8 (Y i : Int))) (hne : some b ≠ v.ownBlock) :
    Calls Tryz.prog 51 #[v, .slice (some ⟨b, off, none⟩) m cap] w fun e w' => ∃ v', e = .returned v' ∧ OwnB base w' v' (n + m) (cat n X Y) ∧ Grew w v w' v' := by
 have HC := hid hc
 have HO := hid hown
 have HB := hid hne
 clear hc hown hne
 go_enter Tryz.func51, Tryz.ntmps51
 go_wp2
 go_loopw [0, 5] (fun a i wr => ∃ k : Nat, k ≤ m ∧ i = .int .i64 (k : Nat) ∧ OwnB base wr a (n + k) (cat n X Y) ∧ Grew w v wr a) (fun _ i _ => m - (intOf i).toNat)
 case atStart => exact ⟨0, Nat.zero_le _, rfl, HO.out.congr (fun i hi => by simp [cat, hi]), Grew.refl _ _⟩
 case round =>
  rename_i a i
  obtain ⟨k, hk, rfl, ho, hg⟩ := hrel
  by_cases hlt : k < m
  ·have hcell := hg.by_.cell (HC.out k hlt).2 HB.out
   have hy := (HC.out k hlt).1
   have HOk := hid ho
   have HR := hid (row1 wr (Y k) (fun _ => Y k) rfl hy)
   have hbs := hid (Nat.le_trans hbase hg.by_.size)
   clear ho HC
   go_wp2_with (at_builtin; refine wp_app rfl (.tmp 12) (.tmp 17) rfl base _ _ (n + k) 1 (cat n X Y) (fun _ => Y k) rfl rfl (HOk.out.alloc _) HR.out.row (by omega) (by have := hbs.out; simp; omega) ?_; intro v' w1 hown hgr hbel)
   go_roundw
   case rel => exact ⟨k + 1, hlt, by go_num, (show OwnB base w1 v' (n + (k + 1)) (cat (n + k) (cat n X Y) fun _ => Y k) from hown).congr (fun i hi => by unfold cat; by_cases h1 : i < n + k <;> by_cases h2 : i < n <;> simp [h1, h2] <;> first | omega | (congr 1; omega)), hg.trans (((Grew.refl _ _).alloc _).trans hgr)⟩
   case measure => simp [intOf]; omega
  ·obtain rfl : k = m := by omega
   go_wp2
   go_ret
   exact ⟨_, rfl, ho, hg⟩
set_option maxHeartbeats 400000 in
theorem join_none (base : Nat) (v : Value) (n : Nat) (a : Option Addr) (c : Nat) (X Y : Nat → Nat) (w : World) (hown : OwnB base w v n X) :
    Calls Tryz.prog 51 #[v, .slice a 0 c] w fun e w' => ∃ v', e = .returned v' ∧ OwnB base w' v' (n + 0) (cat n X Y) ∧ Grew w v w' v' := by
 have HO := hid hown
 clear hown
 go_enter Tryz.func51, Tryz.ntmps51
 go_wp2
 refine wp_loop_rounds 1 ?_
 rw [rounds_succ]
 go_wp2
 go_ret
 exact ⟨_, rfl, HO.out.congr (fun i hi => by simp [cat, hi]), Grew.refl _ _⟩
set_option maxHeartbeats 400000 in
theorem join_any (base : Nat) (v u : Value) (n m : Nat) (X Y : Nat → Nat) (hnm : n + m ≤ 140737488355328) (w : World) (hown : OwnB base w v n X) (hbase : base ≤ w.heap.size) (hu : ByRow w u m Y) (hne : m = 0 ∨ u.ownBlock ≠ v.ownBlock) :
    Calls Tryz.prog 51 #[v, u] w fun e w' => ∃ v', e = .returned v' ∧ OwnB base w' v' (n + m) (cat n X Y) ∧ Grew w v w' v' := by
 rcases hu with ⟨rfl, a, c, rfl, _⟩ | ⟨hm, _, b, off, cap, rfl, hc, _⟩
 ·exact join_none base v n a c X Y w hown
 ·refine join_some base v n b off m cap X Y hnm w hown hbase hc ?_
  rcases hne with h | h
  ·omega
  ·exact h
set_option maxHeartbeats 1000000 in
theorem refNum_any (z : Int) (h1 : -9223372036854775808 ≤ z) (h2 : z ≤ 9223372036854775807) (w : World) :
    Calls Tryz.prog 52 #[.int .i64 z] w fun e w' => ∃ v', e = .returned v' ∧ OwnL w.heap.size w' v' (numL z) ∧ Up w w' := by
 have hl := hid (fold_lt z h1 h2)
 have HG : Hid (numL z = grp 10 (fold z)) := rfl
 generalize hN : numL z = N at *
 clear hN
 by_cases hz : z < 0
 all_goals
  have HF := hid (show fold z = _ from rfl)
  go_enter Tryz.func52, Tryz.ntmps52
  go_wp2
  go_loopw [3, 4] (fun u a wr => ∃ (M : List Nat) (U f : Nat), u = .int .u64 (U : Int) ∧ U < 18446744073709551616 ∧ U < 128 ^ (f + 1) ∧ M.length + f ≤ 10 ∧ M ++ grp f U = N ∧ OwnL w.heap.size wr a M ∧ Up w wr) (fun u _ _ => (intOf u).toNat)
  case atStart => exact ⟨[], fold z, 10, by congr 1; unfold fold; split <;> omega, hl.out, Nat.lt_of_lt_of_le hl.out (by decide), by simp, HG.out.symm, OwnB.empty (Nat.le_refl _) rfl, (Up.refl w).alloc _⟩
  case round =>
   obtain ⟨M, U, f, rfl, hU, hUf, hMf, hgr, ho, hg⟩ := hrel
   have hUU := hid hU
   clear hU HF hz
   have HOk := hid ho
   have HGr := hid hgr
   have hbs := hid hg.size
   clear ho hgr
   by_cases hlt : U < 128
   ·have HR := hid (row1L wr (U : Int) U rfl (by omega))
    have hsm := hid (grp_small f U hlt)
    have hN : M ++ [U] = N := by rw [← hsm.out]; exact HGr.out
    have HN := hid hN
    clear hN hUf
    go_wp2_with (at_builtin; refine wp_app rfl (.tmp 28) (.tmp 31) rfl w.heap.size _ _ M.length [U].length (gd M) (gd [U]) rfl rfl (HOk.out.alloc _) HR.out (by simp; omega) (by have := hbs.out; simp; omega) ?_; intro v' w1 hown hgr1 hbel)
    go_ret
    exact ⟨_, rfl, by rw [← HN.out]; exact OwnL.app hown, Below.trans (hg.alloc _) hbel⟩
   ·have hr : (U : Int) % 128 + 128 = ((U % 128 + 128 : Nat) : Int) := by omega
    have HR := hid (row1L wr _ (U % 128 + 128) hr (by omega))
    have hf : f ≠ 0 := by intro h; subst h; simp at hUf; omega
    obtain ⟨f', rfl⟩ : ∃ f', f = f' + 1 := ⟨f - 1, by omega⟩
    have hN : (M ++ [U % 128 + 128]) ++ grp f' (U / 128) = N := by rw [List.append_assoc, List.singleton_append, ← grp_big f' U hlt]; exact HGr.out
    have HN := hid hN
    have hU2 : U / 128 < 128 ^ (f' + 1) := by rw [Nat.pow_succ] at hUf; exact Nat.div_lt_of_lt_mul (by omega)
    have HU2 := hid hU2
    have hU3 := hUU.out
    clear hN hUf hU2 hf hr
    go_wp2_with (at_builtin; refine wp_app rfl (.tmp 19) (.tmp 24) rfl w.heap.size _ _ M.length [U % 128 + 128].length (gd M) (gd [U % 128 + 128]) rfl rfl (HOk.out.alloc _) HR.out (by simp; omega) (by have := hbs.out; simp; omega) ?_; intro v' w1 hown hgr1 hbel)
    go_roundw
    case rel => exact ⟨M ++ [U % 128 + 128], U / 128, f', by go_num, by have := hUU.out; omega, HU2.out, by simp; omega, HN.out, OwnL.app hown, Below.trans (hg.alloc _) hbel⟩
    case measure => simp [intOf]; omega
theorem key_byte (c k : Nat) (hk : k < 8) : c * 256 ^ k % 18446744073709551616 / 72057594037927936 = c / 2 ^ (56 - 8 * k) % 256 := by
 match k, hk with
 | 0, _ => simp; omega
 | 1, _ => simp; omega
 | 2, _ => simp; omega
 | 3, _ => simp; omega
 | 4, _ => simp; omega
 | 5, _ => simp; omega
 | 6, _ => simp; omega
 | 7, _ => simp; omega
theorem key_next (c k : Nat) (hk : k < 8) : c * 256 ^ k % 18446744073709551616 * 256 % 18446744073709551616 = c * 256 ^ (k + 1) % 18446744073709551616 := by
 rw [Nat.pow_succ, ← Nat.mul_assoc, Nat.mod_mul_mod]
set_option maxHeartbeats 1000000 in
theorem refKey_any (x : Nat) (hx : Fl.W x) (w : World) :
    Calls Tryz.prog 54 #[.float .f64 x] w fun e w' => ∃ v', e = .returned v' ∧ OwnL w.heap.size w' v' (keyL (Fl.code x) 8) ∧ Up w w' := by
 have HC := hid (fun w => refCode_any x hx w)
 have hc := Fl.code_le x hx
 generalize Fl.code x = c at *
 have Hc := hid hc
 clear hc hx
 go_enter Tryz.func54, Tryz.ntmps54
 go_wp2_with (go_at_call 72; refine (HC.out _).mono ?_; rintro e w' ⟨rfl, hw⟩; have hw2 := hw.symm; subst hw2)
 go_loopw [3, 4, 5] (fun u a i wr => ∃ k : Nat, k ≤ 8 ∧ i = .int .i64 (k : Nat) ∧ u = .int .u64 ((c * 256 ^ k % 18446744073709551616 : Nat) : Int) ∧ OwnL w.heap.size wr a (keyL c k) ∧ Up w wr) (fun _ _ i _ => 8 - (intOf i).toNat)
 case atStart => exact ⟨0, by omega, rfl, by congr 1; have := Hc.out; simp; omega, OwnB.empty (Nat.le_refl _) rfl, (Up.refl w).alloc _⟩
 case round =>
  obtain ⟨k, hk, rfl, rfl, ho, hg⟩ := hrel
  have HOk := hid ho
  have hbs := hid hg.size
  have hl := hid (keyL_len c k)
  clear ho
  by_cases hlt : k < 8
  ·have KB := hid (key_byte c k hlt)
   have KN := hid (key_next c k hlt)
   have hU : c * 256 ^ k % 18446744073709551616 < 18446744073709551616 := Nat.mod_lt _ (by decide)
   generalize c * 256 ^ k % 18446744073709551616 = U at *
   have hq : U / 72057594037927936 < 256 := by omega
   have HR := hid (row1L wr ((U : Int) / 72057594037927936) (U / 72057594037927936) (by omega) hq)
   go_wp2_with (at_builtin; refine wp_app rfl (.tmp 13) (.tmp 17) rfl w.heap.size _ _ (keyL c k).length [U / 72057594037927936].length (gd (keyL c k)) (gd [U / 72057594037927936]) rfl rfl (HOk.out.alloc _) HR.out (by have := hl.out; simp; omega) (by have := hbs.out; simp; omega) ?_; intro v' w1 hown hgr1 hbel)
   go_roundw
   case rel => exact ⟨k + 1, by omega, by go_num, by congr 1; rw [← KN.out]; simp [IntKind.wrap, IntKind.bits, IntKind.signed]; try omega, (by rw [show keyL c (k + 1) = keyL c k ++ [U / 72057594037927936] by rw [KB.out]; rfl]; exact OwnL.app hown), Below.trans (hg.alloc _) hbel⟩
   case measure => simp [intOf]; omega
  ·obtain rfl : k = 8 := by omega
   go_wp2
   go_ret
   exact ⟨_, rfl, HOk.out, hg⟩
end Go.Proofs.YthjfkmjeppdcnaaGreat.Pk
namespace Go.Proofs.YthjfkmjeppdcnaaGreat
abbrev oHo0 : Oper := { dst := some 5, op := .fieldAddr 33 (.tmp 1) 0, type := 0, pos := "ref.go:85", after := #[], guard := none }
abbrev oHo1 : Oper := { dst := some 6, op := .load 2 (.tmp 5), type := 2, pos := "ref.go:85", after := #[⟨0, .data⟩], guard := none }
abbrev oHo2 : Oper := { dst := some 8, op := .fieldAddr 33 (.tmp 1) 1, type := 0, pos := "ref.go:85", after := #[], guard := none }
abbrev oHo3 : Oper := { dst := some 9, op := .load 2 (.tmp 8), type := 2, pos := "ref.go:85", after := #[⟨3, .data⟩], guard := none }
abbrev oHo4 : Oper := { dst := some 12, op := .fieldAddr 33 (.tmp 1) 2, type := 0, pos := "ref.go:85", after := #[], guard := none }
abbrev oHo5 : Oper := { dst := some 13, op := .load 2 (.tmp 12), type := 2, pos := "ref.go:85", after := #[⟨7, .data⟩], guard := none }
abbrev oHo6 : Oper := { dst := some 7, op := .call { callee := Callee.value (.func 52), args := #[.tmp 6], argTypes := #[2] }, type := 34, pos := "ref.go:85", after := #[⟨1, .data⟩], guard := none }
abbrev oHo7 : Oper := { dst := some 10, op := .call { callee := Callee.value (.func 52), args := #[.tmp 9], argTypes := #[2] }, type := 34, pos := "ref.go:85", after := #[⟨4, .data⟩, ⟨2, .chain⟩], guard := none }
abbrev oHo8 : Oper := { dst := some 11, op := .call { callee := Callee.value (.func 51), args := #[.tmp 7, .tmp 10], argTypes := #[34, 34] }, type := 34, pos := "ref.go:85", after := #[⟨2, .data⟩, ⟨5, .data⟩, ⟨5, .chain⟩], guard := none }
abbrev oHo9 : Oper := { dst := some 14, op := .call { callee := Callee.value (.func 52), args := #[.tmp 13], argTypes := #[2] }, type := 34, pos := "ref.go:85", after := #[⟨8, .data⟩, ⟨6, .chain⟩], guard := none }
abbrev oHo10 : Oper := { dst := some 15, op := .call { callee := Callee.value (.func 51), args := #[.tmp 11, .tmp 14], argTypes := #[34, 34] }, type := 34, pos := "ref.go:85", after := #[⟨6, .data⟩, ⟨9, .data⟩, ⟨9, .chain⟩], guard := none }
abbrev oHo11 : Oper := { dst := some 3, op := .assign (.tmp 15), type := 34, pos := "ref.go:85", after := #[⟨10, .data⟩, ⟨10, .chain⟩, ⟨0, .phase⟩, ⟨1, .phase⟩, ⟨2, .phase⟩, ⟨3, .phase⟩, ⟨4, .phase⟩, ⟨5, .phase⟩, ⟨6, .phase⟩, ⟨7, .phase⟩, ⟨8, .phase⟩, ⟨9, .phase⟩, ⟨10, .phase⟩], guard := none }
open Go.RowKit Go.Lib
set_option linter.unusedVariables false
set_option linter.unusedSimpArgs false
set_option maxRecDepth 20000
theorem OwnL.old' {base : Nat} {w w' : World} {v : Value} {L : List Nat} (h : Pk.OwnL base w v L) (u : Old w w') : Pk.OwnL base w' v L := by
 refine ⟨⟨h.own.1, ?_⟩, h.lt⟩
 rcases h.own.2 with e | ⟨g, cap, cur, e, hb', hg, r⟩
 ·exact .inl e
 ·exact .inr ⟨g, cap, cur, e, hb', by rw [u.block g (heapLt hg)]; exact hg, r⟩
theorem OwnL.lt' {base : Nat} {w : World} {v : Value} {L : List Nat} (h : Pk.OwnL base w v L) (k : Nat) (e : v.ownBlock = some k) : base ≤ k ∧ k < w.heap.size := World.ownsRow.lt h.own k e
theorem OwnL.slice' {base : Nat} {w : World} {v : Value} {L : List Nat} (h : Pk.OwnL base w v L) : ∃ a c, v = .slice a L.length c := by
 rcases h.own.2 with ⟨e, hn⟩ | ⟨g, cap, cur, e, _⟩
 ·exact ⟨none, 0, by rw [e, hn]⟩
 ·exact ⟨_, _, e⟩
theorem joinL {base b2 : Nat} {w : World} {v u : Value} {A B : List Nat} (ho : Pk.OwnL base w v A) (hn : Pk.OwnL b2 w u B) (hb : base ≤ w.heap.size) (hv : ∀ k, v.ownBlock = some k → k < b2) (hl : A.length + B.length ≤ 1000000) :
    Calls Tryz.prog 51 #[v, u] w fun e w' => ∃ v', e = .returned v' ∧ Pk.OwnL base w' v' (A ++ B) ∧ w.grownBy w' v.ownBlock := by
 refine (Pk.join_any base v u A.length B.length (Pk.gd A) (Pk.gd B) (by omega) w ho hb hn.row ?_).mono ?_
 ·by_cases h0 : B.length = 0
  ·exact .inl h0
  ·right
   intro e
   cases hk : u.ownBlock with
   | none =>
    rcases hn.own.2 with ⟨_, q⟩ | ⟨g, cap, cur, q, _⟩
    ·exact h0 q
    ·rw [q] at hk; simp [Value.ownBlock] at hk
   | some k =>
    rw [hk] at e
    have h1 := hv k e.symm
    have h2 := (OwnL.lt' hn k hk).1
    omega
 ·rintro e w' ⟨v', rfl, o, g⟩
  exact ⟨v', rfl, Pk.OwnL.app o, g.by_⟩
theorem join_step {sb : Nat} {w0 w w' : World} {s1 s2 s3 : Int} {v1 v2 v3 v : Value} {A : List Nat} (hs : SubAt sb s1 s2 s3 v1 v2 v3 w) (ho : Pk.OwnL (sb + 1) w v A) (hu : Old w0 w) (hb : w0.heap.size = sb) (g : w.grownBy w' v.ownBlock) : SubAt sb s1 s2 s3 v1 v2 v3 w' ∧ Old w0 w' := by
 refine ⟨hs.grown g (fun e => ?_), Below.grown hu g hu.size (fun k e => ?_)⟩
 ·have := (OwnL.lt' ho sb e.symm).1
  omega
 ·have := (OwnL.lt' ho k e).1
  omega
theorem refNum_old (z : Int) (h1 : -9223372036854775808 ≤ z) (h2 : z ≤ 9223372036854775807) (w : World) : Calls Tryz.prog 52 #[.int .i64 z] w fun e w' => ∃ v', e = .returned v' ∧ Pk.OwnL w.heap.size w' v' (Pk.numL z) ∧ Old w w' := Pk.refNum_any z h1 h2 w
theorem refKey_old (x : Nat) (hx : Fl.W x) (w : World) : Calls Tryz.prog 54 #[.float .f64 x] w fun e w' => ∃ v', e = .returned v' ∧ Pk.OwnL w.heap.size w' v' (keyB x) ∧ Old w w' := Pk.refKey_any x hx w
def kB (x : Nat → Nat) (n k : Nat) : List Nat := Pk.numL n ++ (rl x k).flatMap keyB
theorem kB_step (x : Nat → Nat) (n k : Nat) : kB x n (k + 1) = kB x n k ++ keyB (x k) := by simp [kB, rl_succ]
theorem flat8 (x : Nat → Nat) : ∀ k, ((rl x k).flatMap keyB).length = 8 * k
 | 0 => rfl
 | k + 1 => by
  rw [rl_succ, List.flatMap_append, List.length_append, flat8 x k]
  have : ([x k].flatMap keyB).length = 8 := by simp [keyB_len]
  omega
theorem kB_len (x : Nat → Nat) (n k : Nat) (hn : n ≤ 1000) (hk : k ≤ n) : (kB x n k).length ≤ 8 * k + 10 := by
 unfold kB
 rw [List.length_append, flat8]
 have := (Pk.num_len (n : Int) (by omega) (by omega)).2
 omega
attribute [local go_sem] run_bits run_frombits run_store_float eqF
set_option maxHeartbeats 1000000 in
theorem rkeys_any (v : Value) (n : Nat) (x : Nat → Nat) (hn : n ≤ 1000) (w : World) (hv : FRow w v n x) :
    Calls Tryz.prog 53 #[v] w fun e w' => ∃ v', e = .returned v' ∧ Pk.OwnL w.heap.size w' v' (kB x n n) ∧ Old w w' := by
 obtain ⟨hb, a, c, rfl, hc⟩ := hv
 have HC := hid hc
 clear hc
 have HN := hid (fun W => refNum_old (n : Int) (by omega) (by omega) W)
 go_enter Tryz.func53, Tryz.ntmps53
 go_upto_region 2 with (first | (go_at_call 52; refine (HN.out _).mono ?_; rintro e w1 ⟨v1, rfl, o1, u1⟩; have U1 := hid u1; have O1 := hid (show Pk.OwnL w.heap.size w1 v1 (kB x n 0) from by simpa [kB, rl] using o1); clear u1 o1))
 clear HN
 go_wp2
 go_loopw [3, 4] (fun o i wr => ∃ k : Nat, k ≤ n ∧ i = .int .i64 (k : Nat) ∧ Pk.OwnL w.heap.size wr o (kB x n k) ∧ Old w wr) (fun _ i _ => n - (intOf i).toNat)
 case atStart => exact ⟨0, Nat.zero_le _, rfl, O1.out, U1.out⟩
 case round =>
  obtain ⟨k, hk, rfl, ho, hu⟩ := hrel
  have HU := hid hu
  have HO := hid ho
  clear hu ho O1 U1
  by_cases hlt : k < n
  ·obtain ⟨b, off, ha, hW, c0⟩ := HC.out k hlt
   subst ha
   have x0 := HU.out.keep c0
   have l1 : (0 : Int) ≤ (k : Int) := by omega
   have l2 : (k : Int) < (n : Int) := by omega
   clear c0
   have HK := hid (fun W => refKey_old (x k) hW W)
   have HS := hid (kB_step x n k)
   have HL := hid (kB_len x n k hn hk)
   have HL2 := hid (keyB_len (x k))
   generalize x k = xk at *
   generalize hKl : kB x n k = KL at *
   clear hKl
   go_wp2_with (first | (go_at_call 54; refine (HK.out _).mono ?_; rintro e w3 ⟨v3, rfl, o3, u3⟩; have O3 := hid o3; have U3 := hid u3; clear o3 u3) | (go_at_call 51; refine (joinL (OwnL.old' HO.out U3.out) O3.out (by have := HU.out.size; have := U3.out.size; omega) (fun j e => (OwnL.lt' HO.out j e).2) (by have := HL.out; have := HL2.out; omega)).mono ?_; rintro e w4 ⟨v4, rfl, o4, g4⟩; have O4 := hid o4; have U4 := hid (show Old w w4 from Below.grown (HU.out.trans U3.out) g4 (by have := HU.out.size; have := U3.out.size; omega) (fun j e => (OwnL.lt' HO.out j e).1)); clear o4 g4))
   go_roundw
   case rel => exact ⟨k + 1, hlt, by go_num, by rw [HS.out]; exact O4.out, U4.out⟩
   case measure => simp [intOf]; omega
  ·obtain rfl : k = n := by omega
   go_wp2
   go_ret
   exact ⟨_, rfl, HO.out, HU.out⟩
theorem ent_rnum (args : Array Value) (w : World) : (callFunc 52 args).run Tryz.prog w = .ok (.enter 52 args) w := by kernel_rfl
theorem ent_rjoin (args : Array Value) (w : World) : (callFunc 51 args).run Tryz.prog w = .ok (.enter 51 args) w := by kernel_rfl
def sBs (f : Nat → Sp) (k : Nat) : List Nat := (rl f k).flatMap sB
theorem sBs_step (f : Nat → Sp) (k : Nat) : sBs f (k + 1) = sBs f k ++ keyB (f k).a ++ keyB (f k).b := by simp [sBs, rl_succ, sB]
theorem sBs_len (f : Nat → Sp) : ∀ k, (sBs f k).length = 16 * k
 | 0 => rfl
 | k + 1 => by
  rw [sBs_step, List.length_append, List.length_append, sBs_len f k, keyB_len, keyB_len]
  omega
def preB (s1 s2 s3 : Int) (n1 n2 : Nat) (x1 : Nat → Nat) : List Nat := Pk.numL s1 ++ Pk.numL s2 ++ Pk.numL s3 ++ kB x1 n1 n1 ++ Pk.numL n2
theorem encS_pre (s1 s2 s3 : Int) (n1 n2 n3 : Nat) (x1 x3 : Nat → Nat) (f2 : Nat → Sp) : encS s1 s2 s3 n1 n2 n3 x1 x3 f2 = (preB s1 s2 s3 n1 n2 x1 ++ sBs f2 n2) ++ kB x3 n3 n3 := by
 rw [encS_bytes]
 unfold bytesS kRest sRest preB kB sBs
 simp [List.append_assoc]
set_option maxHeartbeats 8000000 in
theorem refBytes_any (s1 s2 s3 : Int) (a1 a2 a3 : Option Addr) (n1 n2 n3 c1 c2 c3 : Nat) (x1 x3 : Nat → Nat) (f2 : Nat → Sp) (w : World) (h1 : FRow w (.slice a1 n1 c1) n1 x1) (h2 : SRow w (.slice a2 n2 c2) n2 f2) (h3 : FRow w (.slice a3 n3 c3) n3 x3) (hs : (1 ≤ s1 ∧ s1 ≤ 1099511627776) ∧ (1 ≤ s2 ∧ s2 ≤ 1099511627776) ∧ 0 ≤ s3 ∧ s3 ≤ 1099511627776) (hn : n1 ≤ 16 ∧ n2 ≤ 8 ∧ n3 ≤ 16) :
    Calls Tryz.prog 30 #[.agg #[.int .i64 s1, .int .i64 s2, .int .i64 s3, .slice a1 n1 c1, .slice a2 n2 c2, .slice a3 n3 c3]] w fun e w' => ∃ v', e = .returned v' ∧ Pk.OwnL w.heap.size w' v' (encS s1 s2 s3 n1 n2 n3 x1 x3 f2) ∧ Old w w' := by
 have HN1 := hid (fun (W : World) (t : True) => refNum_old s1 (by omega) (by omega) W)
 have HN2 := hid (fun (W : World) (t : True) => refNum_old s2 (by omega) (by omega) W)
 have HN3 := hid (fun (W : World) (t : True) => refNum_old s3 (by omega) (by omega) W)
 have HN4 := hid (fun (W : World) => refNum_old (n2 : Int) (by omega) (by omega) W)
 have HK1 := hid (fun (W : World) (u : Old w W) => rkeys_any _ n1 x1 (by omega) W (h1.old u))
 have HK3 := hid (fun (W : World) (u : Old w W) => rkeys_any _ n3 x3 (by omega) W (h3.old u))
 have HL1 := hid (Pk.num_len s1 (by omega) (by omega)).2
 have HL2 := hid (Pk.num_len s2 (by omega) (by omega)).2
 have HL3 := hid (Pk.num_len s3 (by omega) (by omega)).2
 have HL4 := hid (Pk.num_len (n2 : Int) (by omega) (by omega)).2
 have HL5 := hid (show (kB x1 n1 n1).length ≤ 1000 by have := kB_len x1 n1 n1 (by omega) (Nat.le_refl _); omega)
 have HL6 := hid (show (kB x3 n3 n3).length ≤ 1000 by have := kB_len x3 n3 n3 (by omega) (Nat.le_refl _); omega)
 have HL7 := hid (show ∀ k, k ≤ n2 → (sBs f2 k).length ≤ 1000 from fun k hk => by rw [sBs_len]; omega)
 have HE := hid (encS_pre s1 s2 s3 n1 n2 n3 x1 x3 f2)
 have HP := hid (show preB s1 s2 s3 n1 n2 x1 = Pk.numL s1 ++ Pk.numL s2 ++ Pk.numL s3 ++ kB x1 n1 n1 ++ Pk.numL n2 from rfl)
 have HSt := hid (sBs_step f2)
 have HS0 := hid (show sBs f2 0 = [] from rfl)
 have R2 := hid h2
 clear h1 h2 h3 hs hn
 generalize encS s1 s2 s3 n1 n2 n3 x1 x3 f2 = ES at *
 generalize preB s1 s2 s3 n1 n2 x1 = PB at *
 generalize Pk.numL s1 = B1 at *
 generalize Pk.numL s2 = B2 at *
 generalize Pk.numL s3 = B3 at *
 generalize Pk.numL (n2 : Int) = B4 at *
 generalize kB x1 n1 n1 = B5 at *
 generalize kB x3 n3 n3 = B6 at *
 go_enter Tryz.func30, Tryz.ntmps30
 go_upto_region 1 with fail
 generalize hw1 : w.alloc (.cells #[.int .i64 s1, .int .i64 s2, .int .i64 s3, .slice a1 n1 c1, .slice a2 n2 c2, .slice a3 n3 c3] 33) = w1 at *
 generalize hsb : w.heap.size = sb at *
 obtain ⟨hS, hV⟩ := sub_new w s1 s2 s3 _ _ _ w1 hw1 sb hsb
 have HV := hid hV
 have BS := hid hS
 have HSB := hid hsb
 have HS1 := hid (show sb + 1 = w1.heap.size by rw [← hw1, ← hsb]; simp)
 clear hw1 hV hsb hS
 refine wp_region_noPanic ?_
 refine wp_region_held_drew (S := SubAt sb s1 s2 s3 (.slice a1 n1 c1) (.slice a2 n2 c2) (.slice a3 n3 c3)) (by kernel_rfl) ?_ (fun hHeld => ?_)
 ·exact SubAt.old ((Old.refl w1).drew) BS.out
 try simp only [Act.put, puA, puB, puC]
 clear hHeld
 refine tkA (i := 0) (oi := oHo0) ((SubAt.old ((Old.refl w1).drew) BS.out)) ?_
 try simp only [Act.put, puA, puB, puC]
 refine tkA (i := 1) (oi := oHo1) ((SubAt.old ((Old.refl w1).drew) BS.out)) ?_
 try simp only [Act.put, puA, puB, puC]
 refine tkA (i := 3) (oi := oHo2) ((SubAt.old ((Old.refl w1).drew) BS.out)) ?_
 try simp only [Act.put, puA, puB, puC]
 refine tkA (i := 4) (oi := oHo3) ((SubAt.old ((Old.refl w1).drew) BS.out)) ?_
 try simp only [Act.put, puA, puB, puC]
 refine tkA (i := 7) (oi := oHo4) ((SubAt.old ((Old.refl w1).drew) BS.out)) ?_
 try simp only [Act.put, puA, puB, puC]
 refine tkA (i := 8) (oi := oHo5) ((SubAt.old ((Old.refl w1).drew) BS.out)) ?_
 try simp only [Act.put, puA, puB, puC]
 refine rdB 2 oHo6 fun K hK => ?_
 refine wantCall1 ?_ 52 (.tmp 6) #[2] ?_ (.int .i64 s1) ?_ ?_ (ent_rnum _ _) ?_
 iterate 4 rfl
 refine (HN1.out _ trivial).mono ?_
 rintro o x7 ⟨va, rfl, oa, ua⟩
 have S7 := SubAt.old ua (SubAt.old ((Old.refl w1).drew) BS.out)
 have Oa := hid (Pk.OwnL.mono' oa (show sb + 1 ≤ w1.heap.size from Nat.le_of_eq HS1.out))
 have V7 : Old w x7 := (HV.out.drew).trans ua
 have Z7 := hid (show sb + 1 ≤ x7.heap.size by have := ua.size; have := HS1.out; have e1 : w1.drew.heap.size = w1.heap.size := rfl; omega)
 clear oa ua
 refine ⟨_, rfl, ?_⟩
 refine hK.out _ _ (S7) (fun _ => ?_)
 clear hK K
 try simp only [Act.put, puA, puB, puC]
 refine rdB 5 oHo7 fun K hK => ?_
 refine wantCall1 ?_ 52 (.tmp 9) #[2] ?_ (.int .i64 s2) ?_ ?_ (ent_rnum _ _) ?_
 iterate 4 rfl
 refine (HN2.out _ trivial).mono ?_
 rintro o x8 ⟨vb, rfl, ob, ub⟩
 have S8 := SubAt.old ub S7
 have V8 := V7.trans ub
 have HJ1 := hid (show ∀ (W : World), W = x8 → Calls Tryz.prog 51 #[va, vb] W fun e w' => ∃ v', e = .returned v' ∧ Pk.OwnL (sb + 1) w' v' (B1 ++ B2) ∧ W.grownBy w' va.ownBlock from fun W e => by subst e; exact joinL (OwnL.old' Oa.out ub) ob (by have := ub.size; have := Z7.out; omega) (fun j q => (OwnL.lt' Oa.out j q).2) (by have := HL1.out; have := HL2.out; omega))
 have Oa2 := hid (OwnL.old' Oa.out ub)
 have Z8 := hid (show sb + 1 ≤ x8.heap.size by have := ub.size; have := Z7.out; omega)
 clear ob ub
 refine ⟨_, rfl, ?_⟩
 refine hK.out _ _ (S8) (fun _ => ?_)
 clear hK K
 try simp only [Act.put, puA, puB, puC]
 refine rdB 6 oHo8 fun K hK => ?_
 refine wantCall2 ?_ 51 (.tmp 7) (.tmp 10) #[34, 34] ?_ (va) (vb) ?_ ?_ ?_ (ent_rjoin _ _) ?_
 iterate 5 rfl
 refine (HJ1.out _ rfl).mono ?_
 rintro o x9 ⟨vc, rfl, oc, gc⟩
 have Q9 := join_step S8 Oa2.out V8 HSB.out gc
 have S9 := Q9.1
 have V9 := Q9.2
 have Oc := hid oc
 have Z9 := hid (show sb + 1 ≤ x9.heap.size by have := gc.size; have := Z8.out; omega)
 clear oc gc
 refine ⟨_, rfl, ?_⟩
 refine hK.out _ _ (S9) (fun _ => ?_)
 clear hK K
 try simp only [Act.put, puA, puB, puC]
 refine rdB 9 oHo9 fun K hK => ?_
 refine wantCall1 ?_ 52 (.tmp 13) #[2] ?_ (.int .i64 s3) ?_ ?_ (ent_rnum _ _) ?_
 iterate 4 rfl
 refine (HN3.out _ trivial).mono ?_
 rintro o x10 ⟨vd, rfl, od, ud⟩
 have S10 := SubAt.old ud S9
 have V10 := V9.trans ud
 have HJ2 := hid (show ∀ (W : World), W = x10 → Calls Tryz.prog 51 #[vc, vd] W fun e w' => ∃ v', e = .returned v' ∧ Pk.OwnL (sb + 1) w' v' (B1 ++ B2 ++ B3) ∧ W.grownBy w' vc.ownBlock from fun W e => by subst e; exact joinL (OwnL.old' Oc.out ud) od (by have := ud.size; have := Z9.out; omega) (fun j q => (OwnL.lt' Oc.out j q).2) (by rw [List.length_append]; have := HL1.out; have := HL2.out; have := HL3.out; omega))
 have Oc2 := hid (OwnL.old' Oc.out ud)
 have Z10 := hid (show sb + 1 ≤ x10.heap.size by have := ud.size; have := Z9.out; omega)
 clear od ud
 refine ⟨_, rfl, ?_⟩
 refine hK.out _ _ (S10) (fun _ => ?_)
 clear hK K
 try simp only [Act.put, puA, puB, puC]
 refine rdB 10 oHo10 fun K hK => ?_
 refine wantCall2 ?_ 51 (.tmp 11) (.tmp 14) #[34, 34] ?_ (vc) (vd) ?_ ?_ ?_ (ent_rjoin _ _) ?_
 iterate 5 rfl
 refine (HJ2.out _ rfl).mono ?_
 rintro o x11 ⟨ve, rfl, oe, ge⟩
 have Q11 := join_step S10 Oc2.out V10 HSB.out ge
 have S11 := Q11.1
 have V11 := Q11.2
 have Oe := hid oe
 have Z11 := hid (show sb + 1 ≤ x11.heap.size by have := ge.size; have := Z10.out; omega)
 clear oe ge
 refine ⟨_, rfl, ?_⟩
 refine hK.out _ _ (S11) (fun _ => ?_)
 clear hK K
 try simp only [Act.put, puA, puB, puC]
 refine rdB 11 oHo11 fun K hK => ?_
 go_simp
 refine hK.out _ _ (S11) (fun _ => ?_)
 clear hK K
 try simp only [Act.put, puA, puB, puC]
 refine wpAnyH_done (by kernel_rfl) ?_ _
 refine NoPanic.normal ?_
 have T1 := hid S11
 have U1 := hid V11
 have ZA := hid Z11.out
 clear S11 V11
 generalize hX1 : B1 ++ B2 ++ B3 = X1 at *
 have LX1 := hid (show X1.length ≤ 30 by rw [← hX1, List.length_append, List.length_append]; have := HL1.out; have := HL2.out; have := HL3.out; omega)
 clear hX1
 generalize x11 = y0 at *
 obtain ⟨t0, t1, t2, t3, t4, t5⟩ := T1.out
 go_upto_region 3 with (first | (go_at_call 53; refine (HK1.out _ U1.out).mono ?_; rintro e y1 ⟨v1, rfl, o1, u1⟩; have O1 := hid o1; have Oe1 := hid (OwnL.old' Oe.out u1); have S1 := hid (SubAt.old u1 T1.out); have V1 := hid (U1.out.trans u1); have Z1 := hid (Nat.le_trans ZA.out u1.size); clear o1 u1) | (go_at_call 51; refine (joinL Oe1.out O1.out Z1.out (fun j q => (OwnL.lt' Oe.out j q).2) (by have := LX1.out; have := HL5.out; omega)).mono ?_; rintro e y2 ⟨v2, rfl, o2, g2⟩; have O2 := hid o2; have Q2 := hid (join_step S1.out Oe1.out V1.out HSB.out g2); have Z2 := hid (Nat.le_trans Z1.out g2.size); clear o2 g2))
 clear t0 t1 t2 t3 t4 t5 O1 Oe1 S1 V1 Z1 T1 U1 ZA HK1 Oe
 obtain ⟨⟨t0, t1, t2, t3, t4, t5⟩, V2⟩ := Q2.out
 have U2 := hid V2
 clear V2
 generalize hX2 : X1 ++ B5 = X2 at *
 have LX2 := hid (show X2.length ≤ 1030 by rw [← hX2, List.length_append]; have := LX1.out; have := HL5.out; omega)
 have HX2 := hid hX2
 clear hX2
 go_upto_region 4 with (first | (go_at_call 52; refine (HN4.out _).mono ?_; rintro e y3 ⟨v3, rfl, o3, u3⟩; have O3 := hid o3; have O2b := hid (OwnL.old' O2.out u3); have S3 := hid (SubAt.old u3 Q2.out.1); have V3 := hid (U2.out.trans u3); have Z3 := hid (Nat.le_trans Z2.out u3.size); clear o3 u3) | (go_at_call 51; refine (joinL O2b.out O3.out Z3.out (fun j q => (OwnL.lt' O2.out j q).2) (by have := LX2.out; have := HL4.out; omega)).mono ?_; rintro e y4 ⟨v4, rfl, o4, g4⟩; have O4 := hid o4; have Q4 := hid (join_step S3.out O2b.out V3.out HSB.out g4); have Z4 := hid (Nat.le_trans Z3.out g4.size); clear o4 g4))
 clear t0 t1 t2 t3 t4 t5 O2 O3 O2b S3 V3 Z3 Q2 Z2 U2 HN4
 have PE := hid (show PB = X2 ++ B4 from by rw [HP.out, ← HX2.out])
 rw [← PE.out] at O4
 have LPB := hid (show PB.length ≤ 1040 by rw [PE.out, List.length_append]; have := LX2.out; have := HL4.out; omega)
 have O4s := hid (show Pk.OwnL (sb + 1) y4 v4 (PB ++ sBs f2 0) from by rw [HS0.out, List.append_nil]; exact O4.out)
 clear HX2 LX2 LX1 HP PE O4 HS0 HL1 HL2 HL3 HL4 HL5
 go_wp2
 go_loopw [3, 4] (fun o i wr => ∃ k : Nat, k ≤ n2 ∧ i = .int .i64 (k : Nat) ∧ Pk.OwnL (sb + 1) wr o (PB ++ sBs f2 k) ∧ SubAt sb s1 s2 s3 (.slice a1 n1 c1) (.slice a2 n2 c2) (.slice a3 n3 c3) wr ∧ Old w wr ∧ sb + 1 ≤ wr.heap.size) (fun _ i _ => n2 - (intOf i).toNat)
 case atStart => exact ⟨0, Nat.zero_le _, rfl, O4s.out, Q4.out.1, Q4.out.2, Z4.out⟩
 case round =>
  obtain ⟨k, hk, rfl, ho, hs, hu, hz⟩ := hrel
  have HO := hid ho
  have HSs := hid hs
  have HU := hid hu
  have HZ := hid hz
  clear ho hs hu hz O4s Q4 Z4
  obtain ⟨t0, t1, t2, t3, t4, t5⟩ := HSs.out
  have LK := hid (show (PB ++ sBs f2 k).length ≤ 2040 by rw [List.length_append]; have := LPB.out; have := HL7.out k hk; omega)
  by_cases hlt : k < n2
  ·obtain ⟨_, qa, qc, hv, hcx⟩ := R2.out.old HU.out
   simp only [Value.slice.injEq] at hv
   obtain ⟨rfl, _, rfl⟩ := hv
   obtain ⟨b, off, ha, hWa, hWb, z0, z1, z2, z3⟩ := hcx k hlt
   subst ha
   have l1 : (0 : Int) ≤ (k : Int) := by omega
   have l2 : (k : Int) < (n2 : Int) := by omega
   have HKa := hid (fun W => refKey_old (f2 k).a hWa W)
   have HKb := hid (fun W => refKey_old (f2 k).b hWb W)
   have HLa := hid (keyB_len (f2 k).a)
   have HLb := hid (keyB_len (f2 k).b)
   have HSk := hid (HSt.out k)
   have RS := hid (fun (W : World) (u : Old w W) => R2.out.old u)
   clear hcx hWa hWb
   generalize hfk : f2 k = s at *
   have HFk := hid hfk
   clear hfk
   generalize hKL : PB ++ sBs f2 k = KL at *
   have HKL := hid hKL
   clear hKL
   go_upto_region 8 with (first | (go_at_call 54; refine (HKa.out _).mono ?_; rintro e y1 ⟨v1, rfl, o1, u1⟩; have O1 := hid o1; have Oo1 := hid (OwnL.old' HO.out u1); have S1 := hid (SubAt.old u1 HSs.out); have V1 := hid (HU.out.trans u1); have Z1 := hid (Nat.le_trans HZ.out u1.size); clear o1 u1) | (go_at_call 51; refine (joinL Oo1.out O1.out Z1.out (fun j q => (OwnL.lt' HO.out j q).2) (by have := LK.out; have := HLa.out; omega)).mono ?_; rintro e y2 ⟨v2, rfl, o2, g2⟩; have O2 := hid o2; have Q2 := hid (join_step S1.out Oo1.out V1.out HSB.out g2); have Z2 := hid (Nat.le_trans Z1.out g2.size); clear o2 g2))
   clear t0 t1 t2 t3 t4 t5 z0 z1 z2 z3 O1 Oo1 S1 V1 Z1
   obtain ⟨⟨t0, t1, t2, t3, t4, t5⟩, V2⟩ := Q2.out
   have U2 := hid V2
   clear V2
   obtain ⟨_, qa, qc, hv, hcx⟩ := R2.out.old U2.out
   simp only [Value.slice.injEq] at hv
   obtain ⟨e1, -, -⟩ := hv
   obtain ⟨b', off', ha, _, _, z0, z1, z2, z3⟩ := hcx k hlt
   rw [ha] at e1
   simp only [Option.some.injEq, Addr.mk.injEq] at e1
   obtain ⟨rfl, rfl, -⟩ := e1
   rw [HFk.out] at z0 z1 z2 z3
   clear hcx ha
   go_wp2_with (first | (go_at_call 54; refine (HKb.out _).mono ?_; rintro e y3 ⟨v3, rfl, o3, u3⟩; have O3 := hid o3; have Oo3 := hid (OwnL.old' O2.out u3); have S3 := hid (SubAt.old u3 Q2.out.1); have V3 := hid (U2.out.trans u3); have Z3 := hid (Nat.le_trans Z2.out u3.size); clear o3 u3) | (go_at_call 51; refine (joinL Oo3.out O3.out Z3.out (fun j q => (OwnL.lt' O2.out j q).2) (by rw [List.length_append]; have := LK.out; have := HLa.out; have := HLb.out; omega)).mono ?_; rintro e y4 ⟨v4, rfl, o4, g4⟩; have O4 := hid o4; have Q4 := hid (join_step S3.out Oo3.out V3.out HSB.out g4); have Z4 := hid (Nat.le_trans Z3.out g4.size); clear o4 g4))
   go_roundw
   case rel => exact ⟨k + 1, hlt, by go_num, by rw [HSk.out, ← List.append_assoc, ← List.append_assoc, HKL.out]; exact O4.out, Q4.out.1, Q4.out.2, Z4.out⟩
   case measure => simp [intOf]; omega
  ·obtain rfl : k = n2 := by omega
   go_wp2_with (first | (go_at_call 53; refine (HK3.out _ HU.out).mono ?_; rintro e y1 ⟨v1, rfl, o1, u1⟩; have O1 := hid o1; have Oo1 := hid (OwnL.old' HO.out u1); have S1 := hid (SubAt.old u1 HSs.out); have V1 := hid (HU.out.trans u1); have Z1 := hid (Nat.le_trans HZ.out u1.size); clear o1 u1) | (go_at_call 51; refine (joinL Oo1.out O1.out Z1.out (fun j q => (OwnL.lt' HO.out j q).2) (by have := LK.out; have := HL6.out; omega)).mono ?_; rintro e y2 ⟨v2, rfl, o2, g2⟩; have O2 := hid o2; have Q2 := hid (join_step S1.out Oo1.out V1.out HSB.out g2); clear o2 g2))
   go_ret
   exact ⟨_, rfl, Pk.OwnL.mono' (by rw [HE.out]; exact O2.out) (by have := HSB.out; omega), Q2.out.2⟩
end Go.Proofs.YthjfkmjeppdcnaaGreat
