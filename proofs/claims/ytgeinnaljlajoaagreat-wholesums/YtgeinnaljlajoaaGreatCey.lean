/- The example that the laws through cert and serial begin with; no condition. -/
import Derived.Test.YtgeinnaljlajoaaGreatCew
import Derived.Test.YtgeinnaljlajoaaGreatCxS
import Derived.Test.YtgeinnaljlajoaaGreatCxR
namespace Go.Proofs.YtgeinnaljlajoaaGreat
open Go.RowKit Go.Lib
set_option linter.unusedVariables false
set_option linter.unusedSimpArgs false
set_option maxRecDepth 20000
attribute [local go_sem] run_bits run_frombits run_store_float eqF
def exS1 : Cp := (decC (newC 4 0) (oneU 1 4607182418800017408 4611686018427387904) 0).2.2
theorem exs_a : (decC (newC 4 0) (oneU 1 4607182418800017408 4611686018427387904) 0).1 = 0 ∧ (decC (newC 4 0) (oneU 1 4607182418800017408 4611686018427387904) 0).2.1 = 1 := by constructor <;> kernel_rfl
theorem exs_b : (decC exS1 (oneU 2 4611686018427387904 4607182418800017408) 0).1 = 112 ∧ (decC exS1 (oneU 2 4611686018427387904 4607182418800017408) 0).2.1 = 0 := by constructor <;> kernel_rfl
theorem oneS_ok (seq : Int) (r k : Nat) (hr : Fl.W r) (hk : Fl.W k) (w : World) : (oneS seq r k w.heap.size (w.heap.size + 1)).Ok ((w.alloc (.cells #[.float .f64 r] 37)).alloc (.cells #[.float .f64 k] 37)) := by
 have N := two_newK w (.cells #[.float .f64 r] 37) (.cells #[.float .f64 k] 37)
 refine ⟨⟨by show 1 ≤ _; omega, _, _, rfl, fun i hi => ⟨w.heap.size, 0, rfl, hr, ?_⟩⟩, ⟨by show 0 ≤ _; omega, _, _, rfl, fun i hi => by have : i < 0 := hi; omega⟩, ⟨by show 1 ≤ _; omega, _, _, rfl, fun i hi => ⟨w.heap.size + 1, 0, rfl, hk, ?_⟩⟩, by show 1 ≤ _; omega, by show 0 ≤ _; omega, by show 1 ≤ _; omega⟩
 ·obtain rfl : i = 0 := by have : i < 1 := hi; omega
  rw [Go.Joins.cell_of_block N.1]; rfl
 ·obtain rfl : i = 0 := by have : i < 1 := hi; omega
  rw [Go.Joins.cell_of_block N.2]; rfl
theorem dec_one (seq : Int) (r k : Nat) (n0 m0 : Int) (c0 : Cp) (hs : seq = 1 ∨ seq = 2) (hrk : (r = 4607182418800017408 ∧ k = 4611686018427387904) ∨ (r = 4611686018427387904 ∧ k = 4607182418800017408)) (W0 : World) (cb : Nat) (G : Cg) (w : World) (h : CtAt W0.heap.size cb G w) (ok : CpOk G.c) (u : Old W0 w) (hc : G.c = c0) (e1 : (decC c0 (oneU seq r k) 0).1 = n0) (e2 : (decC c0 (oneU seq r k) 0).2.1 = m0) :
    Calls Tryz.prog 8 #[.pointer (some ⟨cb, 0, none⟩), .agg #[.int .i64 1, .int .i64 seq, .int .i64 0, .slice (some ⟨w.heap.size, 0, none⟩) 1 1, .slice none 0 0, .slice (some ⟨w.heap.size + 1, 0, none⟩) 1 1]] ((w.alloc (.cells #[.float .f64 r] 37)).alloc (.cells #[.float .f64 k] 37)) fun e w' => ∃ G', e = .returned (.agg #[.int .i64 n0, .int .i64 m0]) ∧ CtAt W0.heap.size cb G' w' ∧ Old W0 w' ∧ G'.c = (decC c0 (oneU seq r k) 0).2.2 ∧ ∀ b o, w.heap[b]? = some o → b ∉ mblC cb G → w'.heap[b]? = some o := by
 have hW : Fl.W r ∧ Fl.W k := by rcases hrk with ⟨rfl, rfl⟩ | ⟨rfl, rfl⟩ <;> exact ⟨by unfold Fl.W; omega, by unfold Fl.W; omega⟩
 have U := ((Old.refl w).alloc (.cells #[.float .f64 r] 37)).alloc (.cells #[.float .f64 k] 37)
 have q := decide_any (oneS seq r k w.heap.size (w.heap.size + 1)) W0.heap.size cb G _ (oneS_ok seq r k hW.1 hW.2 w) (Sb.new_far (w := w) (n := w.heap.size) (fun g e => by cases e; exact Nat.le_refl _) rfl (fun g e => by cases e; exact Nat.le_succ _) (fun k q => (h.lt k q).2)) (h.old U) ok
 have ck : (oneS seq r k w.heap.size (w.heap.size + 1)).chk = 0 := chk_one seq hs r k _ _ (by rcases hrk with q | q; exact .inl q; exact .inr (.inl q))
 unfold DePost at q
 rw [ck, oneS_pl, hc, e1, e2] at q
 refine q.mono ?_
 rintro e w' ⟨G', rfl, a, m, c, -⟩
 exact ⟨G', rfl, a, m.keep (u.trans U) (h.old U), c, fun b o hb hn => m.1.heapAt (U.block hb) hn⟩
end Go.Proofs.YtgeinnaljlajoaaGreat
