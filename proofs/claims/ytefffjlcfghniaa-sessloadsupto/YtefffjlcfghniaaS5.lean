/- sess' Load where a table's bytes stand: the whole; conditions: the bytes lie in memory. -/
import Derived.Test.YtefffjlcfghniaaS4
namespace Go.Proofs.Ytefffjlcfghniaa
open Go.RowKit Go.Lib
set_option linter.unusedVariables false
set_option linter.unusedSimpArgs false
set_option maxRecDepth 20000
theorem toOldP {S : List Nat} {a b c : World} (h : Old a b) (k : Pk.Chg S b c) (hS : ∀ j ∈ S, a.heap.size ≤ j) : Old a c := by
  have h2 := h.size
  exact ⟨k.os.trans h.os, k.tape.trans h.tape, k.output.trans h.output, Nat.le_trans h.size k.size, fun i hi => (k.block i (Nat.lt_of_lt_of_le hi h.size) (fun e => by have := hS i e; omega)).trans (Below.block h i hi)⟩
theorem tabX_of {w : World} {tb mb : Nat} {ks : List Int} {L : Int → List It} (h : TabIs w tb [tb, mb] ks L) : TabX w tb mb [tb, mb] ks L := by
  obtain ⟨mb', M, h1, h2, h3, r⟩ := h
  have e : mb' = mb := by
    simp at h2
    rcases h2 with q | q
    · exact absurd q.symm h3
    · exact q
  subst e
  exact ⟨M, h1, h2, h3, r⟩
theorem LT_full {L : Int → List It} {S : List Int} (h : ∀ k, k ∉ S → L k = []) : LT L S S.length = L := by
  funext id
  unfold LT
  rw [List.take_length]
  by_cases q : id ∈ S
  · rw [if_pos q]
  · rw [if_neg q, h id q]
set_option maxHeartbeats 2000000 in
set_option maxRecDepth 20000 in
theorem loadRead_ok (L : Int → List It) (S : List Int) (w : World) (a0 : Option Addr) (c0 vb tb mb : Nat) (hB : Pk.ByRow w (.slice a0 (numB (tabN L S S.length)).length c0) (numB (tabN L S S.length)).length (Pk.gd (numB (tabN L S S.length)))) (hX : TabX w tb mb [tb, mb] [] (fun _ => [])) (hv : w.cell? ⟨vb, 0, none⟩ = some (.pointer (some ⟨tb, 0, none⟩))) (hvn : vb ≠ tb ∧ vb ≠ mb) (hf : ∀ a, a0 = some a → 0 < (numB (tabN L S S.length)).length → a.block ≠ tb ∧ a.block ≠ mb) (hS : S.length ≤ 16) (hp : S.Pairwise (· < ·)) (hr : ∀ z ∈ S, 1 ≤ z ∧ z ≤ 1099511627776) (hK : ∀ z ∈ S, Kp (L z)) :
    Calls Try.prog 30 #[.slice a0 (numB (tabN L S S.length)).length c0, .func (.func 31) #[] #[.pointer (some ⟨vb, 0, none⟩)]] w fun e w' => Pk.Chg [mb] w w' ∧ e = .returned (.int .i64 0) ∧ ∃ Bs, TabX w' tb mb Bs S (LT L S S.length) ∧ ∀ b ∈ Bs, (b = tb ∨ b = mb ∨ w.heap.size ≤ b) ∧ b < w'.heap.size := by
  obtain ⟨zt, zm⟩ : tb < w.heap.size ∧ mb < w.heap.size := by
    obtain ⟨M, _, _, _, h4, h5, _⟩ := hX
    exact ⟨World.block_lt_of_cell? w _ h4, h5.lt⟩
  have zv : vb < w.heap.size := World.block_lt_of_cell? w ⟨vb, 0, none⟩ hv
  generalize hLB : numB (tabN L S S.length) = LB at *
  have hos := Pk.opened_size w (.slice a0 LB.length c0)
  obtain ⟨b0, hL, hb1, hb2, hb3⟩ : ∃ b0, RL (Pk.opened w (.slice a0 LB.length c0)) (w.heap.size + 1) b0 LB ∧ b0 ≠ w.heap.size + 1 ∧ b0 < w.heap.size + 3 ∧ tb ≠ b0 ∧ mb ≠ b0 := by
    by_cases hl : 0 < LB.length
    · obtain ⟨b, off, cp, e, hcc, _⟩ := hB.cells hl
      have hb : b < w.heap.size := World.block_lt_of_cell? w _ (hcc 0 hl).2
      cases e
      exact ⟨b, ⟨_, Pk.opened_R w _, hB.up (Pk.opened_up w _), .inr rfl⟩, by omega, by omega, fun e => (hf _ rfl hl).1 e.symm, fun e => (hf _ rfl hl).2 e.symm⟩
    · exact ⟨w.heap.size, ⟨_, Pk.opened_R w _, hB.up (Pk.opened_up w _), .inl (by omega)⟩, by omega, by omega, by omega, by omega⟩
  have hX' : TabX (Pk.opened w (.slice a0 LB.length c0)) tb mb [tb, mb] [] (fun _ => []) := hX.chg (S := []) (Chg.ofOld (Pk.opened_up w _)) (fun _ _ e => by cases e)
  have hv' := (show Old w (Pk.opened w (.slice a0 LB.length c0)) from Pk.opened_up w _).keep hv
  have hd := load1_ok (w.heap.size + 1) b0 vb tb mb [tb, mb] L S _ (by rw [hLB]; exact hL) hb1 (by omega) (by omega) hX' hv' (fun b hb => by simp at hb; rcases hb with rfl | rfl <;> exact ⟨by omega, by omega, by omega, by omega⟩) (by omega) hS hp hr hK
  refine (Pk.read_of2 31 #[.pointer (some ⟨vb, 0, none⟩)] (enters_of Try.func31 (by kernel_rfl) rfl) w a0 LB.length c0 [mb] (by simp; exact zm) (fun W k => k = 0 ∧ ∃ Bs, TabX W tb mb Bs S (LT L S S.length) ∧ ∀ b ∈ Bs, (b = tb ∨ b = mb ∨ w.heap.size + 3 ≤ b) ∧ b < W.heap.size) (fun _ cd => False) (hd.mono ?_)).mono ?_
  · rintro e w' ⟨rfl, r1, c1, Bs, x1, hbs⟩
    refine ⟨c1, ?_⟩
    obtain ⟨v, hrd, hby, _⟩ := r1
    obtain ⟨pa, pc, e⟩ := byRow_slice hby
    refine .inl ⟨rfl, 0, ⟨pa, pc, by rw [show (0 : Nat) = ([] : List Nat).length from rfl, ← e]; exact hrd⟩, rfl, Bs, x1, fun b hb => ?_⟩
    have := hbs b hb
    rw [hos] at this
    refine ⟨?_, this.2⟩
    rcases this.1 with q | q
    · simp at q
      rcases q with q | q
      · exact .inl q
      · exact .inr (.inl q)
    · exact .inr (.inr q)
  · rintro e w' ⟨c1, W2, c2, ⟨k, ⟨rfl, Bs, x1, hbs⟩, rfl⟩ | ⟨cd, h, _⟩⟩
    · refine ⟨c1, rfl, Bs, x1.chg (chg_ofP c2) (fun b hb => ?_), fun b hb => ⟨?_, ?_⟩⟩
      · have := (hbs b hb).1
        simp
        omega
      · have := (hbs b hb).1
        omega
      · have := (hbs b hb).2
        have := c2.size
        omega
    · exact h.elim
set_option maxHeartbeats 4000000 in
set_option maxRecDepth 20000 in
theorem load_ok (L : Int → List It) (S : List Int) (w : World) (v : Value) (hB : Pk.ByRow w v (numB (tabN L S S.length)).length (Pk.gd (numB (tabN L S S.length)))) (hS : S.length ≤ 16) (hp : S.Pairwise (· < ·)) (hr : ∀ z ∈ S, 1 ≤ z ∧ z ≤ 1099511627776) (hK : ∀ z ∈ S, Kp (L z)) :
    Calls Try.prog 9 #[v] w fun e w' => ∃ tb Bs, e = .returned (.tuple #[.pointer (some ⟨tb, 0, none⟩), .int .i64 0]) ∧ TabIs w' tb Bs S (LT L S S.length) ∧ (∀ b ∈ Bs, w.heap.size ≤ b ∧ b < w'.heap.size) ∧ Old w w' := by
  have HFar := hid (show ∀ (a0 : Option Addr) (c0 : Nat), v = .slice a0 (numB (tabN L S S.length)).length c0 → ∀ a, a0 = some a → 0 < (numB (tabN L S S.length)).length → a.block < w.heap.size from fun a0 c0 ev a ha hl => by
    subst ev
    obtain ⟨b, off, cp, e, hcc, _⟩ := hB.cells hl
    have hb : b < w.heap.size := World.block_lt_of_cell? w _ (hcc 0 hl).2
    cases e; cases ha; exact hb)
  obtain ⟨a0, c0, rfl⟩ := byRow_slice hB
  have HRd := hid (fun (W : World) (vb tb mb : Nat) (u : Old w W) (x : TabX W tb mb [tb, mb] [] (fun _ => [])) (hv : W.cell? ⟨vb, 0, none⟩ = some (.pointer (some ⟨tb, 0, none⟩))) (hvn : vb ≠ tb ∧ vb ≠ mb) (z : w.heap.size ≤ tb ∧ w.heap.size ≤ mb) => loadRead_ok L S W a0 c0 vb tb mb (hB.up u) x hv hvn (fun a ha hl => by have := HFar.out a0 c0 rfl a ha hl; omega) hS hp hr hK)
  clear hB hS hp hr hK HFar
  generalize (numB (tabN L S S.length)).length = N at *
  have hmf : ∀ (fn : Fn) (first cap : Array Value) (w : World), (Instr.makeFunc fn first cap).run Try.prog w = .ok (.func fn first cap) w := fun _ _ _ _ => rfl
  go_enter Try.func9, Try.ntmps9
  go_upto_region 2 with (go_at_call 6; refine (newT_any _).mono ?_; rintro e w1 ⟨tb, mb, rfl, t1⟩; have T1 := hid t1; clear t1)
  have X1 := hid ((tabX_of T1.out.tab).chg (S := []) (Chg.ofOld ((Old.refl w1).alloc (.cells #[.pointer (some ⟨tb, 0, none⟩)] 23))) (fun _ _ e => by cases e))
  have V1 : (w1.alloc (.cells #[.pointer (some ⟨tb, 0, none⟩)] 23)).cell? ⟨w1.heap.size, 0, none⟩ = some (.pointer (some ⟨tb, 0, none⟩)) := by simp
  have U1 := hid (T1.out.old.alloc (.cells #[.pointer (some ⟨tb, 0, none⟩)] 23))
  have HN := hid (show (w1.heap.size ≠ tb ∧ w1.heap.size ≠ mb) ∧ w.heap.size ≤ tb ∧ w.heap.size ≤ mb from by
    have h1 := T1.out.lt tb (by simp)
    have h2 := T1.out.lt mb (by simp)
    have h3 := T1.out.new tb (by simp)
    have h4 := T1.out.new mb (by simp)
    omega)
  generalize w1.alloc (.cells #[.pointer (some ⟨tb, 0, none⟩)] 23) = w2 at *
  generalize w1.heap.size = vb at *
  have HR := hid (HRd.out w2 vb tb mb U1.out X1.out V1 HN.out.1 HN.out.2)
  clear HRd X1 T1
  go_upto_region 3 with (go_at_call 30; refine HR.out.mono ?_; rintro e w3 ⟨c3, rfl, Bs, x3, hb3⟩; have C3 := hid c3; have X3 := hid x3; have B3 := hid hb3; have y0 := c3.cell' V1 (by simp; exact HN.out.1.2); clear c3 x3 hb3)
  clear HR
  go_wp2
  go_ret2
  exact ⟨tb, Bs, rfl, X3.out.tab, fun b hb => ⟨by have h1 := (B3.out b hb).1; have h2 := HN.out.2; have h3 := U1.out.size; omega, (B3.out b hb).2⟩, toOldP U1.out C3.out (by simp; exact HN.out.2.2)⟩
end Go.Proofs.Ytefffjlcfghniaa
