/- sess.Load at all bytes; conditions: the bytes lie in memory. -/
import Derived.Test.YtefffjlcfghniaaS18
namespace Go.Proofs.Ytefffjlcfghniaa
open Go.RowKit Go.Lib
set_option linter.unusedVariables false
set_option linter.unusedSimpArgs false
set_option maxRecDepth 20000
/-- The table of bytes. -/
def ldT (L : List Nat) : Option (List (Int × List It)) := match tkT L with | some (ss, []) => some ss | _ => none
set_option maxHeartbeats 2000000 in
set_option maxRecDepth 20000 in
theorem loadReadA (L : List Nat) (w : World) (a0 : Option Addr) (c0 vb tb mb : Nat) (hB : Pk.ByRow w (.slice a0 L.length c0) L.length (Pk.gd L)) (hX : TabX w tb mb [tb, mb] [] (fun _ => [])) (hv : w.cell? ⟨vb, 0, none⟩ = some (.pointer (some ⟨tb, 0, none⟩))) (hvn : vb ≠ tb ∧ vb ≠ mb) (hf : ∀ a, a0 = some a → 0 < L.length → a.block ≠ tb ∧ a.block ≠ mb) :
    Calls Try.prog 30 #[.slice a0 L.length c0, .func (.func 31) #[] #[.pointer (some ⟨vb, 0, none⟩)]] w fun e w' => Pk.Chg [mb] w w' ∧ ((∃ ss Bs, ldT L = some ss ∧ e = .returned (.int .i64 0) ∧ TabX w' tb mb Bs (ss.map (·.1)) (tbl ss) ∧ ∀ b ∈ Bs, (b = tb ∨ b = mb ∨ w.heap.size ≤ b) ∧ b < w'.heap.size) ∨ (ldT L = none ∧ e = .returned (.int .i64 30))) := by
  obtain ⟨zt, zm⟩ : tb < w.heap.size ∧ mb < w.heap.size := by
    obtain ⟨M, _, _, _, h4, h5, _⟩ := hX
    exact ⟨World.block_lt_of_cell? w _ h4, h5.lt⟩
  have zv : vb < w.heap.size := World.block_lt_of_cell? w ⟨vb, 0, none⟩ hv
  have hos := Pk.opened_size w (.slice a0 L.length c0)
  obtain ⟨b0, hL, hb1, hb2, hb3⟩ : ∃ b0, RL (Pk.opened w (.slice a0 L.length c0)) (w.heap.size + 1) b0 L ∧ b0 ≠ w.heap.size + 1 ∧ b0 < w.heap.size + 3 ∧ tb ≠ b0 ∧ mb ≠ b0 := by
    by_cases hl : 0 < L.length
    · obtain ⟨b, off, cp, e, hcc, _⟩ := hB.cells hl
      have hb : b < w.heap.size := World.block_lt_of_cell? w _ (hcc 0 hl).2
      cases e
      exact ⟨b, ⟨_, Pk.opened_R w _, hB.up (Pk.opened_up w _), .inr rfl⟩, by omega, by omega, fun e => (hf _ rfl hl).1 e.symm, fun e => (hf _ rfl hl).2 e.symm⟩
    · exact ⟨w.heap.size, ⟨_, Pk.opened_R w _, hB.up (Pk.opened_up w _), .inl (by omega)⟩, by omega, by omega, by omega, by omega⟩
  have hX' : TabX (Pk.opened w (.slice a0 L.length c0)) tb mb [tb, mb] [] (fun _ => []) := hX.chg (S := []) (Chg.ofOld (Pk.opened_up w _)) (fun _ _ e => by cases e)
  have hv' := (show Old w (Pk.opened w (.slice a0 L.length c0)) from Pk.opened_up w _).keep hv
  have hd := load1_any (w.heap.size + 1) b0 vb tb mb [tb, mb] L _ hL hb1 (by omega) (by omega) hX' hv' (fun b hb => by simp at hb; rcases hb with rfl | rfl <;> exact ⟨by omega, by omega, by omega, by omega⟩) (by omega)
  refine (Pk.read_of2 31 #[.pointer (some ⟨vb, 0, none⟩)] (enters_of Try.func31 (by kernel_rfl) rfl) w a0 L.length c0 [mb] (by simp; exact zm) (fun W k => ∃ ss C Bs, k = C.length ∧ tkT L = some (ss, C) ∧ TabX W tb mb Bs (ss.map (·.1)) (tbl ss) ∧ ∀ b ∈ Bs, (b = tb ∨ b = mb ∨ w.heap.size + 3 ≤ b) ∧ b < W.heap.size) (fun _ cd => cd = 30 ∧ tkT L = none) (hd.mono ?_)).mono ?_
  · rintro e w' ⟨c1, q⟩
    refine ⟨c1, ?_⟩
    rcases q with ⟨ss, C, Bs, e1, rfl, r1, x1, hbs⟩ | ⟨e1, rfl, r1⟩
    · obtain ⟨v, hrd, hby, _⟩ := r1
      obtain ⟨pa, pc, e⟩ := byRow_slice hby
      refine .inl ⟨rfl, C.length, ⟨pa, pc, by rw [← e]; exact hrd⟩, ss, C, Bs, rfl, e1, x1, fun b hb => ?_⟩
      have := hbs b hb
      rw [hos] at this
      refine ⟨?_, this.2⟩
      rcases this.1 with q | q
      · simp at q
        rcases q with q | q
        · exact .inl q
        · exact .inr (.inl q)
      · exact .inr (.inr q)
    · exact .inr ⟨rfl, 30, by decide, r1, rfl, e1⟩
  · rintro e w' ⟨c1, W2, c2, ⟨k, ⟨ss, C, Bs, rfl, e1, x1, hbs⟩, rfl⟩ | ⟨cd, ⟨rfl, e1⟩, rfl⟩⟩
    · refine ⟨c1, ?_⟩
      cases C with
      | nil =>
        refine .inl ⟨ss, Bs, by unfold ldT; rw [e1], rfl, x1.chg (chg_ofP c2) (fun b hb => ?_), fun b hb => ⟨?_, ?_⟩⟩
        · have := (hbs b hb).1
          simp
          omega
        · have := (hbs b hb).1
          omega
        · have := (hbs b hb).2
          have := c2.size
          omega
      | cons x r => exact .inr ⟨by unfold ldT; rw [e1], by simp⟩
    · exact ⟨c1, .inr ⟨by unfold ldT; rw [e1], rfl⟩⟩
set_option maxHeartbeats 4000000 in
set_option maxRecDepth 20000 in
theorem loadA (L : List Nat) (w : World) (v : Value) (hB : Pk.ByRow w v L.length (Pk.gd L)) :
    Calls Try.prog 9 #[v] w fun e w' => Old w w' ∧ ((∃ ss tb Bs, ldT L = some ss ∧ e = .returned (.tuple #[.pointer (some ⟨tb, 0, none⟩), .int .i64 0]) ∧ TabIs w' tb Bs (ss.map (·.1)) (tbl ss) ∧ ∀ b ∈ Bs, w.heap.size ≤ b ∧ b < w'.heap.size) ∨ (ldT L = none ∧ e = .returned (.tuple #[.pointer none, .int .i64 30]))) := by
  have HFar := hid (show ∀ (a0 : Option Addr) (c0 : Nat), v = .slice a0 L.length c0 → ∀ a, a0 = some a → 0 < L.length → a.block < w.heap.size from fun a0 c0 ev a ha hl => by
    subst ev
    obtain ⟨b, off, cp, e, hcc, _⟩ := hB.cells hl
    have hb : b < w.heap.size := World.block_lt_of_cell? w _ (hcc 0 hl).2
    cases e; cases ha; exact hb)
  obtain ⟨a0, c0, rfl⟩ := byRow_slice hB
  have HRd := hid (fun (W : World) (vb tb mb : Nat) (u : Old w W) (x : TabX W tb mb [tb, mb] [] (fun _ => [])) (hv : W.cell? ⟨vb, 0, none⟩ = some (.pointer (some ⟨tb, 0, none⟩))) (hvn : vb ≠ tb ∧ vb ≠ mb) (z : w.heap.size ≤ tb ∧ w.heap.size ≤ mb) => loadReadA L W a0 c0 vb tb mb (hB.up u) x hv hvn (fun a ha hl => by have := HFar.out a0 c0 rfl a ha hl; omega))
  clear hB HFar
  generalize hN : L.length = N at *
  clear hN
  have hmf : ∀ (fn : Fn) (first cap : Array Value) (w : World), (Instr.makeFunc fn first cap).run Try.prog w = .ok (.func fn first cap) w := fun _ _ _ _ => rfl
  go_enter Try.func9, Try.ntmps9
  go_upto_region 2 with (go_at_call 6; refine (newT_any _).mono ?_; rintro e w1 ⟨tb, mb, rfl, t1⟩; have T1 := hid t1; clear t1)
  have X1 := hid ((tabX_of T1.out.tab).chg (S := []) (Chg.ofOld ((Old.refl w1).alloc (.cells #[.pointer (some ⟨tb, 0, none⟩)] 23))) (fun _ _ e => by cases e))
  have V1 : (w1.alloc (.cells #[.pointer (some ⟨tb, 0, none⟩)] 23)).cell? ⟨w1.heap.size, 0, none⟩ = some (.pointer (some ⟨tb, 0, none⟩)) := by simp
  have U1 := hid (T1.out.old.alloc (.cells #[.pointer (some ⟨tb, 0, none⟩)] 23))
  have HN := hid (show (w1.heap.size ≠ tb ∧ w1.heap.size ≠ mb) ∧ w.heap.size ≤ tb ∧ w.heap.size ≤ mb from by
    have h1 := T1.out.lt tb (by simp)
    have h2 := T1.out.lt mb (by simp)
    have h3 := T1.out.new tb (by simp)
    have h4 := T1.out.new mb (by simp)
    omega)
  generalize w1.alloc (.cells #[.pointer (some ⟨tb, 0, none⟩)] 23) = w2 at *
  generalize w1.heap.size = vb at *
  have HR := hid (HRd.out w2 vb tb mb U1.out X1.out V1 HN.out.1 HN.out.2)
  clear HRd X1 T1
  cases hT : ldT L with
  | none =>
    have HX := hid (HR.out.mono (fun e w' q => show e = .returned (.int .i64 30) ∧ Pk.Chg [mb] w2 w' from by
      rcases q with ⟨c, ⟨ss, Bs, e1, _⟩ | ⟨_, q⟩⟩
      · rw [hT] at e1; cases e1
      · exact ⟨q, c⟩))
    have HT := hid hT
    clear HR hT
    go_wp2_with (go_at_call 30; refine HX.out.mono ?_; rintro e w3 ⟨rfl, c3⟩; have C3 := hid c3; clear c3)
    go_ret2
    exact ⟨toOldP U1.out C3.out (by simp; exact HN.out.2.2), .inr ⟨HT.out, rfl⟩⟩
  | some ss =>
    have HX := hid (HR.out.mono (fun e w' q => show Pk.Chg [mb] w2 w' ∧ e = .returned (.int .i64 0) ∧ ∃ Bs, TabX w' tb mb Bs (ss.map (·.1)) (tbl ss) ∧ ∀ b ∈ Bs, (b = tb ∨ b = mb ∨ w2.heap.size ≤ b) ∧ b < w'.heap.size from by
      rcases q with ⟨c, ⟨ss', Bs, e1, e2, q⟩ | ⟨e1, _⟩⟩
      · rw [hT] at e1; cases e1; exact ⟨c, e2, Bs, q⟩
      · rw [hT] at e1; cases e1))
    have HT := hid hT
    clear HR hT
    go_upto_region 3 with (go_at_call 30; refine HX.out.mono ?_; rintro e w3 ⟨c3, rfl, Bs, x3, hb3⟩; have C3 := hid c3; have X3 := hid x3; have B3 := hid hb3; have y0 := c3.cell' V1 (by simp; exact HN.out.1.2); clear c3 x3 hb3)
    clear HX
    go_wp2
    go_ret2
    exact ⟨toOldP U1.out C3.out (by simp; exact HN.out.2.2), .inl ⟨ss, tb, Bs, HT.out, rfl, X3.out.tab, fun b hb => ⟨by have h1 := (B3.out b hb).1; have h2 := HN.out.2; have h3 := U1.out.size; omega, (B3.out b hb).2⟩⟩⟩
end Go.Proofs.Ytefffjlcfghniaa
