/- conf.Load at all bytes; conditions: the bytes lie in memory. -/
import Derived.Test.YtgpfmohaogppiaaV8
namespace Go.Proofs.Ytgpfmohaogppiaa
open Go.RowKit Go.Lib
set_option linter.unusedVariables false
set_option linter.unusedSimpArgs false
set_option maxRecDepth 20000
theorem byRow_slice {w : World} {v : Value} {n : Nat} {x : Nat → Nat} (h : Pk.ByRow w v n x) : ∃ a c, v = .slice a n c := by
  rcases h with ⟨h0, a, c, e, _⟩ | ⟨_, _, b, off, cap, e, _⟩
  · exact ⟨a, c, by rw [e, h0]⟩
  · exact ⟨_, _, e⟩
/-- The configuration of bytes. -/
def ldConf (L : List Nat) : Option (List Int × List Int) := match tkConf L with | some (a, b, []) => some (a, b) | _ => none
/-- What Load answers. -/
def LdPost (L : List Nat) (w : World) (e : Ending) (w' : World) : Prop := Old w w' ∧ ((∃ a b v1 v2, ldConf L = some (a, b) ∧ e = .returned (.tuple #[.agg #[v1, v2], .int .i64 0]) ∧ OwnI w.heap.size w' v1 a ∧ OwnI w.heap.size w' v2 b) ∨ (ldConf L = none ∧ e = .returned (.tuple #[.agg #[.slice none 0 0, .slice none 0 0], .int .i64 30])))
set_option maxHeartbeats 1000000 in
set_option maxRecDepth 20000 in
theorem loadRead (L : List Nat) (w : World) (a0 : Option Addr) (c0 cb : Nat) (hB : Pk.ByRow w (.slice a0 L.length c0) L.length (Pk.gd L)) (hc : CB cb (.slice none 0 0) (.slice none 0 0) w) (hf : ∀ a, a0 = some a → 0 < L.length → a.block ≠ cb) :
    Calls Try.prog 54 #[.slice a0 L.length c0, .func (.func 55) #[] #[.pointer (some ⟨cb, 0, none⟩)]] w fun e w' => Pk.Chg [cb] w w' ∧ ((∃ a b v1 v2, ldConf L = some (a, b) ∧ e = .returned (.int .i64 0) ∧ CB cb v1 v2 w' ∧ OwnI w.heap.size w' v1 a ∧ OwnI w.heap.size w' v2 b) ∨ (ldConf L = none ∧ e = .returned (.int .i64 30))) := by
  have hz : cb < w.heap.size := World.block_lt_of_cell? w ⟨cb, 0, none⟩ hc.a
  have hos := Pk.opened_size w (.slice a0 L.length c0)
  obtain ⟨b0, hL, hb1, hb2, hb3⟩ : ∃ b0, RL (Pk.opened w (.slice a0 L.length c0)) (w.heap.size + 1) b0 L ∧ b0 ≠ w.heap.size + 1 ∧ b0 < w.heap.size + 3 ∧ cb ≠ b0 := by
    by_cases hl : 0 < L.length
    · obtain ⟨b, off, cp, e, hcc, _⟩ := hB.cells hl
      have hb : b < w.heap.size := World.block_lt_of_cell? w _ (hcc 0 hl).2
      cases e
      exact ⟨b, ⟨_, Pk.opened_R w _, hB.up (Pk.opened_up w _), .inr rfl⟩, by omega, by omega, fun e => hf _ rfl hl e.symm⟩
    · exact ⟨w.heap.size, ⟨_, Pk.opened_R w _, hB.up (Pk.opened_up w _), .inl (by omega)⟩, by omega, by omega, by omega⟩
  have hcb : CB cb (.slice none 0 0) (.slice none 0 0) (Pk.opened w (.slice a0 L.length c0)) := hc.old (Pk.opened_up w _)
  have hd := load1_any (w.heap.size + 1) b0 cb L _ hL hb1 (by omega) (by omega) hcb (by omega) hb3
  refine (Pk.read_of2 55 #[.pointer (some ⟨cb, 0, none⟩)] (enters_of Try.func55 (by kernel_rfl) rfl) w a0 L.length c0 [cb] (by simp; exact hz) (fun W k => ∃ a b C v1 v2, k = C.length ∧ tkConf L = some (a, b, C) ∧ CB cb v1 v2 W ∧ OwnI (w.heap.size + 3) W v1 a ∧ OwnI (w.heap.size + 3) W v2 b) (fun _ cd => cd = 30 ∧ tkConf L = none) (hd.mono ?_)).mono ?_
  · rintro e w' ⟨c1, q⟩
    refine ⟨c1, ?_⟩
    rcases q with ⟨a, b, C, v1, v2, e1, rfl, r1, b1, o1, o2⟩ | ⟨e1, rfl, r1⟩
    · obtain ⟨v, hrd, hby, _⟩ := r1
      obtain ⟨pa, pc, e⟩ := byRow_slice hby
      rw [hos] at o1 o2
      exact .inl ⟨rfl, C.length, ⟨pa, pc, by rw [← e]; exact hrd⟩, a, b, C, v1, v2, rfl, e1, b1, o1, o2⟩
    · exact .inr ⟨rfl, 30, by decide, r1, rfl, e1⟩
  · rintro e w' ⟨c1, W2, c2, ⟨k, ⟨a, b, C, v1, v2, rfl, e1, b1, o1, o2⟩, rfl⟩ | ⟨cd, ⟨rfl, e1⟩, rfl⟩⟩
    · refine ⟨c1, ?_⟩
      cases C with
      | nil =>
        refine .inl ⟨a, b, v1, v2, by unfold ldConf; rw [e1], rfl, b1.chg c2 (by simp; omega), (o1.chgP c2 (fun g e => by have := (World.ownsRow.lt o1 g e).1; simp; omega)).mono (by omega), (o2.chgP c2 (fun g e => by have := (World.ownsRow.lt o2 g e).1; simp; omega)).mono (by omega)⟩
      | cons x r => exact .inr ⟨by unfold ldConf; rw [e1], by simp⟩
    · exact ⟨c1, .inr ⟨by unfold ldConf; rw [e1], rfl⟩⟩
set_option maxHeartbeats 4000000 in
set_option maxRecDepth 20000 in
theorem load_any (L : List Nat) (w : World) (v : Value) (hB : Pk.ByRow w v L.length (Pk.gd L)) :
    Calls Try.prog 47 #[v] w fun e w' => LdPost L w e w' := by
  obtain ⟨a0, c0, rfl⟩ := byRow_slice hB
  have HFar := hid (show ∀ a, a0 = some a → 0 < L.length → a.block < w.heap.size from fun a ha hl => by
    obtain ⟨b, off, cp, e, hcc, _⟩ := hB.cells hl
    have hb : b < w.heap.size := World.block_lt_of_cell? w _ (hcc 0 hl).2
    cases e; cases ha; exact hb)
  have HRd := hid (fun (W : World) (cb : Nat) (u : Old w W) (hx : CB cb (.slice none 0 0) (.slice none 0 0) W) (hz : w.heap.size ≤ cb) => loadRead L W a0 c0 cb (hB.up u) hx (fun a ha hl => by have := HFar.out a ha hl; omega))
  clear hB
  generalize hN : L.length = N at *
  clear hN HFar
  have hmf : ∀ (fn : Fn) (first cap : Array Value) (w : World), (Instr.makeFunc fn first cap).run Try.prog w = .ok (.func fn first cap) w := fun _ _ _ _ => rfl
  go_enter Try.func47, Try.ntmps47
  go_upto_region 2 with (fail)
  generalize hw2 : ((w.alloc (.cells #[.slice none 0 0, .slice none 0 0] 24)).alloc (.cells #[.slice none 0 0, .slice none 0 0] 24)) = w2
  have U2 := hid (show Old w w2 from by rw [← hw2]; exact ((Old.refl _).alloc _).alloc _)
  have B1 := hid (show CB w.heap.size (.slice none 0 0) (.slice none 0 0) w2 from by rw [← hw2]; exact (CB.new w).old ((Old.refl _).alloc _))
  have B2 := hid (show CB (w.heap.size + 1) (.slice none 0 0) (.slice none 0 0) w2 from by
    rw [← hw2]
    have q := CB.new (w.alloc (.cells #[.slice none 0 0, .slice none 0 0] 24))
    simpa using q)
  have HR := hid (HRd.out w2 (w.heap.size + 1) U2.out B2.out (by omega))
  have HZ := hid (show w2.heap.size = w.heap.size + 2 from by rw [← hw2]; simp)
  clear hw2 HRd
  obtain ⟨rb, hrb⟩ : ∃ rb, w.heap.size = rb := ⟨_, rfl⟩
  have HRB := hid hrb
  rw [hrb] at B1 B2 HR HZ ⊢
  clear hrb
  cases hT : ldConf L with
  | none =>
    have HX := hid (HR.out.mono (fun e w' q => show e = .returned (.int .i64 30) ∧ Pk.Chg [rb + 1] w2 w' from by
      rcases q with ⟨c, ⟨a, b, v1, v2, e1, _⟩ | ⟨_, q⟩⟩
      · rw [hT] at e1; cases e1
      · exact ⟨q, c⟩))
    have HT := hid hT
    clear HR hT
    go_upto_region 3 with (go_at_call 54; refine HX.out.mono ?_; rintro e w3 ⟨rfl, c3⟩; have C3 := hid c3; clear c3)
    have B3 := hid (B1.out.chg C3.out (by simp))
    have U3 := hid (Pk.Chg.toOld U2.out C3.out (by simp; have := HRB.out; omega))
    obtain ⟨z0, z1, zf0, zf1⟩ := B3.out
    clear C3 B1 B2 U2
    go_wp2
    have PB := B3.out.put (.slice none 0 0) (.slice none 0 0)
    have y0 := PB.a
    have y1 := PB.b
    refine bodyPost_ret (v := .tuple #[.agg #[.slice none 0 0, .slice none 0 0], .int .i64 30]) (by simp [results, Try.results47, go_sem, y0, y1]) rfl ⟨Pk.Chg.toOld U3.out (put2_chg w3 rb _ _) (by simp; have := HRB.out; omega), .inr ⟨HT.out, rfl⟩⟩
  | some p =>
    obtain ⟨a, b⟩ := p
    have HX := hid (HR.out.mono (fun e w' q => show e = .returned (.int .i64 0) ∧ Pk.Chg [rb + 1] w2 w' ∧ ∃ v1 v2, CB (rb + 1) v1 v2 w' ∧ OwnI w2.heap.size w' v1 a ∧ OwnI w2.heap.size w' v2 b from by
      rcases q with ⟨c, ⟨a', b', v1, v2, e1, e2, q1, q2, q3⟩ | ⟨e1, _⟩⟩
      · rw [hT] at e1; cases e1; exact ⟨e2, c, v1, v2, q1, q2, q3⟩
      · rw [hT] at e1; cases e1))
    have HT := hid hT
    clear HR hT
    go_upto_region 3 with (go_at_call 54; refine HX.out.mono ?_; rintro e w3 ⟨rfl, c3, v1, v2, b3, o1, o2⟩; obtain ⟨p1, a1, e1⟩ := o1.len; subst e1; obtain ⟨p2, a2, e2⟩ := o2.len; subst e2; have C3 := hid c3; have O1 := hid o1; have O2 := hid o2; have D3 := hid b3; clear c3 o1 o2 b3)
    have B3 := hid (B1.out.chg C3.out (by simp))
    have U3 := hid (Pk.Chg.toOld U2.out C3.out (by simp; have := HRB.out; omega))
    obtain ⟨z0, z1, zf0, zf1⟩ := B3.out
    obtain ⟨x0, x1, _, _⟩ := D3.out
    clear C3 B1 B2 U2
    go_wp2
    have PB := B3.out.put (.slice p1 a.length a1) (.slice p2 b.length a2)
    have y0 := PB.a
    have y1 := PB.b
    have cF := put2_chg w3 rb (.slice p1 a.length a1) (.slice p2 b.length a2)
    have h1 := HRB.out
    have h2 := HZ.out
    refine bodyPost_ret (v := .tuple #[.agg #[.slice p1 a.length a1, .slice p2 b.length a2], .int .i64 0]) (by simp [results, Try.results47, go_sem, y0, y1]) rfl ⟨Pk.Chg.toOld U3.out cF (by simp; omega), .inl ⟨a, b, _, _, HT.out, rfl, (O1.out.chgP cF (fun g e => by have := (World.ownsRow.lt O1.out g e).1; simp; omega)).mono (by omega), (O2.out.chgP cF (fun g e => by have := (World.ownsRow.lt O2.out g e).1; simp; omega)).mono (by omega)⟩⟩
end Go.Proofs.Ytgpfmohaogppiaa
