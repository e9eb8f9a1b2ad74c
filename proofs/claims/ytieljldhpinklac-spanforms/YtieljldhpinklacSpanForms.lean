/- Proved: for every span the law SpanForms returns true, without a condition. -/
import Derived.Test.YtieljldhpinklacRg
import Derived.ProofKit
import Derived.OpenShut
import Derived.Lib.SmallJoins
namespace Go.Proofs.Ytieljldhpinklac.spanFormsDone
open Go.ChangeShapes Go.WideShapes Go.ChangeAt Go.RowKit Go.Joins
set_option linter.unusedVariables false

theorem own : ownKnob Try.prog.godebug = none := by kernel_rfl
theorem laidOut : laidOutB Try.prog = true := by kernel_rfl
theorem wb {a : Nat} (h : (Lit.float .f64 a).wf = true) : Fl.W a := by simp [Lit.wf] at h; exact h
theorem trod_float {H : Type} {enc : TypeId × Value → H} {P : Program} {w : World} {base : Nat} {spare : Nat → Bool} {held : Bool} {fuel : Nat} {t : TypeId} {cs : List Value} {x : DataW H × List MemPlace} (ht : P.underlying t = some (.float .f64)) (h : DataW.trod enc P w base spare held fuel t cs = some x) : ∃ n, cs = [.float .f64 n] ∧ x = (.lit (.float .f64 n), []) ∧ (Lit.float .f64 n).wf = true := by
  cases fuel with
  | zero => simp [DataW.trod] at h
  | succ n =>
    unfold DataW.trod at h
    rw [ht] at h
    split at h <;> simp_all
theorem cellsSpan : Try.prog.cellsOf 24 = 4 := by kernel_rfl
theorem open_span {H : Type} {enc : TypeId × Value → H} {W : World} {base : Nat} {v : Value} {d : DataW H} {ps : List MemPlace} (hv : Value.okWide Try.prog W .any base 24 v) (h : DataW.Trod enc Try.prog W 0 (fun _ => true) true 24 v d ps) :
    ∃ (a b : Nat) (p q : Bool), v = .agg #[.float .f64 a, .float .f64 b, .bool p, .bool q] ∧ Fl.W a ∧ Fl.W b := by
  obtain ⟨v0, v1, v2, v3, y0, y1, y2, y3, m, rfl, _, _, h0, h1, h2, h3⟩ := open_agg4 Try.underlying24 (by kernel_rfl) cellsSpan hv h
  obtain ⟨a, e0, _, wa⟩ := trod_float Try.underlying22 h0
  obtain ⟨b, e1, _, wbb⟩ := trod_float Try.underlying22 h1
  obtain ⟨p, e2, _⟩ := DataW.trod_bool Try.underlying4 h2
  obtain ⟨q, e3, _⟩ := DataW.trod_bool Try.underlying4 h3
  simp at e0 e1 e2 e3; subst e0 e1 e2 e3
  exact ⟨a, b, p, q, rfl, wb wa, wb wbb⟩
/-- Block n holds a span, block m a range. -/
abbrev S4 (n a b : Nat) (p q : Bool) (m l h : Nat) (w : World) : Prop := SpAt n a b p q w ∧ (w.cell? ⟨m, 0, none⟩ = some (.int .u64 (l : Nat)) ∧ w.cell? ⟨m, 1, none⟩ = some (.int .u64 (h : Nat)))
theorem S4.up {n a b : Nat} {p q : Bool} {m l h : Nat} {W w' : World} (hb : Up W w') (k : S4 n a b p q m l h W) : S4 n a b p q m l h w' := ⟨SpAt.up hb k.1, hb.keep k.2.1, hb.keep k.2.2⟩
attribute [local go_sem] run_bits run_frombits run_store_float eqF
set_option maxHeartbeats 4000000 in
theorem core_num (a b u v L R : Nat) (p q e nb : Bool) (ha : Fl.W a) (hb : Fl.W b) (na : Fl.nan a = false) (hnb : Fl.nan b = nb)
    (HO : Hid (∀ w, Calls Try.prog 9 #[.agg #[.float .f64 a, .float .f64 b, .bool p, .bool q]] w fun o w' => o = .returned (.agg #[.int .u64 (L : Nat), .int .u64 (R : Nat)]) ∧ Up w w')) (HC : Hid (∀ w, Calls Try.prog 11 #[.agg #[.float .f64 a, .float .f64 b, .bool p, .bool q]] w fun o w' => o = .returned (.agg #[.float .f64 u, .float .f64 v, .bool e, .bool e]) ∧ Up w w')) (HS : Hid (∀ w, Calls Try.prog 12 #[.agg #[.int .u64 (L : Nat), .int .u64 (R : Nat)]] w fun o w' => o = .returned (.agg #[.float .f64 u, .float .f64 v, .bool e, .bool e]) ∧ Up w w')) (HSS : Hid (∀ w, Calls Try.prog 10 #[.agg #[.float .f64 u, .float .f64 v, .bool e, .bool e], .agg #[.float .f64 u, .float .f64 v, .bool e, .bool e]] w fun o w' => o = .returned (.bool true) ∧ Up w w'))
    (HE : Hid (∀ w, Calls Try.prog 13 #[.agg #[.float .f64 a, .float .f64 b, .bool p, .bool q]] w fun o w' => o = .returned (.bool e) ∧ Up w w')) (HRE : Hid (∀ w, Calls Try.prog 14 #[.agg #[.int .u64 (L : Nat), .int .u64 (R : Nat)]] w fun o w' => o = .returned (.bool e) ∧ Up w w')) (HR : Hid (∀ w, Calls Try.prog 15 #[.agg #[.float .f64 a, .float .f64 b, .bool p, .bool q]] w fun o w' => o = .returned (.bool (!false && !nb)) ∧ Up w w')) (w : World) :
    Calls Try.prog 3 #[.agg #[.float .f64 a, .float .f64 b, .bool p, .bool q]] w fun o w' => o = .returned (.bool true) ∧ Up w w' := by
  have hnb' : Fl.nan b = nb := hnb
  all_goals
    go_enter Try.func3, Try.ntmps3
    go_wp2_with (first | (go_at_call 8; refine (alive_any _).mono ?_; rintro o w1 ⟨rfl, hb1⟩; have s1 : SpAt w.heap.size a b p q w1 := SpAt.up hb1 (by simp [SpAt])) | (go_at_call 9; refine (HO.out _).mono ?_; rintro o w2 ⟨rfl, hb2⟩; have s2 : SpAt w.heap.size a b p q w2 := SpAt.up hb2 (by assumption); have z2 : w.heap.size < w2.heap.size := World.block_lt_of_cell? w2 _ s2.1))
    go_region_held3 (S4 w.heap.size a b p q w2.heap.size L R) (first | assumption | exact ⟨SpAt.up (Up.drew (Up.alloc (Up.refl _) _)) s2, by simp, by simp⟩ | (apply S4.up; assumption; assumption)) (first | (go_at_call 11; refine (HC.out _).mono ?_; rintro o w3 ⟨rfl, hb3⟩) | (go_at_call 12; refine (HS.out _).mono ?_; rintro o w4 ⟨rfl, hb4⟩) | (go_at_call 10; refine (HSS.out _).mono ?_; rintro o w5 ⟨rfl, hb5⟩) | (go_at_call 13; refine (HE.out _).mono ?_; rintro o w6 ⟨rfl, hb6⟩) | (go_at_call 14; refine (HRE.out _).mono ?_; rintro o w7 ⟨rfl, hb7⟩) | (go_at_call 15; refine (HR.out _).mono ?_; rintro o w8 ⟨rfl, hb8⟩) | (go_at_call_of 16 (Value.float FloatKind.f64 a); refine (refNan_any a ‹Fl.W a› _).mono ?_; rintro o w' ⟨rfl, rfl⟩) | (go_at_call_of 16 (Value.float FloatKind.f64 b); refine (refNan_any b ‹Fl.W b› _).mono ?_; rintro o w' ⟨rfl, rfl⟩))
    all_goals go_wp2
    all_goals go_ret
    all_goals exact ⟨ret_b (by simp), (by repeat (first | exact Up.refl _ | assumption | refine Up.drew ?_ | refine Up.drewN ?_ _ | refine Up.alloc ?_ _ | refine Up.setCell ?_ ?_ _ | exact Nat.le_refl _ | exact Nat.le_add_right _ _ | (dsimp only; omega) | refine Up.trans ?_ ‹Up _ _›))⟩
set_option maxHeartbeats 4000000 in
theorem core_nan (a b u v L R : Nat) (p q e nb : Bool) (ha : Fl.W a) (hb : Fl.W b) (na : Fl.nan a = true) (hnb : Fl.nan b = nb)
    (HO : Hid (∀ w, Calls Try.prog 9 #[.agg #[.float .f64 a, .float .f64 b, .bool p, .bool q]] w fun o w' => o = .returned (.agg #[.int .u64 (L : Nat), .int .u64 (R : Nat)]) ∧ Up w w')) (HC : Hid (∀ w, Calls Try.prog 11 #[.agg #[.float .f64 a, .float .f64 b, .bool p, .bool q]] w fun o w' => o = .returned (.agg #[.float .f64 u, .float .f64 v, .bool e, .bool e]) ∧ Up w w')) (HS : Hid (∀ w, Calls Try.prog 12 #[.agg #[.int .u64 (L : Nat), .int .u64 (R : Nat)]] w fun o w' => o = .returned (.agg #[.float .f64 u, .float .f64 v, .bool e, .bool e]) ∧ Up w w')) (HSS : Hid (∀ w, Calls Try.prog 10 #[.agg #[.float .f64 u, .float .f64 v, .bool e, .bool e], .agg #[.float .f64 u, .float .f64 v, .bool e, .bool e]] w fun o w' => o = .returned (.bool true) ∧ Up w w'))
    (HE : Hid (∀ w, Calls Try.prog 13 #[.agg #[.float .f64 a, .float .f64 b, .bool p, .bool q]] w fun o w' => o = .returned (.bool e) ∧ Up w w')) (HRE : Hid (∀ w, Calls Try.prog 14 #[.agg #[.int .u64 (L : Nat), .int .u64 (R : Nat)]] w fun o w' => o = .returned (.bool e) ∧ Up w w')) (HR : Hid (∀ w, Calls Try.prog 15 #[.agg #[.float .f64 a, .float .f64 b, .bool p, .bool q]] w fun o w' => o = .returned (.bool (!true && !nb)) ∧ Up w w')) (w : World) :
    Calls Try.prog 3 #[.agg #[.float .f64 a, .float .f64 b, .bool p, .bool q]] w fun o w' => o = .returned (.bool true) ∧ Up w w' := by
  have hnb' : Fl.nan b = nb := hnb
  all_goals
    go_enter Try.func3, Try.ntmps3
    go_wp2_with (first | (go_at_call 8; refine (alive_any _).mono ?_; rintro o w1 ⟨rfl, hb1⟩; have s1 : SpAt w.heap.size a b p q w1 := SpAt.up hb1 (by simp [SpAt])) | (go_at_call 9; refine (HO.out _).mono ?_; rintro o w2 ⟨rfl, hb2⟩; have s2 : SpAt w.heap.size a b p q w2 := SpAt.up hb2 (by assumption); have z2 : w.heap.size < w2.heap.size := World.block_lt_of_cell? w2 _ s2.1))
    refine wp_region_noPanic ?_
    refine wp_region_held_drew (S := S4 w.heap.size a b p q w2.heap.size L R) (by kernel_rfl) ?_ (fun hHeld => ?_)
    · exact ⟨SpAt.up (Up.drew (Up.alloc (Up.refl _) _)) s2, by simp, by simp⟩
    (try simp only [Act.put]); (try simp only [List.setIfInBounds_toArray]); (try simp only [List.set_cons_succ]); (try simp only [List.set_cons_zero])
    refine wpAnyH_take (i := 0) (v := ?vv0) rfl (by kernel_rfl) (by kernel_rfl) (by kernel_rfl) (fun _ _ _ h => h) (Or.inl ⟨by rfl, ?hy0⟩) (by assumption) ?rest0
    case hy0 => (intro wz hSw; (try dsimp only at hSw); go_simp; try with_reducible rfl)
    (try simp only [Act.put]); (try simp only [List.setIfInBounds_toArray]); (try simp only [List.set_cons_succ]); (try simp only [List.set_cons_zero])
    refine wpAnyH_take (i := 2) (v := ?vv2) rfl (by kernel_rfl) (by kernel_rfl) (by kernel_rfl) (fun _ _ _ h => h) (Or.inl ⟨by rfl, ?hy2⟩) (by assumption) ?rest2
    case hy2 => (intro wz hSw; (try dsimp only at hSw); go_simp; try with_reducible rfl)
    (try simp only [Act.put]); (try simp only [List.setIfInBounds_toArray]); (try simp only [List.set_cons_succ]); (try simp only [List.set_cons_zero])
    refine wpAnyH_ready (rs := [1]) (by kernel_rfl) (by simp) ?_
    refine AllReadyH.cons rfl (fun K hK => ?_) AllReadyH.nil
    go_simp
    refine (HC.out _).mono ?_
    rintro o w3 ⟨rfl, hb3⟩
    go_wp2_with fail
    refine hK.out _ _ ?_ (fun hHeld => ?_)
    · (first | assumption | (apply S4.up; assumption; assumption))
    clear hK K
    (try simp only [Act.put]); (try simp only [List.setIfInBounds_toArray]); (try simp only [List.set_cons_succ]); (try simp only [List.set_cons_zero])
    refine wpAnyH_ready (rs := [3]) (by kernel_rfl) (by simp) ?_
    refine AllReadyH.cons rfl (fun K hK => ?_) AllReadyH.nil
    go_simp
    refine (HS.out _).mono ?_
    rintro o w4 ⟨rfl, hb4⟩
    go_wp2_with fail
    refine hK.out _ _ ?_ (fun hHeld => ?_)
    · (first | assumption | (apply S4.up; assumption; assumption))
    clear hK K
    (try simp only [Act.put]); (try simp only [List.setIfInBounds_toArray]); (try simp only [List.set_cons_succ]); (try simp only [List.set_cons_zero])
    refine wpAnyH_ready (rs := [4]) (by kernel_rfl) (by simp) ?_
    refine AllReadyH.cons rfl (fun K hK => ?_) AllReadyH.nil
    go_simp
    refine (HSS.out _).mono ?_
    rintro o w5 ⟨rfl, hb5⟩
    go_wp2_with fail
    refine hK.out _ _ ?_ (fun hHeld => ?_)
    · (first | assumption | (apply S4.up; assumption; assumption))
    clear hK K
    (try simp only [Act.put]); (try simp only [List.setIfInBounds_toArray]); (try simp only [List.set_cons_succ]); (try simp only [List.set_cons_zero])
    refine wpAnyH_take (i := 5) (v := ?vv5) rfl (by kernel_rfl) (by kernel_rfl) (by kernel_rfl) (fun _ _ _ h => h) (Or.inl ⟨by rfl, ?hy5⟩) (by assumption) ?rest5
    case hy5 => (intro wz hSw; (try dsimp only at hSw); go_simp; try with_reducible rfl)
    (try simp only [Act.put]); (try simp only [List.setIfInBounds_toArray]); (try simp only [List.set_cons_succ]); (try simp only [List.set_cons_zero])
    refine wpAnyH_take (i := 6) (v := ?vv6) rfl (by kernel_rfl) (by kernel_rfl) (by kernel_rfl) (fun _ _ _ h => h) (Or.inl ⟨by rfl, ?hy6⟩) (by assumption) ?rest6
    case hy6 => (intro wz hSw; (try dsimp only at hSw); go_simp; try with_reducible rfl)
    (try simp only [Act.put]); (try simp only [List.setIfInBounds_toArray]); (try simp only [List.set_cons_succ]); (try simp only [List.set_cons_zero])
    refine wpAnyH_take (i := 8) (v := ?vv8) rfl (by kernel_rfl) (by kernel_rfl) (by kernel_rfl) (fun _ _ _ h => h) (Or.inl ⟨by rfl, ?hy8⟩) (by assumption) ?rest8
    case hy8 => (intro wz hSw; (try dsimp only at hSw); go_simp; try with_reducible rfl)
    (try simp only [Act.put]); (try simp only [List.setIfInBounds_toArray]); (try simp only [List.set_cons_succ]); (try simp only [List.set_cons_zero])
    refine wpAnyH_ready (rs := [7]) (by kernel_rfl) (by simp) ?_
    refine AllReadyH.cons rfl (fun K hK => ?_) AllReadyH.nil
    go_simp
    refine (HE.out _).mono ?_
    rintro o w6 ⟨rfl, hb6⟩
    go_wp2_with fail
    refine hK.out _ _ ?_ (fun hHeld => ?_)
    · (first | assumption | (apply S4.up; assumption; assumption))
    clear hK K
    (try simp only [Act.put]); (try simp only [List.setIfInBounds_toArray]); (try simp only [List.set_cons_succ]); (try simp only [List.set_cons_zero])
    refine wpAnyH_ready (rs := [9]) (by kernel_rfl) (by simp) ?_
    refine AllReadyH.cons rfl (fun K hK => ?_) AllReadyH.nil
    go_simp
    refine (HRE.out _).mono ?_
    rintro o w7 ⟨rfl, hb7⟩
    go_wp2_with fail
    refine hK.out _ _ ?_ (fun hHeld => ?_)
    · (first | assumption | (apply S4.up; assumption; assumption))
    clear hK K
    (try simp only [Act.put]); (try simp only [List.setIfInBounds_toArray]); (try simp only [List.set_cons_succ]); (try simp only [List.set_cons_zero])
    refine wpAnyH_take (i := 10) (v := ?vv10) rfl (by kernel_rfl) (by kernel_rfl) (by kernel_rfl) (fun _ _ _ h => h) (Or.inl ⟨by rfl, ?hy10⟩) (by assumption) ?rest10
    case hy10 => (intro wz hSw; (try dsimp only at hSw); go_simp; try with_reducible rfl)
    (try simp only [Act.put]); (try simp only [List.setIfInBounds_toArray]); (try simp only [List.set_cons_succ]); (try simp only [List.set_cons_zero])
    refine wpAnyH_take (i := 11) (v := ?vv11) rfl (by kernel_rfl) (by kernel_rfl) (by kernel_rfl) (fun _ _ _ h => h) (Or.inl ⟨by rfl, ?hy11⟩) (by assumption) ?rest11
    case hy11 => (intro wz hSw; (try dsimp only at hSw); go_simp; try with_reducible rfl)
    (try simp only [Act.put]); (try simp only [List.setIfInBounds_toArray]); (try simp only [List.set_cons_succ]); (try simp only [List.set_cons_zero])
    refine wpAnyH_take (i := 12) (v := ?vv12) rfl (by kernel_rfl) (by kernel_rfl) (by kernel_rfl) (fun _ _ _ h => h) (Or.inl ⟨by rfl, ?hy12⟩) (by assumption) ?rest12
    case hy12 => (intro wz hSw; (try dsimp only at hSw); go_simp; try with_reducible rfl)
    (try simp only [Act.put]); (try simp only [List.setIfInBounds_toArray]); (try simp only [List.set_cons_succ]); (try simp only [List.set_cons_zero])
    refine wpAnyH_take (i := 13) (v := ?vv13) rfl (by kernel_rfl) (by kernel_rfl) (by kernel_rfl) (fun _ _ _ h => h) (Or.inl ⟨by rfl, ?hy13⟩) (by assumption) ?rest13
    case hy13 => (intro wz hSw; (try dsimp only at hSw); go_simp; try with_reducible rfl)
    (try simp only [Act.put]); (try simp only [List.setIfInBounds_toArray]); (try simp only [List.set_cons_succ]); (try simp only [List.set_cons_zero])
    refine wpAnyH_take (i := 15) (v := ?vv15) rfl (by kernel_rfl) (by kernel_rfl) (by kernel_rfl) (fun _ _ _ h => h) (Or.inl ⟨by rfl, ?hy15⟩) (by assumption) ?rest15
    case hy15 => (intro wz hSw; (try dsimp only at hSw); go_simp; try with_reducible rfl)
    (try simp only [Act.put]); (try simp only [List.setIfInBounds_toArray]); (try simp only [List.set_cons_succ]); (try simp only [List.set_cons_zero])
    refine wpAnyH_take (i := 16) (v := ?vv16) rfl (by kernel_rfl) (by kernel_rfl) (by kernel_rfl) (fun _ _ _ h => h) (Or.inl ⟨by rfl, ?hy16⟩) (by assumption) ?rest16
    case hy16 => (intro wz hSw; (try dsimp only at hSw); go_simp; try with_reducible rfl)
    (try simp only [Act.put]); (try simp only [List.setIfInBounds_toArray]); (try simp only [List.set_cons_succ]); (try simp only [List.set_cons_zero])
    refine wpAnyH_ready (rs := [14]) (by kernel_rfl) (by simp) ?_
    refine AllReadyH.cons rfl (fun K hK => ?_) AllReadyH.nil
    go_simp
    refine (HR.out _).mono ?_
    rintro o w8 ⟨rfl, hb8⟩
    go_wp2_with fail
    refine hK.out _ _ ?_ (fun hHeld => ?_)
    · (first | assumption | (apply S4.up; assumption; assumption))
    clear hK K
    (try simp only [Act.put]); (try simp only [List.setIfInBounds_toArray]); (try simp only [List.set_cons_succ]); (try simp only [List.set_cons_zero])
    refine wpAnyH_ready (rs := [17]) (by kernel_rfl) (by simp) ?_
    refine AllReadyH.cons rfl (fun K hK => ?_) AllReadyH.nil
    go_simp
    refine (refNan_any a ‹Fl.W a› _).mono ?_
    rintro o w' ⟨rfl, rfl⟩
    go_wp2_with fail
    refine hK.out _ _ ?_ (fun hHeld => ?_)
    · (first | assumption | (apply S4.up; assumption; assumption))
    clear hK K
    (try simp only [Act.put]); (try simp only [List.setIfInBounds_toArray]); (try simp only [List.set_cons_succ]); (try simp only [List.set_cons_zero])
    refine wpAnyH_take (i := 18) (v := ?vv18) rfl (by kernel_rfl) (by kernel_rfl) (by kernel_rfl) (fun _ _ _ h => h) (Or.inl ⟨by rfl, ?hy18⟩) (by assumption) ?rest18
    case hy18 => (intro wz hSw; (try dsimp only at hSw); go_simp; try with_reducible rfl)
    (try simp only [Act.put]); (try simp only [List.setIfInBounds_toArray]); (try simp only [List.set_cons_succ]); (try simp only [List.set_cons_zero])
    refine wpAnyH_take (i := 19) (v := ?vv19) rfl (by kernel_rfl) (by kernel_rfl) (by kernel_rfl) (fun _ _ _ h => h) (Or.inl ⟨by rfl, ?hy19⟩) (by assumption) ?rest19
    case hy19 => (intro wz hSw; (try dsimp only at hSw); go_simp; try with_reducible rfl)
    (try simp only [Act.put]); (try simp only [List.setIfInBounds_toArray]); (try simp only [List.set_cons_succ]); (try simp only [List.set_cons_zero])
    refine wpAnyH_take (i := 20) (v := undef) rfl (by kernel_rfl) (by kernel_rfl) (by kernel_rfl) (fun _ _ _ h => h) (Or.inr ⟨by rfl, rfl⟩) (by assumption) ?_
    (try simp only [Act.put]); (try simp only [List.setIfInBounds_toArray]); (try simp only [List.set_cons_succ]); (try simp only [List.set_cons_zero])
    refine wpAnyH_take (i := 21) (v := undef) rfl (by kernel_rfl) (by kernel_rfl) (by kernel_rfl) (fun _ _ _ h => h) (Or.inr ⟨by rfl, rfl⟩) (by assumption) ?_
    (try simp only [Act.put]); (try simp only [List.setIfInBounds_toArray]); (try simp only [List.set_cons_succ]); (try simp only [List.set_cons_zero])
    refine wpAnyH_take (i := 22) (v := undef) rfl (by kernel_rfl) (by kernel_rfl) (by kernel_rfl) (fun _ _ _ h => h) (Or.inr ⟨by rfl, rfl⟩) (by assumption) ?_
    (try simp only [Act.put]); (try simp only [List.setIfInBounds_toArray]); (try simp only [List.set_cons_succ]); (try simp only [List.set_cons_zero])
    refine wpAnyH_take (i := 23) (v := undef) rfl (by kernel_rfl) (by kernel_rfl) (by kernel_rfl) (fun _ _ _ h => h) (Or.inr ⟨by rfl, rfl⟩) (by assumption) ?_
    (try simp only [Act.put]); (try simp only [List.setIfInBounds_toArray]); (try simp only [List.set_cons_succ]); (try simp only [List.set_cons_zero])
    refine wpAnyH_take (i := 24) (v := ?vv24) rfl (by kernel_rfl) (by kernel_rfl) (by kernel_rfl) (fun _ _ _ h => h) (Or.inl ⟨by rfl, ?hy24⟩) (by assumption) ?rest24
    case hy24 => (intro wz hSw; (try dsimp only at hSw); go_simp; try with_reducible rfl)
    (try simp only [Act.put]); (try simp only [List.setIfInBounds_toArray]); (try simp only [List.set_cons_succ]); (try simp only [List.set_cons_zero])
    refine wpAnyH_take (i := 25) (v := ?vv25) rfl (by kernel_rfl) (by kernel_rfl) (by kernel_rfl) (fun _ _ _ h => h) (Or.inl ⟨by rfl, ?hy25⟩) (by assumption) ?rest25
    case hy25 => (intro wz hSw; (try dsimp only at hSw); go_simp; try with_reducible rfl)
    (try simp only [Act.put]); (try simp only [List.setIfInBounds_toArray]); (try simp only [List.set_cons_succ]); (try simp only [List.set_cons_zero])
    refine wpAnyH_ready (rs := [26]) (by kernel_rfl) (by simp) ?_
    refine AllReadyH.cons rfl (fun K hK => ?_) AllReadyH.nil
    go_simp
    refine hK.out _ _ ?_ (fun hHeld => ?_)
    · (first | assumption | (apply S4.up; assumption; assumption))
    clear hK K
    (try simp only [Act.put]); (try simp only [List.setIfInBounds_toArray]); (try simp only [List.set_cons_succ]); (try simp only [List.set_cons_zero])
    refine wpAnyH_ready (rs := [27]) (by kernel_rfl) (by simp) ?_
    refine AllReadyH.cons rfl (fun K hK => ?_) AllReadyH.nil
    go_simp
    refine hK.out _ _ ?_ (fun hHeld => ?_)
    · (first | assumption | (apply S4.up; assumption; assumption))
    clear hK K
    (try simp only [Act.put]); (try simp only [List.setIfInBounds_toArray]); (try simp only [List.set_cons_succ]); (try simp only [List.set_cons_zero])
    refine wpAnyH_done (by kernel_rfl) ?_ _
    refine NoPanic.normal ?_

    all_goals go_wp2
    all_goals go_ret
    all_goals exact ⟨ret_b (by simp), (by repeat (first | exact Up.refl _ | assumption | refine Up.drew ?_ | refine Up.drewN ?_ _ | refine Up.alloc ?_ _ | refine Up.setCell ?_ ?_ _ | exact Nat.le_refl _ | exact Nat.le_add_right _ _ | (dsimp only; omega) | refine Up.trans ?_ ‹Up _ _›))⟩

theorem walk (a0 b0 : Nat) (p0 q0 : Bool) (w : World) (w0 : Fl.W a0) (x0 : Fl.W b0) :
    Calls Try.prog 3 #[.agg #[.float .f64 a0, .float .f64 b0, .bool p0, .bool q0]] w fun e w' => e = .returned (.bool true) ∧ Up w w' := by
  have HSS := fun w => sameSpan_any (Fl.csU a0 b0 p0 q0) (Fl.csV a0 b0 p0 q0) (Fl.csU a0 b0 p0 q0) (Fl.csV a0 b0 p0 q0) (Fl.csE a0 b0 p0 q0) (Fl.csE a0 b0 p0 q0) (Fl.csE a0 b0 p0 q0) (Fl.csE a0 b0 p0 q0) w
  have HRE := fun w => rEmpty_any (Fl.rL a0 b0 p0 q0) (Fl.rH a0 b0 p0 q0) w
  have e1 : decide (Fl.rH a0 b0 p0 q0 < Fl.rL a0 b0 p0 q0) = Fl.csE a0 b0 p0 q0 := by
    unfold Fl.rH Fl.rL
    cases h : Fl.csE a0 b0 p0 q0
    · have f := Fl.cs_form a0 b0 p0 q0 w0 x0 h
      simp; omega
    · simp
  rw [e1] at HRE
  rw [show (((Fl.csE a0 b0 p0 q0 == Fl.csE a0 b0 p0 q0) && (Fl.csE a0 b0 p0 q0 == Fl.csE a0 b0 p0 q0) && (decide (Fl.csU a0 b0 p0 q0 = Fl.csU a0 b0 p0 q0) && decide (Fl.csV a0 b0 p0 q0 = Fl.csV a0 b0 p0 q0)))) = true by simp] at HSS
  have HR := fun w => right_any a0 b0 w0 x0 p0 q0 w
  cases na : Fl.nan a0
  · rw [na] at HR
    exact core_num a0 b0 _ _ _ _ p0 q0 _ _ w0 x0 na rfl (fun w => rOf_any a0 b0 w0 x0 p0 q0 w) (fun w => canonS_any a0 b0 w0 x0 p0 q0 w) (fun w => rSpan_form a0 b0 w0 x0 p0 q0 w) HSS (fun w => empty_any a0 b0 w0 x0 p0 q0 w) HRE HR w
  · rw [na] at HR
    exact core_nan a0 b0 _ _ _ _ p0 q0 _ _ w0 x0 na rfl (fun w => rOf_any a0 b0 w0 x0 p0 q0 w) (fun w => canonS_any a0 b0 w0 x0 p0 q0 w) (fun w => rSpan_form a0 b0 w0 x0 p0 q0 w) HSS (fun w => empty_any a0 b0 w0 x0 p0 q0 w) HRE HR w

set_option maxRecDepth 100000 in
theorem lifted (os : Os) (started : os.Started) (H : Type) (enc : TypeId × Value → H) :
    ReturnsInHanded {} Try.checked os 3 .any (Rows.spanFormsSpec.pre6 enc Try.prog Try.f3 Rows.spanFormsRow.domain false) (Rows.spanFormsSpec.post enc Try.prog Try.f3 false true false false) := by
  refine returnsInHanded_of_change (C := Try.checked) own started (by kernel_rfl) Try.func3
    (ChangeSpec.witness6 (enc := enc) (C := Try.checked) false ⟨#[], #[.agg #[.float .f64 0, .float .f64 0, .bool false, .bool false]], []⟩ 8 (by kernel_rfl) (by kernel_rfl) (by kernel_rfl) (by kernel_rfl)) ?_
  intro W base args ds gs before hval0 hW hcnd _
  have hval : ∀ (j : Nat) t v, Try.f3.params[j]? = some t → args[j]? = some v → Value.okWide Try.prog W .any base t v := hval0
  have hW' := hW
  obtain ⟨p, q, hA0, hV, rfl, hfz, hnd⟩ := hW
  have hA : DataW.TrodAll enc Try.prog W 0 (fun _ => true) true Try.f3.params.toList args.toList ds p := hA0
  rw [Try.params3] at hA hval
  obtain ⟨v0, vs0, d0, ds0, p0, q0, hargs, rfl, rfl, h0, r0⟩ := trodAll_cons hA
  obtain ⟨rfl, rfl, rfl⟩ := trodAll_nil r0
  obtain rfl : args = #[v0] := by cases args; simp_all
  obtain ⟨rfl, rfl⟩ := trodVars_none hV
  have k0 := h0
  have lt0 : ∀ x ∈ p0, x.block < W.heap.size := by obtain ⟨m, hm⟩ := k0; exact DataW.trod_lt m _ _ _ hm
  obtain ⟨a0, b0, bp0, bq0, rfl, w0, x0⟩ := open_span (hval 0 24 v0 rfl rfl) h0
  clear hA0 hval0
  refine (walk a0 b0 bp0 bq0 W w0 x0).mono fun e W' ⟨he, bel⟩ => ?_
  subst he
  exact ⟨_, rfl, _, _, _, [], _, [], hW', trodAll_mk1 (shut_bool Try.underlying4 _), (trodAll_cons_mk (Below.trod laidOut (by kernel_rfl) (of_decide_eq_true (by kernel_rfl)) k0 bel lt0) trodAll_mk0), rfl, Below.frame bel _, fun h => by cases h⟩

theorem proved : Rows.SpanFormsSaid :=
  OpenClaim.holds_of_wide 3 Try.f3 rfl rfl rfl rfl rfl rfl rfl ⟨rfl, rfl, rfl, rfl, rfl⟩ rfl rfl rfl rfl rfl (by kernel_rfl) Try.func3 (by kernel_rfl)
    (of_decide_eq_true (by kernel_rfl)) (by unfold Func.isWrapper; first | (rw [if_pos (by decide +kernel)]; kernel_rfl) | (rw [if_neg (by decide +kernel)]; exact ⟨rfl, rfl⟩))
    (fun os started H enc _ => lifted os started H enc)
end Go.Proofs.Ytieljldhpinklac.spanFormsDone
namespace Go.Proofs.Ytieljldhpinklac
theorem spanForms_holds : Rows.SpanFormsSaid := spanFormsDone.proved
#print axioms spanForms_holds
end Go.Proofs.Ytieljldhpinklac
