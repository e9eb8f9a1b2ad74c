/- Proved: for every two spans and every float64 the law SpanKeys returns true, without a condition. -/
import Derived.Test.YtnggkncmcbcceaaJo
import Derived.ProofKit
import Derived.OpenShut
import Derived.Lib.SmallJoins
namespace Go.Proofs.Ytnggkncmcbcceaa.spanKeysDone
open Go.ChangeShapes Go.WideShapes Go.ChangeAt Go.RowKit Go.Joins
set_option linter.unusedVariables false

theorem own : ownKnob Try.prog.godebug = none := by kernel_rfl
theorem laidOut : laidOutB Try.prog = true := by kernel_rfl
theorem wb {a : Nat} (h : (Lit.float .f64 a).wf = true) : Fl.W a := by simp [Lit.wf] at h; exact h
theorem trod_float {H : Type} {enc : TypeId × Value → H} {P : Program} {w : World} {base : Nat} {spare : Nat → Bool} {held : Bool} {fuel : Nat} {t : TypeId} {cs : List Value} {x : DataW H × List MemPlace} (ht : P.underlying t = some (.float .f64)) (h : DataW.trod enc P w base spare held fuel t cs = some x) : ∃ n, cs = [.float .f64 n] ∧ x = (.lit (.float .f64 n), []) ∧ (Lit.float .f64 n).wf = true := by
  cases fuel with
  | zero => simp [DataW.trod] at h
  | succ n =>
    unfold DataW.trod at h
    rw [ht] at h
    split at h <;> simp_all
theorem cellsSpan : Try.prog.cellsOf 31 = 4 := by kernel_rfl
theorem open_span {H : Type} {enc : TypeId × Value → H} {W : World} {base : Nat} {v : Value} {d : DataW H} {ps : List MemPlace} (hv : Value.okWide Try.prog W .any base 31 v) (h : DataW.Trod enc Try.prog W 0 (fun _ => true) true 31 v d ps) :
    ∃ (a b : Nat) (p q : Bool), v = .agg #[.float .f64 a, .float .f64 b, .bool p, .bool q] ∧ Fl.W a ∧ Fl.W b := by
  obtain ⟨v0, v1, v2, v3, y0, y1, y2, y3, m, rfl, _, _, h0, h1, h2, h3⟩ := open_agg4 Try.underlying31 (by kernel_rfl) cellsSpan hv h
  obtain ⟨a, e0, _, wa⟩ := trod_float Try.underlying23 h0
  obtain ⟨b, e1, _, wbb⟩ := trod_float Try.underlying23 h1
  obtain ⟨p, e2, _⟩ := DataW.trod_bool Try.underlying4 h2
  obtain ⟨q, e3, _⟩ := DataW.trod_bool Try.underlying4 h3
  simp at e0 e1 e2 e3; subst e0 e1 e2 e3
  exact ⟨a, b, p, q, rfl, wb wa, wb wbb⟩
theorem ent_has (args : Array Value) (w : World) : (callFunc 25 args).run Try.prog w = .ok (.enter 25 args) w := by kernel_rfl
abbrev B3k (n a b : Nat) (p q : Bool) (m c d : Nat) (r s : Bool) (z u v : Nat) (e : Bool) (w : World) : Prop := (SpAt n a b p q w ∧ SpAt m c d r s w) ∧ SpAt z u v e e w
theorem B3k.up {n a b : Nat} {p q : Bool} {m c d : Nat} {r s : Bool} {z u v : Nat} {e : Bool} {W w' : World} (h : Up W w') (k : B3k n a b p q m c d r s z u v e W) : B3k n a b p q m c d r s z u v e w' := ⟨⟨SpAt.up h k.1.1, SpAt.up h k.1.2⟩, SpAt.up h k.2⟩
attribute [local go_sem] run_bits run_frombits run_store_float eqF
set_option maxHeartbeats 4000000 in
theorem core (a b c d k U V JU JV : Nat) (p q r s E JE P Q t K h : Bool)
    (H0 : Hid (∀ w, Calls Try.prog 25 #[.agg #[.float .f64 4607182418800017408, .float .f64 4611686018427387904, .bool false, .bool false], .float .f64 4607182418800017408] w fun o w' => o = .returned (.bool true) ∧ Up w w')) (HAl : Hid (∀ w, Calls Try.prog 26 #[] w fun o w' => o = .returned (.bool true) ∧ Up w w'))
    (HP : Hid (∀ w, Calls Try.prog 25 #[.agg #[.float .f64 a, .float .f64 b, .bool p, .bool q], .float .f64 k] w fun o w' => o = .returned (.bool P) ∧ Up w w')) (HQ : Hid (∀ w, Calls Try.prog 25 #[.agg #[.float .f64 c, .float .f64 d, .bool r, .bool s], .float .f64 k] w fun o w' => o = .returned (.bool Q) ∧ Up w w')) (HJo : Hid (∀ w, Calls Try.prog 23 #[.agg #[.float .f64 a, .float .f64 b, .bool p, .bool q], .agg #[.float .f64 c, .float .f64 d, .bool r, .bool s]] w fun o w' => o = .returned (.tuple #[.agg #[.float .f64 JU, .float .f64 JV, .bool JE, .bool JE], .bool K]) ∧ Up w w')) (HM : Hid (∀ w, Calls Try.prog 14 #[.agg #[.float .f64 a, .float .f64 b, .bool p, .bool q], .agg #[.float .f64 c, .float .f64 d, .bool r, .bool s]] w fun o w' => o = .returned (.agg #[.float .f64 U, .float .f64 V, .bool E, .bool E]) ∧ Up w w')) (HMk : Hid (∀ w, Calls Try.prog 25 #[.agg #[.float .f64 U, .float .f64 V, .bool E, .bool E], .float .f64 k] w fun o w' => o = .returned (.bool (P && Q)) ∧ Up w w'))
    (HAp : Hid (∀ w, Calls Try.prog 20 #[.agg #[.float .f64 a, .float .f64 b, .bool p, .bool q], .agg #[.float .f64 c, .float .f64 d, .bool r, .bool s]] w fun o w' => o = .returned (.bool E) ∧ Up w w')) (HW : Hid (∀ w, Calls Try.prog 22 #[.agg #[.float .f64 a, .float .f64 b, .bool p, .bool q], .agg #[.float .f64 c, .float .f64 d, .bool r, .bool s]] w fun o w' => o = .returned (.bool t) ∧ Up w w')) (HJ : Hid (∀ w, Calls Try.prog 25 #[.agg #[.float .f64 JU, .float .f64 JV, .bool JE, .bool JE], .float .f64 k] w fun o w' => o = .returned (.bool h) ∧ Up w w'))
    (hE : E = true → (P && Q) = false) (ht : t = true → P = true → Q = true) (hh : K = true → h = (P || Q)) (w : World) :
    Calls Try.prog 6 #[.agg #[.float .f64 a, .float .f64 b, .bool p, .bool q], .agg #[.float .f64 c, .float .f64 d, .bool r, .bool s], .float .f64 k] w fun o w' => o = .returned (.bool true) ∧ Up w w' := by
  have hE' := hid hE
  have ht' := hid ht
  have hh' := hid hh
  clear hE ht hh
  go_enter Try.func6, Try.ntmps6
  go_upto_region 3 with (first | (go_at_call 15; refine (at_any _ _ _).mono ?_; rintro o w2 ⟨rfl, hb2⟩; have s2 : B2 w.heap.size a b p q (w.heap.size + 1) c d r s w2 := B2.up hb2 (by first | assumption | (simp [B2, SpAt]; done))) | (go_at_call 25; refine (H0.out _).mono ?_; rintro o w3 ⟨rfl, hb3⟩; have s3 : B2 w.heap.size a b p q (w.heap.size + 1) c d r s w3 := B2.up hb3 (by first | assumption | (simp [B2, SpAt]; done))) | (go_at_call 26; refine (HAl.out _).mono ?_; rintro o w4 ⟨rfl, hb4⟩; have s4 : B2 w.heap.size a b p q (w.heap.size + 1) c d r s w4 := B2.up hb4 (by first | assumption | (simp [B2, SpAt]; done))))
  have U4 : Up w w4 := (by repeat (first | exact Up.refl _ | assumption | refine Up.drew ?_ | refine Up.drewN ?_ _ | refine Up.alloc ?_ _ | refine Up.setCell ?_ ?_ _ | exact Nat.le_refl _ | exact Nat.le_add_right _ _ | (dsimp only; omega) | refine Up.trans ?_ ‹Up _ _›))
  have HB4 := hid s4
  go_cut [7, 8] (fun f g wx => f = .bool P ∧ g = .bool Q ∧ B2 w.heap.size a b p q (w.heap.size + 1) c d r s wx ∧ Up w wx)
  case first =>
    refine wp_region_noPanic ?_
    refine wp_region_held_drew (S := B2 w.heap.size a b p q (w.heap.size + 1) c d r s) (by kernel_rfl) ?_ (fun hHeld => ?_)
    · exact B2.up ((Up.refl _).drew) HB4.out
    (try simp only [Act.put]); (try simp only [List.setIfInBounds_toArray]); (try simp only [List.set_cons_succ]); (try simp only [List.set_cons_zero])
    clear hHeld
    refine wpAnyH_take (i := 0) (oi := { dst := some 18, op := Op.load 31 (Operand.tmp 3), type := 31, pos := "law.go:84", after := #[], guard := none }) (v := ?vk142) rfl (by kernel_rfl) (by kernel_rfl) (by kernel_rfl) (fun _ _ _ h => h) (Or.inl ⟨by rfl, ?hk142⟩) (B2.up ((Up.refl w4).drew) HB4.out) ?rk142
    case hk142 => (intro wz hSw; (try dsimp only at hSw); go_simp; try with_reducible rfl)
    (try simp only [Act.put]); (try simp only [List.setIfInBounds_toArray]); (try simp only [List.set_cons_succ]); (try simp only [List.set_cons_zero])
    refine wpAnyH_take (i := 1) (oi := { dst := some 19, op := Op.move (Operand.tmp 2), type := 23, pos := "law.go:84", after := #[], guard := none }) (v := ?vk143) rfl (by kernel_rfl) (by kernel_rfl) (by kernel_rfl) (fun _ _ _ h => h) (Or.inl ⟨by rfl, ?hk143⟩) (B2.up ((Up.refl w4).drew) HB4.out) ?rk143
    case hk143 => (intro wz hSw; (try dsimp only at hSw); go_simp; try with_reducible rfl)
    (try simp only [Act.put]); (try simp only [List.setIfInBounds_toArray]); (try simp only [List.set_cons_succ]); (try simp only [List.set_cons_zero])
    refine wpAnyH_take (i := 3) (oi := { dst := some 21, op := Op.load 31 (Operand.tmp 4), type := 31, pos := "law.go:84", after := #[], guard := none }) (v := ?vk144) rfl (by kernel_rfl) (by kernel_rfl) (by kernel_rfl) (fun _ _ _ h => h) (Or.inl ⟨by rfl, ?hk144⟩) (B2.up ((Up.refl w4).drew) HB4.out) ?rk144
    case hk144 => (intro wz hSw; (try dsimp only at hSw); go_simp; try with_reducible rfl)
    (try simp only [Act.put]); (try simp only [List.setIfInBounds_toArray]); (try simp only [List.set_cons_succ]); (try simp only [List.set_cons_zero])
    refine wpAnyH_take (i := 4) (oi := { dst := some 22, op := Op.move (Operand.tmp 2), type := 23, pos := "law.go:84", after := #[], guard := none }) (v := ?vk145) rfl (by kernel_rfl) (by kernel_rfl) (by kernel_rfl) (fun _ _ _ h => h) (Or.inl ⟨by rfl, ?hk145⟩) (B2.up ((Up.refl w4).drew) HB4.out) ?rk145
    case hk145 => (intro wz hSw; (try dsimp only at hSw); go_simp; try with_reducible rfl)
    (try simp only [Act.put]); (try simp only [List.setIfInBounds_toArray]); (try simp only [List.set_cons_succ]); (try simp only [List.set_cons_zero])
    refine wpAnyH_ready (rs := [2]) (by kernel_rfl) (by simp) ?_
    refine AllReadyH.cons (o := { dst := some 20, op := Op.call { callee := Callee.value (Operand.func 25), args := #[Operand.tmp 18, Operand.tmp 19], argTypes := #[31, 23] }, type := 4, pos := "law.go:84", after := #[{ on := 0, ground := Ground.data }, { on := 1, ground := Ground.data }], guard := none }) rfl (fun K hK => ?_) AllReadyH.nil
    refine wantCall2 ?_ 25 (.tmp 18) (.tmp 19) #[31, 23] ?_ (.agg #[.float .f64 a, .float .f64 b, .bool p, .bool q]) (.float .f64 k) ?_ ?_ ?_ (ent_has _ _) ?_
    · rfl
    · rfl
    · rfl
    · rfl
    · rfl
    refine (HP.out _).mono ?_
    rintro o x146 ⟨rfl, b146⟩
    refine ⟨_, rfl, ?_⟩
    have U146 := ((Up.refl w4).drew).trans b146
    refine hK.out _ _ (B2.up U146 HB4.out) (fun _ => ?_)
    clear hK K
    (try simp only [Act.put]); (try simp only [List.setIfInBounds_toArray]); (try simp only [List.set_cons_succ]); (try simp only [List.set_cons_zero])
    refine wpAnyH_ready (rs := [5]) (by kernel_rfl) (by simp) ?_
    refine AllReadyH.cons (o := { dst := some 23, op := Op.call { callee := Callee.value (Operand.func 25), args := #[Operand.tmp 21, Operand.tmp 22], argTypes := #[31, 23] }, type := 4, pos := "law.go:84", after := #[{ on := 3, ground := Ground.data }, { on := 4, ground := Ground.data }, { on := 2, ground := Ground.chain }], guard := none }) rfl (fun K hK => ?_) AllReadyH.nil
    refine wantCall2 ?_ 25 (.tmp 21) (.tmp 22) #[31, 23] ?_ (.agg #[.float .f64 c, .float .f64 d, .bool r, .bool s]) (.float .f64 k) ?_ ?_ ?_ (ent_has _ _) ?_
    · rfl
    · rfl
    · rfl
    · rfl
    · rfl
    refine (HQ.out _).mono ?_
    rintro o x147 ⟨rfl, b147⟩
    refine ⟨_, rfl, ?_⟩
    have U147 := U146.trans b147
    refine hK.out _ _ (B2.up U147 HB4.out) (fun _ => ?_)
    clear hK K
    (try simp only [Act.put]); (try simp only [List.setIfInBounds_toArray]); (try simp only [List.set_cons_succ]); (try simp only [List.set_cons_zero])
    refine wpAnyH_ready (rs := [6]) (by kernel_rfl) (by simp) ?_
    refine AllReadyH.cons (o := { dst := some 7, op := Op.assign (Operand.tmp 20), type := 4, pos := "law.go:84", after := #[{ on := 2, ground := Ground.data }, { on := 5, ground := Ground.chain }, { on := 0, ground := Ground.phase }, { on := 1, ground := Ground.phase }, { on := 2, ground := Ground.phase }, { on := 3, ground := Ground.textOnly Departure.lateStores }, { on := 4, ground := Ground.textOnly Departure.lateStores }, { on := 5, ground := Ground.textOnly Departure.lateStoresUnsure }], guard := none }) rfl (fun K hK => ?_) AllReadyH.nil
    go_simp
    refine hK.out _ _ (B2.up U147 HB4.out) (fun _ => ?_)
    clear hK K
    (try simp only [Act.put]); (try simp only [List.setIfInBounds_toArray]); (try simp only [List.set_cons_succ]); (try simp only [List.set_cons_zero])
    refine wpAnyH_ready (rs := [7]) (by kernel_rfl) (by simp) ?_
    refine AllReadyH.cons (o := { dst := some 8, op := Op.assign (Operand.tmp 23), type := 4, pos := "law.go:84", after := #[{ on := 5, ground := Ground.data }, { on := 6, ground := Ground.chain }, { on := 0, ground := Ground.phase }, { on := 1, ground := Ground.phase }, { on := 2, ground := Ground.phase }, { on := 3, ground := Ground.phase }, { on := 4, ground := Ground.phase }, { on := 5, ground := Ground.phase }, { on := 6, ground := Ground.phase }], guard := none }) rfl (fun K hK => ?_) AllReadyH.nil
    go_simp
    refine hK.out _ _ (B2.up U147 HB4.out) (fun _ => ?_)
    clear hK K
    (try simp only [Act.put]); (try simp only [List.setIfInBounds_toArray]); (try simp only [List.set_cons_succ]); (try simp only [List.set_cons_zero])
    refine wpAnyH_done (by kernel_rfl) ?_ _
    refine NoPanic.normal ?_
    go_wp2_with fail
    go_meet
    case rel => exact ⟨rfl, rfl, B2.up U147 HB4.out, U4.trans U147⟩
  case rest =>
    obtain ⟨rfl, rfl, sB, UW⟩ := hcut
    clear HB4 s4 s3 s2 hb2 hb3 hb4 U4 H0 HAl HP HQ
    go_upto_region 5 with (go_at_call 23; refine (HJo.out _).mono ?_; rintro o w5 ⟨rfl, hb5⟩)
    obtain ⟨wb, hwb⟩ : ∃ wb, wb = w5.alloc (Obj.cells #[Value.float FloatKind.f64 JU, Value.float FloatKind.f64 JV, Value.bool JE, Value.bool JE] 31) := ⟨_, rfl⟩
    have U8 : Up wc wb := by rw [hwb]; exact hb5.alloc _
    have UB : Up w wb := UW.trans U8
    have sz : SpAt w5.heap.size JU JV JE JE wb := by rw [hwb]; simp [SpAt]
    rw [← hwb]
    generalize w5.heap.size = z at sz ⊢
    have hB3 : B3k w.heap.size a b p q (w.heap.size + 1) c d r s z JU JV JE wb := ⟨B2.up U8 sB, sz⟩
    clear hwb sz sB UW U8 hb5 HJo
    cases P
    · have HMk' := hid (show Hid (∀ w, Calls Try.prog 25 #[.agg #[.float .f64 U, .float .f64 V, .bool E, .bool E], .float .f64 k] w fun o w' => o = .returned (.bool false) ∧ Up w w') from HMk)
      cases Q
      · cases K
        · clear hE' ht' hh' HMk
          have HMk := HMk'.out
          go_wp2_with (first | (go_at_call 14; refine (HM.out _).mono ?_; rintro o w6 ⟨rfl, hb6⟩; have h6 : B3k w.heap.size a b p q (w.heap.size + 1) c d r s z JU JV JE w6 := B3k.up hb6 (by first | assumption | (simp [B2, SpAt]; done))) | (go_at_call 20; refine (HAp.out _).mono ?_; rintro o w7 ⟨rfl, hb7⟩; have h7 : B3k w.heap.size a b p q (w.heap.size + 1) c d r s z JU JV JE w7 := B3k.up hb7 (by first | assumption | (simp [B2, SpAt]; done))) | (go_at_call 22; refine (HW.out _).mono ?_; rintro o w8 ⟨rfl, hb8⟩; have h8 : B3k w.heap.size a b p q (w.heap.size + 1) c d r s z JU JV JE w8 := B3k.up hb8 (by first | assumption | (simp [B2, SpAt]; done))) | (go_at_call_of 25 (Value.agg #[Value.float FloatKind.f64 JU, Value.float FloatKind.f64 JV, Value.bool JE, Value.bool JE]); refine (HJ.out _).mono ?_; rintro o w9 ⟨rfl, hb9⟩; have h9 : B3k w.heap.size a b p q (w.heap.size + 1) c d r s z JU JV JE w9 := B3k.up hb9 (by first | assumption | (simp [B2, SpAt]; done))) | (go_at_call_of 25 (Value.agg #[Value.float FloatKind.f64 U, Value.float FloatKind.f64 V, Value.bool E, Value.bool E]); refine (HMk.out _).mono ?_; rintro o w10 ⟨rfl, hb10⟩; have h10 : B3k w.heap.size a b p q (w.heap.size + 1) c d r s z JU JV JE w10 := B3k.up hb10 (by first | assumption | (simp [B2, SpAt]; done))))
          all_goals go_ret
          all_goals first | exact ⟨rfl, (by repeat (first | exact Up.refl _ | assumption | refine Up.drew ?_ | refine Up.drewN ?_ _ | refine Up.alloc ?_ _ | refine Up.setCell ?_ ?_ _ | exact Nat.le_refl _ | exact Nat.le_add_right _ _ | (dsimp only; omega) | refine Up.trans ?_ ‹Up _ _›))⟩ | (exfalso; simp_all; done) | exact ⟨ret_b (by simp_all), (by repeat (first | exact Up.refl _ | assumption | refine Up.drew ?_ | refine Up.drewN ?_ _ | refine Up.alloc ?_ _ | refine Up.setCell ?_ ?_ _ | exact Nat.le_refl _ | exact Nat.le_add_right _ _ | (dsimp only; omega) | refine Up.trans ?_ ‹Up _ _›))⟩
        · have e := hh'.out rfl
          subst e
          clear hE' ht' hh' HMk
          have HMk := HMk'.out
          go_wp2_with (first | (go_at_call 14; refine (HM.out _).mono ?_; rintro o w6 ⟨rfl, hb6⟩; have h6 : B3k w.heap.size a b p q (w.heap.size + 1) c d r s z JU JV JE w6 := B3k.up hb6 (by first | assumption | (simp [B2, SpAt]; done))) | (go_at_call 20; refine (HAp.out _).mono ?_; rintro o w7 ⟨rfl, hb7⟩; have h7 : B3k w.heap.size a b p q (w.heap.size + 1) c d r s z JU JV JE w7 := B3k.up hb7 (by first | assumption | (simp [B2, SpAt]; done))) | (go_at_call 22; refine (HW.out _).mono ?_; rintro o w8 ⟨rfl, hb8⟩; have h8 : B3k w.heap.size a b p q (w.heap.size + 1) c d r s z JU JV JE w8 := B3k.up hb8 (by first | assumption | (simp [B2, SpAt]; done))) | (go_at_call_of 25 (Value.agg #[Value.float FloatKind.f64 JU, Value.float FloatKind.f64 JV, Value.bool JE, Value.bool JE]); refine (HJ.out _).mono ?_; rintro o w9 ⟨rfl, hb9⟩; have h9 : B3k w.heap.size a b p q (w.heap.size + 1) c d r s z JU JV JE w9 := B3k.up hb9 (by first | assumption | (simp [B2, SpAt]; done))) | (go_at_call_of 25 (Value.agg #[Value.float FloatKind.f64 U, Value.float FloatKind.f64 V, Value.bool E, Value.bool E]); refine (HMk.out _).mono ?_; rintro o w10 ⟨rfl, hb10⟩; have h10 : B3k w.heap.size a b p q (w.heap.size + 1) c d r s z JU JV JE w10 := B3k.up hb10 (by first | assumption | (simp [B2, SpAt]; done))))
          all_goals go_ret
          all_goals first | exact ⟨rfl, (by repeat (first | exact Up.refl _ | assumption | refine Up.drew ?_ | refine Up.drewN ?_ _ | refine Up.alloc ?_ _ | refine Up.setCell ?_ ?_ _ | exact Nat.le_refl _ | exact Nat.le_add_right _ _ | (dsimp only; omega) | refine Up.trans ?_ ‹Up _ _›))⟩ | (exfalso; simp_all; done) | exact ⟨ret_b (by simp_all), (by repeat (first | exact Up.refl _ | assumption | refine Up.drew ?_ | refine Up.drewN ?_ _ | refine Up.alloc ?_ _ | refine Up.setCell ?_ ?_ _ | exact Nat.le_refl _ | exact Nat.le_add_right _ _ | (dsimp only; omega) | refine Up.trans ?_ ‹Up _ _›))⟩
      · cases K
        · clear hE' ht' hh' HMk
          have HMk := HMk'.out
          go_wp2_with (first | (go_at_call 14; refine (HM.out _).mono ?_; rintro o w6 ⟨rfl, hb6⟩; have h6 : B3k w.heap.size a b p q (w.heap.size + 1) c d r s z JU JV JE w6 := B3k.up hb6 (by first | assumption | (simp [B2, SpAt]; done))) | (go_at_call 20; refine (HAp.out _).mono ?_; rintro o w7 ⟨rfl, hb7⟩; have h7 : B3k w.heap.size a b p q (w.heap.size + 1) c d r s z JU JV JE w7 := B3k.up hb7 (by first | assumption | (simp [B2, SpAt]; done))) | (go_at_call 22; refine (HW.out _).mono ?_; rintro o w8 ⟨rfl, hb8⟩; have h8 : B3k w.heap.size a b p q (w.heap.size + 1) c d r s z JU JV JE w8 := B3k.up hb8 (by first | assumption | (simp [B2, SpAt]; done))) | (go_at_call_of 25 (Value.agg #[Value.float FloatKind.f64 JU, Value.float FloatKind.f64 JV, Value.bool JE, Value.bool JE]); refine (HJ.out _).mono ?_; rintro o w9 ⟨rfl, hb9⟩; have h9 : B3k w.heap.size a b p q (w.heap.size + 1) c d r s z JU JV JE w9 := B3k.up hb9 (by first | assumption | (simp [B2, SpAt]; done))) | (go_at_call_of 25 (Value.agg #[Value.float FloatKind.f64 U, Value.float FloatKind.f64 V, Value.bool E, Value.bool E]); refine (HMk.out _).mono ?_; rintro o w10 ⟨rfl, hb10⟩; have h10 : B3k w.heap.size a b p q (w.heap.size + 1) c d r s z JU JV JE w10 := B3k.up hb10 (by first | assumption | (simp [B2, SpAt]; done))))
          all_goals go_ret
          all_goals first | exact ⟨rfl, (by repeat (first | exact Up.refl _ | assumption | refine Up.drew ?_ | refine Up.drewN ?_ _ | refine Up.alloc ?_ _ | refine Up.setCell ?_ ?_ _ | exact Nat.le_refl _ | exact Nat.le_add_right _ _ | (dsimp only; omega) | refine Up.trans ?_ ‹Up _ _›))⟩ | (exfalso; simp_all; done) | exact ⟨ret_b (by simp_all), (by repeat (first | exact Up.refl _ | assumption | refine Up.drew ?_ | refine Up.drewN ?_ _ | refine Up.alloc ?_ _ | refine Up.setCell ?_ ?_ _ | exact Nat.le_refl _ | exact Nat.le_add_right _ _ | (dsimp only; omega) | refine Up.trans ?_ ‹Up _ _›))⟩
        · have e := hh'.out rfl
          subst e
          clear hE' ht' hh' HMk
          have HMk := HMk'.out
          go_wp2_with (first | (go_at_call 14; refine (HM.out _).mono ?_; rintro o w6 ⟨rfl, hb6⟩; have h6 : B3k w.heap.size a b p q (w.heap.size + 1) c d r s z JU JV JE w6 := B3k.up hb6 (by first | assumption | (simp [B2, SpAt]; done))) | (go_at_call 20; refine (HAp.out _).mono ?_; rintro o w7 ⟨rfl, hb7⟩; have h7 : B3k w.heap.size a b p q (w.heap.size + 1) c d r s z JU JV JE w7 := B3k.up hb7 (by first | assumption | (simp [B2, SpAt]; done))) | (go_at_call 22; refine (HW.out _).mono ?_; rintro o w8 ⟨rfl, hb8⟩; have h8 : B3k w.heap.size a b p q (w.heap.size + 1) c d r s z JU JV JE w8 := B3k.up hb8 (by first | assumption | (simp [B2, SpAt]; done))) | (go_at_call_of 25 (Value.agg #[Value.float FloatKind.f64 JU, Value.float FloatKind.f64 JV, Value.bool JE, Value.bool JE]); refine (HJ.out _).mono ?_; rintro o w9 ⟨rfl, hb9⟩; have h9 : B3k w.heap.size a b p q (w.heap.size + 1) c d r s z JU JV JE w9 := B3k.up hb9 (by first | assumption | (simp [B2, SpAt]; done))) | (go_at_call_of 25 (Value.agg #[Value.float FloatKind.f64 U, Value.float FloatKind.f64 V, Value.bool E, Value.bool E]); refine (HMk.out _).mono ?_; rintro o w10 ⟨rfl, hb10⟩; have h10 : B3k w.heap.size a b p q (w.heap.size + 1) c d r s z JU JV JE w10 := B3k.up hb10 (by first | assumption | (simp [B2, SpAt]; done))))
          all_goals go_ret
          all_goals first | exact ⟨rfl, (by repeat (first | exact Up.refl _ | assumption | refine Up.drew ?_ | refine Up.drewN ?_ _ | refine Up.alloc ?_ _ | refine Up.setCell ?_ ?_ _ | exact Nat.le_refl _ | exact Nat.le_add_right _ _ | (dsimp only; omega) | refine Up.trans ?_ ‹Up _ _›))⟩ | (exfalso; simp_all; done) | exact ⟨ret_b (by simp_all), (by repeat (first | exact Up.refl _ | assumption | refine Up.drew ?_ | refine Up.drewN ?_ _ | refine Up.alloc ?_ _ | refine Up.setCell ?_ ?_ _ | exact Nat.le_refl _ | exact Nat.le_add_right _ _ | (dsimp only; omega) | refine Up.trans ?_ ‹Up _ _›))⟩
    · cases Q
      · have HMk' := hid (show Hid (∀ w, Calls Try.prog 25 #[.agg #[.float .f64 U, .float .f64 V, .bool E, .bool E], .float .f64 k] w fun o w' => o = .returned (.bool false) ∧ Up w w') from HMk)
        have et : t = false := by
          cases t
          · rfl
          · exact absurd (ht'.out rfl rfl) (by decide)
        subst et
        cases K
        · clear hE' ht' hh' HMk
          have HMk := HMk'.out
          go_wp2_with (first | (go_at_call 14; refine (HM.out _).mono ?_; rintro o w6 ⟨rfl, hb6⟩; have h6 : B3k w.heap.size a b p q (w.heap.size + 1) c d r s z JU JV JE w6 := B3k.up hb6 (by first | assumption | (simp [B2, SpAt]; done))) | (go_at_call 20; refine (HAp.out _).mono ?_; rintro o w7 ⟨rfl, hb7⟩; have h7 : B3k w.heap.size a b p q (w.heap.size + 1) c d r s z JU JV JE w7 := B3k.up hb7 (by first | assumption | (simp [B2, SpAt]; done))) | (go_at_call 22; refine (HW.out _).mono ?_; rintro o w8 ⟨rfl, hb8⟩; have h8 : B3k w.heap.size a b p q (w.heap.size + 1) c d r s z JU JV JE w8 := B3k.up hb8 (by first | assumption | (simp [B2, SpAt]; done))) | (go_at_call_of 25 (Value.agg #[Value.float FloatKind.f64 JU, Value.float FloatKind.f64 JV, Value.bool JE, Value.bool JE]); refine (HJ.out _).mono ?_; rintro o w9 ⟨rfl, hb9⟩; have h9 : B3k w.heap.size a b p q (w.heap.size + 1) c d r s z JU JV JE w9 := B3k.up hb9 (by first | assumption | (simp [B2, SpAt]; done))) | (go_at_call_of 25 (Value.agg #[Value.float FloatKind.f64 U, Value.float FloatKind.f64 V, Value.bool E, Value.bool E]); refine (HMk.out _).mono ?_; rintro o w10 ⟨rfl, hb10⟩; have h10 : B3k w.heap.size a b p q (w.heap.size + 1) c d r s z JU JV JE w10 := B3k.up hb10 (by first | assumption | (simp [B2, SpAt]; done))))
          all_goals go_ret
          all_goals first | exact ⟨rfl, (by repeat (first | exact Up.refl _ | assumption | refine Up.drew ?_ | refine Up.drewN ?_ _ | refine Up.alloc ?_ _ | refine Up.setCell ?_ ?_ _ | exact Nat.le_refl _ | exact Nat.le_add_right _ _ | (dsimp only; omega) | refine Up.trans ?_ ‹Up _ _›))⟩ | (exfalso; simp_all; done) | exact ⟨ret_b (by simp_all), (by repeat (first | exact Up.refl _ | assumption | refine Up.drew ?_ | refine Up.drewN ?_ _ | refine Up.alloc ?_ _ | refine Up.setCell ?_ ?_ _ | exact Nat.le_refl _ | exact Nat.le_add_right _ _ | (dsimp only; omega) | refine Up.trans ?_ ‹Up _ _›))⟩
        · have e := hh'.out rfl
          subst e
          clear hE' ht' hh' HMk
          have HMk := HMk'.out
          go_wp2_with (first | (go_at_call 14; refine (HM.out _).mono ?_; rintro o w6 ⟨rfl, hb6⟩; have h6 : B3k w.heap.size a b p q (w.heap.size + 1) c d r s z JU JV JE w6 := B3k.up hb6 (by first | assumption | (simp [B2, SpAt]; done))) | (go_at_call 20; refine (HAp.out _).mono ?_; rintro o w7 ⟨rfl, hb7⟩; have h7 : B3k w.heap.size a b p q (w.heap.size + 1) c d r s z JU JV JE w7 := B3k.up hb7 (by first | assumption | (simp [B2, SpAt]; done))) | (go_at_call 22; refine (HW.out _).mono ?_; rintro o w8 ⟨rfl, hb8⟩; have h8 : B3k w.heap.size a b p q (w.heap.size + 1) c d r s z JU JV JE w8 := B3k.up hb8 (by first | assumption | (simp [B2, SpAt]; done))) | (go_at_call_of 25 (Value.agg #[Value.float FloatKind.f64 JU, Value.float FloatKind.f64 JV, Value.bool JE, Value.bool JE]); refine (HJ.out _).mono ?_; rintro o w9 ⟨rfl, hb9⟩; have h9 : B3k w.heap.size a b p q (w.heap.size + 1) c d r s z JU JV JE w9 := B3k.up hb9 (by first | assumption | (simp [B2, SpAt]; done))) | (go_at_call_of 25 (Value.agg #[Value.float FloatKind.f64 U, Value.float FloatKind.f64 V, Value.bool E, Value.bool E]); refine (HMk.out _).mono ?_; rintro o w10 ⟨rfl, hb10⟩; have h10 : B3k w.heap.size a b p q (w.heap.size + 1) c d r s z JU JV JE w10 := B3k.up hb10 (by first | assumption | (simp [B2, SpAt]; done))))
          all_goals go_ret
          all_goals first | exact ⟨rfl, (by repeat (first | exact Up.refl _ | assumption | refine Up.drew ?_ | refine Up.drewN ?_ _ | refine Up.alloc ?_ _ | refine Up.setCell ?_ ?_ _ | exact Nat.le_refl _ | exact Nat.le_add_right _ _ | (dsimp only; omega) | refine Up.trans ?_ ‹Up _ _›))⟩ | (exfalso; simp_all; done) | exact ⟨ret_b (by simp_all), (by repeat (first | exact Up.refl _ | assumption | refine Up.drew ?_ | refine Up.drewN ?_ _ | refine Up.alloc ?_ _ | refine Up.setCell ?_ ?_ _ | exact Nat.le_refl _ | exact Nat.le_add_right _ _ | (dsimp only; omega) | refine Up.trans ?_ ‹Up _ _›))⟩
      · have HMk' := hid (show Hid (∀ w, Calls Try.prog 25 #[.agg #[.float .f64 U, .float .f64 V, .bool E, .bool E], .float .f64 k] w fun o w' => o = .returned (.bool true) ∧ Up w w') from HMk)
        have eE : E = false := by
          cases E
          · rfl
          · exact absurd (hE'.out rfl) (by decide)
        subst eE
        cases K
        · clear hE' ht' hh' HMk
          have HMk := HMk'.out
          go_wp2_with (first | (go_at_call 14; refine (HM.out _).mono ?_; rintro o w6 ⟨rfl, hb6⟩; have h6 : B3k w.heap.size a b p q (w.heap.size + 1) c d r s z JU JV JE w6 := B3k.up hb6 (by first | assumption | (simp [B2, SpAt]; done))) | (go_at_call 20; refine (HAp.out _).mono ?_; rintro o w7 ⟨rfl, hb7⟩; have h7 : B3k w.heap.size a b p q (w.heap.size + 1) c d r s z JU JV JE w7 := B3k.up hb7 (by first | assumption | (simp [B2, SpAt]; done))) | (go_at_call 22; refine (HW.out _).mono ?_; rintro o w8 ⟨rfl, hb8⟩; have h8 : B3k w.heap.size a b p q (w.heap.size + 1) c d r s z JU JV JE w8 := B3k.up hb8 (by first | assumption | (simp [B2, SpAt]; done))) | (go_at_call_of 25 (Value.agg #[Value.float FloatKind.f64 JU, Value.float FloatKind.f64 JV, Value.bool JE, Value.bool JE]); refine (HJ.out _).mono ?_; rintro o w9 ⟨rfl, hb9⟩; have h9 : B3k w.heap.size a b p q (w.heap.size + 1) c d r s z JU JV JE w9 := B3k.up hb9 (by first | assumption | (simp [B2, SpAt]; done))) | (go_at_call_of 25 (Value.agg #[Value.float FloatKind.f64 U, Value.float FloatKind.f64 V, Value.bool false, Value.bool false]); refine (HMk.out _).mono ?_; rintro o w10 ⟨rfl, hb10⟩; have h10 : B3k w.heap.size a b p q (w.heap.size + 1) c d r s z JU JV JE w10 := B3k.up hb10 (by first | assumption | (simp [B2, SpAt]; done))))
          all_goals go_ret
          all_goals first | exact ⟨rfl, (by repeat (first | exact Up.refl _ | assumption | refine Up.drew ?_ | refine Up.drewN ?_ _ | refine Up.alloc ?_ _ | refine Up.setCell ?_ ?_ _ | exact Nat.le_refl _ | exact Nat.le_add_right _ _ | (dsimp only; omega) | refine Up.trans ?_ ‹Up _ _›))⟩ | (exfalso; simp_all; done) | exact ⟨ret_b (by simp_all), (by repeat (first | exact Up.refl _ | assumption | refine Up.drew ?_ | refine Up.drewN ?_ _ | refine Up.alloc ?_ _ | refine Up.setCell ?_ ?_ _ | exact Nat.le_refl _ | exact Nat.le_add_right _ _ | (dsimp only; omega) | refine Up.trans ?_ ‹Up _ _›))⟩
        · have e := hh'.out rfl
          subst e
          clear hE' ht' hh' HMk
          have HMk := HMk'.out
          go_wp2_with (first | (go_at_call 14; refine (HM.out _).mono ?_; rintro o w6 ⟨rfl, hb6⟩; have h6 : B3k w.heap.size a b p q (w.heap.size + 1) c d r s z JU JV JE w6 := B3k.up hb6 (by first | assumption | (simp [B2, SpAt]; done))) | (go_at_call 20; refine (HAp.out _).mono ?_; rintro o w7 ⟨rfl, hb7⟩; have h7 : B3k w.heap.size a b p q (w.heap.size + 1) c d r s z JU JV JE w7 := B3k.up hb7 (by first | assumption | (simp [B2, SpAt]; done))) | (go_at_call 22; refine (HW.out _).mono ?_; rintro o w8 ⟨rfl, hb8⟩; have h8 : B3k w.heap.size a b p q (w.heap.size + 1) c d r s z JU JV JE w8 := B3k.up hb8 (by first | assumption | (simp [B2, SpAt]; done))) | (go_at_call_of 25 (Value.agg #[Value.float FloatKind.f64 JU, Value.float FloatKind.f64 JV, Value.bool JE, Value.bool JE]); refine (HJ.out _).mono ?_; rintro o w9 ⟨rfl, hb9⟩; have h9 : B3k w.heap.size a b p q (w.heap.size + 1) c d r s z JU JV JE w9 := B3k.up hb9 (by first | assumption | (simp [B2, SpAt]; done))) | (go_at_call_of 25 (Value.agg #[Value.float FloatKind.f64 U, Value.float FloatKind.f64 V, Value.bool false, Value.bool false]); refine (HMk.out _).mono ?_; rintro o w10 ⟨rfl, hb10⟩; have h10 : B3k w.heap.size a b p q (w.heap.size + 1) c d r s z JU JV JE w10 := B3k.up hb10 (by first | assumption | (simp [B2, SpAt]; done))))
          all_goals go_ret
          all_goals first | exact ⟨rfl, (by repeat (first | exact Up.refl _ | assumption | refine Up.drew ?_ | refine Up.drewN ?_ _ | refine Up.alloc ?_ _ | refine Up.setCell ?_ ?_ _ | exact Nat.le_refl _ | exact Nat.le_add_right _ _ | (dsimp only; omega) | refine Up.trans ?_ ‹Up _ _›))⟩ | (exfalso; simp_all; done) | exact ⟨ret_b (by simp_all), (by repeat (first | exact Up.refl _ | assumption | refine Up.drew ?_ | refine Up.drewN ?_ _ | refine Up.alloc ?_ _ | refine Up.setCell ?_ ?_ _ | exact Nat.le_refl _ | exact Nat.le_add_right _ _ | (dsimp only; omega) | refine Up.trans ?_ ‹Up _ _›))⟩

namespace Fl
theorem keys_facts {u1 v1 u2 v2 k : Nat} {e1 e2 : Bool} (h1 : Fl.IsForm u1 v1 e1) (h2 : Fl.IsForm u2 v2 e2) (hk : Fl.W k) :
    Fl.hasF (Fl.mU u1 v1 e1 u2 v2 e2) (Fl.mV u1 v1 e1 u2 v2 e2) (Fl.mE u1 v1 e1 u2 v2 e2) k = (Fl.hasF u1 v1 e1 k && Fl.hasF u2 v2 e2 k)
    ∧ (Fl.fq (Fl.mU u1 v1 e1 u2 v2 e2) (Fl.mV u1 v1 e1 u2 v2 e2) (Fl.mE u1 v1 e1 u2 v2 e2) u1 v1 e1 = true → Fl.hasF u1 v1 e1 k = true → Fl.hasF u2 v2 e2 k = true)
    ∧ (Fl.jK u1 v1 e1 u2 v2 e2 = true → Fl.hasF (Fl.jU u1 v1 e1 u2 v2 e2) (Fl.jV u1 v1 e1 u2 v2 e2) (Fl.jE u1 v1 e1 u2 v2 e2) k = (Fl.hasF u1 v1 e1 k || Fl.hasF u2 v2 e2 k)) := by
  have c1 := Fl.code_mx u1 u2
  have c2 := Fl.code_mn v1 v2
  have c3 := Fl.code_mn u1 u2
  have c4 := Fl.code_mx v1 v2
  have m1 : Fl.hasF (Fl.mU u1 v1 e1 u2 v2 e2) (Fl.mV u1 v1 e1 u2 v2 e2) (Fl.mE u1 v1 e1 u2 v2 e2) k = (Fl.hasF u1 v1 e1 k && Fl.hasF u2 v2 e2 k) := by
    cases e1
    · cases e2
      · cases hm : Fl.mE u1 v1 false u2 v2 false
        · have hm' := hm
          unfold Fl.mE at hm'
          simp only [Bool.false_or, decide_eq_false_iff_not] at hm'
          unfold Fl.mU Fl.mV; rw [hm]; unfold Fl.hasF
          rw [Bool.eq_iff_iff]; simp [c1, c2]; omega
        · have hm' := hm
          unfold Fl.mE at hm'
          simp only [Bool.false_or, decide_eq_true_eq] at hm'
          unfold Fl.mU Fl.mV; rw [hm]; unfold Fl.hasF
          rw [Bool.eq_iff_iff]; simp; omega
      · have e : Fl.mE u1 v1 false u2 v2 true = true := rfl
        rw [e]; unfold Fl.hasF; simp
    · have e : Fl.mE u1 v1 true u2 v2 e2 = true := rfl
      rw [e]; unfold Fl.hasF; simp
  refine ⟨m1, ?_, ?_⟩
  · intro h hp
    obtain ⟨a1, a2, a3⟩ := (Fl.fq_iff (Fl.meet_form h1 h2) h1).1 h
    rw [a1, a2, a3, hp] at m1
    simpa using m1.symm
  · intro hK
    cases e1
    · cases e2
      · unfold Fl.jU Fl.jV Fl.jE; rw [hK]
        have r1 := Fl.form_rng h1
        have r2 := Fl.form_rng h2
        simp at r1 r2
        have hK' := hK
        unfold Fl.jK Fl.gp at hK'
        simp only [Bool.false_or, Bool.not_eq_true', Bool.or_eq_false_iff, decide_eq_false_iff_not] at hK'
        have ck := Fl.code_range k hk
        have cu1 := Fl.code_range u1 h1.1
        have cu2 := Fl.code_range u2 h2.1
        have cv1 := Fl.code_range v1 h1.2.1
        have cv2 := Fl.code_range v2 h2.2.1
        have nx1 : v1 = Fl.INF ∨ Fl.code (Fl.nextB v1) = Fl.nc (Fl.code v1) := by
          by_cases hi : v1 = Fl.INF
          · exact .inl hi
          · exact .inr (Fl.code_next v1 h1.2.1 hi)
        have nx2 : v2 = Fl.INF ∨ Fl.code (Fl.nextB v2) = Fl.nc (Fl.code v2) := by
          by_cases hi : v2 = Fl.INF
          · exact .inl hi
          · exact .inr (Fl.code_next v2 h2.2.1 hi)
        have i1 := Fl.code_inf_iff v1 h1.2.1
        have i2 := Fl.code_inf_iff v2 h2.2.1
        have n1 : Fl.code v1 = 18442240474082181120 ∨ (Fl.code (Fl.nextB v1) = Fl.code v1 + 1 ∨ (Fl.code v1 = 9223372036854775806 ∧ Fl.code (Fl.nextB v1) = 9223372036854775808)) := by
          rcases nx1 with e | e
          · exact .inl (i1.2 e)
          · unfold Fl.nc at e; right; (repeat' split at e) <;> omega
        have n2 : Fl.code v2 = 18442240474082181120 ∨ (Fl.code (Fl.nextB v2) = Fl.code v2 + 1 ∨ (Fl.code v2 = 9223372036854775806 ∧ Fl.code (Fl.nextB v2) = 9223372036854775808)) := by
          rcases nx2 with e | e
          · exact .inl (i2.2 e)
          · unfold Fl.nc at e; right; (repeat' split at e) <;> omega
        clear nx1 nx2 i1 i2 m1 hK
        unfold Fl.hasF
        rw [Bool.eq_iff_iff]
        simp [c3, c4]
        omega
      · have e : Fl.jU u1 v1 false u2 v2 true = u1 ∧ Fl.jV u1 v1 false u2 v2 true = v1 ∧ Fl.jE u1 v1 false u2 v2 true = false := ⟨rfl, rfl, rfl⟩
        rw [e.1, e.2.1, e.2.2]
        have e' : Fl.hasF u2 v2 true k = false := rfl
        rw [e']; simp
    · have e : Fl.jU u1 v1 true u2 v2 e2 = u2 ∧ Fl.jV u1 v1 true u2 v2 e2 = v2 ∧ Fl.jE u1 v1 true u2 v2 e2 = e2 := ⟨rfl, rfl, rfl⟩
      rw [e.1, e.2.1, e.2.2]
      have e' : Fl.hasF u1 v1 true k = false := rfl
      rw [e']; simp
end Fl

theorem walk (a0 b0 : Nat) (p0 q0 : Bool) (a1 b1 : Nat) (p1 q1 : Bool) (a2 : Nat) (w : World) (w0 : Fl.W a0) (x0 : Fl.W b0) (w1 : Fl.W a1) (x1 : Fl.W b1) (w2 : Fl.W a2) :
    Calls Try.prog 6 #[.agg #[.float .f64 a0, .float .f64 b0, .bool p0, .bool q0], .agg #[.float .f64 a1, .float .f64 b1, .bool p1, .bool q1], .float .f64 a2] w fun e w' => e = .returned (.bool true) ∧ Up w w' := by
  have F12 : Fl.IsForm 4607182418800017408 4611686018427387904 false := ⟨by unfold Fl.W; decide, by unfold Fl.W; decide, fun h => (by cases h), fun _ => by decide +kernel⟩
  have H0 := fun w => has_form _ _ 4607182418800017408 _ F12 (by unfold Fl.W; decide) w
  rw [show Fl.hasF 4607182418800017408 4611686018427387904 false 4607182418800017408 = true by decide +kernel] at H0
  have f1 := Fl.cs_isForm a0 b0 p0 q0 w0 x0
  have f2 := Fl.cs_isForm a1 b1 p1 q1 w1 x1
  have f3 := Fl.meet_form f1 f2
  have f4 := Fl.join_form f1 f2
  have HA := fun w => canonS_any a0 b0 w0 x0 p0 q0 w
  have HB := fun w => canonS_any a1 b1 w1 x1 p1 q1 w
  have HM := fun w => meet_any a0 b0 a1 b1 p0 q0 p1 q1 w0 x0 w1 x1 w
  have HW := fun w => within_core a0 b0 a1 b1 _ _ _ _ p0 q0 p1 q1 _ _ _ _ rfl rfl HM HA w
  rw [Fl.fq_floats f3 f1] at HW
  have kf := Fl.keys_facts f1 f2 w2
  have HMk := fun w => has_form _ _ a2 _ f3 w2 w
  rw [kf.1] at HMk
  refine core a0 b0 a1 b1 a2 _ _ _ _ p0 q0 p1 q1 _ _ _ _ _ _ _ H0 (fun w => alive_any w) (fun w => has_any a0 b0 a2 w0 x0 w2 p0 q0 w) (fun w => has_any a1 b1 a2 w1 x1 w2 p1 q1 w) (fun w => join_at f1 f2 a0 b0 a1 b1 p0 q0 p1 q1 HA HB w) HM HMk (fun w => apart_core a0 b0 a1 b1 _ _ p0 q0 p1 q1 _ f3.2.2.1 HM w) HW (fun w => has_form _ _ a2 _ f4 w2 w) ?_ kf.2.1 kf.2.2 w
  intro hE
  rw [← kf.1, hE]; rfl

set_option maxRecDepth 100000 in
theorem lifted (os : Os) (started : os.Started) (H : Type) (enc : TypeId × Value → H) :
    ReturnsInHanded {} Try.checked os 6 .any (Rows.spanKeysSpec.pre6 enc Try.prog Try.f6 Rows.spanKeysRow.domain false) (Rows.spanKeysSpec.post enc Try.prog Try.f6 false true false false) := by
  refine returnsInHanded_of_change (C := Try.checked) own started (by kernel_rfl) Try.func6
    (ChangeSpec.witness6 (enc := enc) (C := Try.checked) false ⟨#[], #[.agg #[.float .f64 0, .float .f64 0, .bool false, .bool false], .agg #[.float .f64 0, .float .f64 0, .bool false, .bool false], .float .f64 0], []⟩ 8 (by kernel_rfl) (by kernel_rfl) (by kernel_rfl) (by kernel_rfl)) ?_
  intro W base args ds gs before hval0 hW hcnd _
  have hval : ∀ (j : Nat) t v, Try.f6.params[j]? = some t → args[j]? = some v → Value.okWide Try.prog W .any base t v := hval0
  have hW' := hW
  obtain ⟨p, q, hA0, hV, rfl, hfz, hnd⟩ := hW
  have hA : DataW.TrodAll enc Try.prog W 0 (fun _ => true) true Try.f6.params.toList args.toList ds p := hA0
  rw [Try.params6] at hA hval
  obtain ⟨v0, vs0, d0, ds0, p0, q0, hargs, rfl, rfl, h0, r0⟩ := trodAll_cons hA
  obtain ⟨v1, vs1, d1, ds1, p1, q1, rfl, rfl, rfl, h1, r1⟩ := trodAll_cons r0
  obtain ⟨v2, vs2, d2, ds2, p2, q2, rfl, rfl, rfl, h2, r2⟩ := trodAll_cons r1
  obtain ⟨rfl, rfl, rfl⟩ := trodAll_nil r2
  obtain rfl : args = #[v0, v1, v2] := by cases args; simp_all
  obtain ⟨rfl, rfl⟩ := trodVars_none hV
  have k0 := h0
  have lt0 : ∀ x ∈ p0, x.block < W.heap.size := by obtain ⟨m, hm⟩ := k0; exact DataW.trod_lt m _ _ _ hm
  obtain ⟨a0, b0, bp0, bq0, rfl, w0, x0⟩ := open_span (hval 0 31 v0 rfl rfl) h0
  have k1 := h1
  have lt1 : ∀ x ∈ p1, x.block < W.heap.size := by obtain ⟨m, hm⟩ := k1; exact DataW.trod_lt m _ _ _ hm
  obtain ⟨a1, b1, bp1, bq1, rfl, w1, x1⟩ := open_span (hval 1 31 v1 rfl rfl) h1
  have k2 := h2
  have lt2 : ∀ x ∈ p2, x.block < W.heap.size := by obtain ⟨m, hm⟩ := k2; exact DataW.trod_lt m _ _ _ hm
  obtain ⟨a2, rfl, _, _, wf2⟩ := open_float Try.underlying23 (hval 2 23 v2 rfl rfl) h2
  have w2 := wb wf2
  clear hA0 hval0
  refine (walk a0 b0 bp0 bq0 a1 b1 bp1 bq1 a2 W w0 x0 w1 x1 w2).mono fun e W' ⟨he, bel⟩ => ?_
  subst he
  exact ⟨_, rfl, _, _, _, [], _, [], hW', trodAll_mk1 (shut_bool Try.underlying4 _), (trodAll_cons_mk (Below.trod laidOut (by kernel_rfl) (of_decide_eq_true (by kernel_rfl)) k0 bel lt0) (trodAll_cons_mk (Below.trod laidOut (by kernel_rfl) (of_decide_eq_true (by kernel_rfl)) k1 bel lt1) (trodAll_cons_mk (Below.trod laidOut (by kernel_rfl) (of_decide_eq_true (by kernel_rfl)) k2 bel lt2) trodAll_mk0))), rfl, Below.frame bel _, fun h => by cases h⟩

theorem proved : Rows.SpanKeysSaid :=
  OpenClaim.holds_of_wide 6 Try.f6 rfl rfl rfl rfl rfl rfl rfl ⟨rfl, rfl, rfl, rfl, rfl⟩ rfl rfl rfl rfl rfl (by kernel_rfl) Try.func6 (by kernel_rfl)
    (of_decide_eq_true (by kernel_rfl)) (by unfold Func.isWrapper; first | (rw [if_pos (by decide +kernel)]; kernel_rfl) | (rw [if_neg (by decide +kernel)]; exact ⟨rfl, rfl⟩))
    (fun os started H enc _ => lifted os started H enc)
end Go.Proofs.Ytnggkncmcbcceaa.spanKeysDone
namespace Go.Proofs.Ytnggkncmcbcceaa
theorem spanKeys_holds : Rows.SpanKeysSaid := spanKeysDone.proved
#print axioms spanKeys_holds
end Go.Proofs.Ytnggkncmcbcceaa
