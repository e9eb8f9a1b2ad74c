/- The document's Bytes and Others, of layer 15; conditions: the rows lie in memory; of Bytes: they are short. -/
import Derived.Test.YtcicefpcledmgaaV29
namespace Go.Proofs.Ytcicefpcledmgaa
open Go.RowKit Go.Lib
set_option linter.unusedVariables false
set_option linter.unusedSimpArgs false
set_option maxRecDepth 20000
theorem own_nil (base : Nat) (W : World) : Pk.OwnL base W (.slice none 0 0) [] := ⟨⟨rfl, .inl ⟨rfl, rfl⟩⟩, fun i hi => by simp at hi⟩
set_option maxHeartbeats 4000000 in
set_option maxRecDepth 20000 in
theorem rBytes1 (B n m : Nat) (p1 p2 : Option Addr) (c1 c2 : Nat) (f g : Nat → Int) (w1 : World) (hn : n ≤ 1000) (hm : m ≤ 1000) (hf : ∀ i, i < n → -1000 ≤ f i ∧ f i ≤ 1000) (hg : ∀ i, i < m → -1000 ≤ g i ∧ g i ≤ 1000) (h1 : NRowL w1 (.slice p1 n c1) n f) (h2 : NRowL w1 (.slice p2 m c2) m g) :
    (∀ (W : World), Old w1 W → Calls Try.prog 48 #[.slice none 0 0, .slice p1 n c1] W fun e w' => ∃ v', e = .returned v' ∧ Pk.OwnL w1.heap.size w' v' ([] ++ inB f n n) ∧ Old w1 w') ∧ (∀ (v1 : Value) (W : World), Pk.OwnL w1.heap.size W v1 ([] ++ inB f n n) → Old w1 W → Calls Try.prog 48 #[v1, .slice p2 m c2] W fun e w' => ∃ v', e = .returned v' ∧ Pk.OwnL w1.heap.size w' v' (inB f n n ++ inB g m m) ∧ Old w1 w') := by
  have l1 := inB_len f n n hn hf (Nat.le_refl _)
  refine ⟨fun W u => rInts_any _ _ [] n f w1 W hn hf (by simp) u (own_nil _ _) h1, fun v1 W o u => rInts_any v1 _ (inB f n n) m g w1 W hm hg (by omega) u o h2⟩
set_option maxHeartbeats 4000000 in
set_option maxRecDepth 20000 in
theorem rBytes_any (v1 v2 : Value) (n m : Nat) (f g : Nat → Int) (w : World) (hn : n ≤ 1000) (hm : m ≤ 1000) (hf : ∀ i, i < n → -1000 ≤ f i ∧ f i ≤ 1000) (hg : ∀ i, i < m → -1000 ≤ g i ∧ g i ≤ 1000) (h1 : NRowL w v1 n f) (h2 : NRowL w v2 m g) :
    Calls Try.prog 24 #[.agg #[v1, v2]] w fun e w' => ∃ v', e = .returned v' ∧ Pk.OwnL w.heap.size w' v' (bytesC (lsI f n) (lsI g m)) ∧ Old w w' := by
  have H0 := hid (fun (w1 : World) (p1 p2 : Option Addr) (c1 c2 : Nat) (u : Old w w1) (e1 : v1 = .slice p1 n c1) (e2 : v2 = .slice p2 m c2) => rBytes1 0 n m p1 p2 c1 c2 f g w1 hn hm hf hg (e1 ▸ h1.old u) (e2 ▸ h2.old u))
  rw [bytesC_in]
  obtain ⟨_, p1, c1, rfl, _⟩ := h1
  obtain ⟨_, p2, c2, rfl, _⟩ := h2
  clear hf hg
  go_enter Try.func24, Try.ntmps24
  go_upto_region 1 with (fail)
  generalize hw1 : w.alloc (.cells #[.slice p1 n c1, .slice p2 m c2] 24) = w1
  have O1 := hid (show Old w w1 from by rw [← hw1]; exact (Old.refl _).alloc _)
  have HBx := hid (show BxS w.heap.size (.slice p1 n c1) (.slice p2 m c2) w1 from by rw [← hw1]; exact ⟨by simp, by simp⟩)
  have H1 := hid (H0.out w1 p1 p2 c1 c2 O1.out rfl rfl)
  have HI1 := hid H1.out.1
  have HI2 := hid (fun (v1 : Value) (W : World) (o : Pk.OwnL w1.heap.size W v1 ([] ++ inB f n n)) (u : Old w1 W) => H1.out.2 v1 W o u)
  clear hw1 H0 H1
  generalize hB : w.heap.size = B at *
  refine wp_region_noPanic ?_
  refine wp_region_held_drew (S := BxS B (.slice p1 n c1) (.slice p2 m c2)) (by kernel_rfl) ?_ (fun hHeld => ?_)
  · exact BxS.old ((Old.refl w1).drew) HBx.out
  (try simp only [Act.put]); (try simp only [List.setIfInBounds_toArray]); (try simp only [List.set_cons_succ]); (try simp only [List.set_cons_zero])
  clear hHeld
  refine wpAnyH_take (i := 0) (oi := { dst := some 3, op := Op.fieldAddr 24 (Operand.tmp 1) 0, type := 0, pos := "ref.go:94", after := #[], guard := none }) (v := ?vk1) rfl (by kernel_rfl) (by kernel_rfl) (by kernel_rfl) (fun _ _ _ h => h) (Or.inl ⟨by rfl, ?hk1⟩) (BxS.old ((Old.refl w1).drew) HBx.out) ?rk1
  case hk1 => (intro wz hSw; (try dsimp only at hSw); go_simp; try with_reducible rfl)
  (try simp only [Act.put]); (try simp only [List.setIfInBounds_toArray]); (try simp only [List.set_cons_succ]); (try simp only [List.set_cons_zero])
  refine wpAnyH_take (i := 1) (oi := { dst := some 4, op := Op.load 22 (Operand.tmp 3), type := 22, pos := "ref.go:94", after := #[{ on := 0, ground := Ground.data }], guard := none }) (v := ?vk2) rfl (by kernel_rfl) (by kernel_rfl) (by kernel_rfl) (fun _ _ _ h => h) (Or.inl ⟨by rfl, ?hk2⟩) (BxS.old ((Old.refl w1).drew) HBx.out) ?rk2
  case hk2 => (intro wz hSw; (try dsimp only at hSw); go_simp; try with_reducible rfl)
  (try simp only [Act.put]); (try simp only [List.setIfInBounds_toArray]); (try simp only [List.set_cons_succ]); (try simp only [List.set_cons_zero])
  refine wpAnyH_take (i := 3) (oi := { dst := some 6, op := Op.fieldAddr 24 (Operand.tmp 1) 1, type := 0, pos := "ref.go:94", after := #[], guard := none }) (v := ?vk3) rfl (by kernel_rfl) (by kernel_rfl) (by kernel_rfl) (fun _ _ _ h => h) (Or.inl ⟨by rfl, ?hk3⟩) (BxS.old ((Old.refl w1).drew) HBx.out) ?rk3
  case hk3 => (intro wz hSw; (try dsimp only at hSw); go_simp; try with_reducible rfl)
  (try simp only [Act.put]); (try simp only [List.setIfInBounds_toArray]); (try simp only [List.set_cons_succ]); (try simp only [List.set_cons_zero])
  refine wpAnyH_take (i := 4) (oi := { dst := some 7, op := Op.load 22 (Operand.tmp 6), type := 22, pos := "ref.go:94", after := #[{ on := 3, ground := Ground.data }], guard := none }) (v := ?vk4) rfl (by kernel_rfl) (by kernel_rfl) (by kernel_rfl) (fun _ _ _ h => h) (Or.inl ⟨by rfl, ?hk4⟩) (BxS.old ((Old.refl w1).drew) HBx.out) ?rk4
  case hk4 => (intro wz hSw; (try dsimp only at hSw); go_simp; try with_reducible rfl)
  (try simp only [Act.put]); (try simp only [List.setIfInBounds_toArray]); (try simp only [List.set_cons_succ]); (try simp only [List.set_cons_zero])
  refine wpAnyH_ready (rs := [2]) (by kernel_rfl) (by simp) ?_
  refine AllReadyH.cons (o := { dst := some 5, op := Op.call { callee := Callee.value (Operand.func 48), args := #[Operand.const (Value.slice none 0 0), Operand.tmp 4], argTypes := #[39, 22] }, type := 39, pos := "ref.go:94", after := #[{ on := 1, ground := Ground.data }], guard := none }) rfl (fun K hK => ?_) AllReadyH.nil
  refine wantCall2 ?_ 48 (.const (.slice none 0 0)) (.tmp 4) #[39, 22] ?_ (.slice none 0 0) (.slice p1 n c1) ?_ ?_ ?_ ((enters_of Try.func48 (by kernel_rfl) rfl) _ _) ?_
  · rfl
  · rfl
  · rfl
  · rfl
  · rfl
  refine (HI1.out _ ((Old.refl w1).drew)).mono ?_
  rintro o xa ⟨va, rfl, oa, ua⟩
  obtain ⟨pa, ca, ea⟩ := OwnL.slice' oa
  obtain ⟨la, hla⟩ : ∃ la, ([] ++ inB f n n).length = la := ⟨_, rfl⟩
  rw [hla] at ea
  subst ea
  have OA := hid oa
  clear oa hla
  refine ⟨_, rfl, ?_⟩
  refine hK.out _ _ (BxS.old ua HBx.out) (fun _ => ?_)
  clear hK K
  (try simp only [Act.put]); (try simp only [List.setIfInBounds_toArray]); (try simp only [List.set_cons_succ]); (try simp only [List.set_cons_zero])
  refine wpAnyH_ready (rs := [5]) (by kernel_rfl) (by simp) ?_
  refine AllReadyH.cons (o := { dst := some 8, op := Op.call { callee := Callee.value (Operand.func 48), args := #[Operand.tmp 5, Operand.tmp 7], argTypes := #[39, 22] }, type := 39, pos := "ref.go:94", after := #[{ on := 2, ground := Ground.data }, { on := 4, ground := Ground.data }, { on := 2, ground := Ground.chain }], guard := none }) rfl (fun K hK => ?_) AllReadyH.nil
  refine wantCall2 ?_ 48 (.tmp 5) (.tmp 7) #[39, 22] ?_ (.slice pa la ca) (.slice p2 m c2) ?_ ?_ ?_ ((enters_of Try.func48 (by kernel_rfl) rfl) _ _) ?_
  · rfl
  · rfl
  · rfl
  · rfl
  · rfl
  refine (HI2.out _ _ OA.out ua).mono ?_
  rintro o xb ⟨vb, rfl, ob, ub⟩
  obtain ⟨pb, cb, eb⟩ := OwnL.slice' ob
  obtain ⟨lb, hlb⟩ : ∃ lb, (inB f n n ++ inB g m m).length = lb := ⟨_, rfl⟩
  rw [hlb] at eb
  subst eb
  have OB := hid ob
  clear ob hlb
  refine ⟨_, rfl, ?_⟩
  refine hK.out _ _ (BxS.old ub HBx.out) (fun _ => ?_)
  clear hK K
  (try simp only [Act.put]); (try simp only [List.setIfInBounds_toArray]); (try simp only [List.set_cons_succ]); (try simp only [List.set_cons_zero])
  refine wpAnyH_ready (rs := [6]) (by kernel_rfl) (by simp) ?_
  refine AllReadyH.cons (o := { dst := some 2, op := Op.assign (Operand.tmp 8), type := 39, pos := "ref.go:94", after := #[{ on := 5, ground := Ground.data }, { on := 5, ground := Ground.chain }, { on := 0, ground := Ground.phase }, { on := 1, ground := Ground.phase }, { on := 2, ground := Ground.phase }, { on := 3, ground := Ground.phase }, { on := 4, ground := Ground.phase }, { on := 5, ground := Ground.phase }], guard := none }) rfl (fun K hK => ?_) AllReadyH.nil
  go_simp
  refine hK.out _ _ (BxS.old ub HBx.out) (fun _ => ?_)
  clear hK K
  (try simp only [Act.put]); (try simp only [List.setIfInBounds_toArray]); (try simp only [List.set_cons_succ]); (try simp only [List.set_cons_zero])
  refine wpAnyH_done (by kernel_rfl) ?_ _
  refine NoPanic.normal ?_
  have UZ := hid ub
  go_wp2
  go_ret
  exact ⟨_, rfl, OB.out.mono' (by have := O1.out.size; omega), O1.out.trans UZ.out⟩
end Go.Proofs.Ytcicefpcledmgaa
