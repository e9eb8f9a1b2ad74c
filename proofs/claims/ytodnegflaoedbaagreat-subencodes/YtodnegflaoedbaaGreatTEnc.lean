/- The document's bytes of a submission; conditions: the lengths fit. -/
import Derived.Test.YtodnegflaoedbaaGreatPkD
import Derived.Test.YtodnegflaoedbaaGreatTB
namespace Go.Proofs.YtodnegflaoedbaaGreat
open Go.RowKit Go.Lib
set_option linter.unusedVariables false
set_option linter.unusedSimpArgs false
set_option maxRecDepth 20000
theorem OwnL.old' {base : Nat} {w w' : World} {v : Value} {L : List Nat} (h : Pk.OwnL base w v L) (u : Old w w') : Pk.OwnL base w' v L := by
  refine ⟨⟨h.own.1, ?_⟩, h.lt⟩
  rcases h.own.2 with e | ⟨g, cap, cur, e, hb', hg, r⟩
  · exact .inl e
  · exact .inr ⟨g, cap, cur, e, hb', by rw [u.block g (heapLt hg)]; exact hg, r⟩
theorem OwnL.lt' {base : Nat} {w : World} {v : Value} {L : List Nat} (h : Pk.OwnL base w v L) (k : Nat) (e : v.ownBlock = some k) : base ≤ k ∧ k < w.heap.size := World.ownsRow.lt h.own k e
theorem OwnL.slice' {base : Nat} {w : World} {v : Value} {L : List Nat} (h : Pk.OwnL base w v L) : ∃ a c, v = .slice a L.length c := by
  rcases h.own.2 with ⟨e, hn⟩ | ⟨g, cap, cur, e, _⟩
  · exact ⟨none, 0, by rw [e, hn]⟩
  · exact ⟨_, _, e⟩
/-- The document's Join of bytes of the call's own and of newer ones. -/
theorem joinL {base b2 : Nat} {w : World} {v u : Value} {A B : List Nat} (ho : Pk.OwnL base w v A) (hn : Pk.OwnL b2 w u B) (hb : base ≤ w.heap.size) (hv : ∀ k, v.ownBlock = some k → k < b2) (hl : A.length + B.length ≤ 1000000) :
    Calls Tryz.prog 40 #[v, u] w fun e w' => ∃ v', e = .returned v' ∧ Pk.OwnL base w' v' (A ++ B) ∧ w.grownBy w' v.ownBlock := by
  refine (Pk.join_any base v u A.length B.length (Pk.gd A) (Pk.gd B) (by omega) w ho hb hn.row ?_).mono ?_
  · by_cases h0 : B.length = 0
    · exact .inl h0
    · right
      intro e
      cases hk : u.ownBlock with
      | none =>
        rcases hn.own.2 with ⟨_, q⟩ | ⟨g, cap, cur, q, _⟩
        · exact h0 q
        · rw [q] at hk; simp [Value.ownBlock] at hk
      | some k =>
        rw [hk] at e
        have h1 := hv k e.symm
        have h2 := (OwnL.lt' hn k hk).1
        omega
  · rintro e w' ⟨v', rfl, o, g⟩
    exact ⟨v', rfl, Pk.OwnL.app o, g.by_⟩
theorem join_step {sb : Nat} {w0 w w' : World} {s1 s2 s3 : Int} {v1 v2 v3 v : Value} {A : List Nat} (hs : SubAt sb s1 s2 s3 v1 v2 v3 w) (ho : Pk.OwnL (sb + 1) w v A) (hu : Old w0 w) (hb : w0.heap.size = sb) (g : w.grownBy w' v.ownBlock) : SubAt sb s1 s2 s3 v1 v2 v3 w' ∧ Old w0 w' := by
  refine ⟨hs.grown g (fun e => ?_), Below.grown hu g hu.size (fun k e => ?_)⟩
  · have := (OwnL.lt' ho sb e.symm).1
    omega
  · have := (OwnL.lt' ho k e).1
    omega
theorem refNum_old (z : Int) (h1 : -9223372036854775808 ≤ z) (h2 : z ≤ 9223372036854775807) (w : World) : Calls Tryz.prog 41 #[.int .i64 z] w fun e w' => ∃ v', e = .returned v' ∧ Pk.OwnL w.heap.size w' v' (Pk.numL z) ∧ Old w w' := Pk.refNum_any z h1 h2 w
theorem refKey_old (x : Nat) (hx : Fl.W x) (w : World) : Calls Tryz.prog 43 #[.float .f64 x] w fun e w' => ∃ v', e = .returned v' ∧ Pk.OwnL w.heap.size w' v' (keyB x) ∧ Old w w' := Pk.refKey_any x hx w
def kB (x : Nat → Nat) (n k : Nat) : List Nat := Pk.numL n ++ (rl x k).flatMap keyB
theorem kB_step (x : Nat → Nat) (n k : Nat) : kB x n (k + 1) = kB x n k ++ keyB (x k) := by simp [kB, rl_succ]
theorem flat8 (x : Nat → Nat) : ∀ k, ((rl x k).flatMap keyB).length = 8 * k
  | 0 => rfl
  | k + 1 => by
    rw [rl_succ, List.flatMap_append, List.length_append, flat8 x k]
    have : ([x k].flatMap keyB).length = 8 := by simp [keyB_len]
    omega
theorem kB_len (x : Nat → Nat) (n k : Nat) (hn : n ≤ 1000) (hk : k ≤ n) : (kB x n k).length ≤ 8 * k + 10 := by
  unfold kB
  rw [List.length_append, flat8]
  have := (Pk.num_len (n : Int) (by omega) (by omega)).2
  omega
attribute [local go_sem] run_bits run_frombits run_store_float eqF
set_option maxHeartbeats 1000000 in
set_option maxRecDepth 20000 in
theorem rkeys_any (v : Value) (n : Nat) (x : Nat → Nat) (hn : n ≤ 1000) (w : World) (hv : FRow w v n x) :
    Calls Tryz.prog 42 #[v] w fun e w' => ∃ v', e = .returned v' ∧ Pk.OwnL w.heap.size w' v' (kB x n n) ∧ Old w w' := by
  obtain ⟨hb, a, c, rfl, hc⟩ := hv
  have HC := hid hc
  clear hc
  have HN := hid (fun W => refNum_old (n : Int) (by omega) (by omega) W)
  go_enter Tryz.func42, Tryz.ntmps42
  go_upto_region 2 with (first | (go_at_call 41; refine (HN.out _).mono ?_; rintro e w1 ⟨v1, rfl, o1, u1⟩; have U1 := hid u1; have O1 := hid (show Pk.OwnL w.heap.size w1 v1 (kB x n 0) from by simpa [kB, rl] using o1); clear u1 o1))
  clear HN
  go_wp2
  go_loopw [3, 4] (fun o i wr => ∃ k : Nat, k ≤ n ∧ i = .int .i64 (k : Nat) ∧ Pk.OwnL w.heap.size wr o (kB x n k) ∧ Old w wr) (fun _ i _ => n - (intOf i).toNat)
  case atStart => exact ⟨0, Nat.zero_le _, rfl, O1.out, U1.out⟩
  case round =>
    obtain ⟨k, hk, rfl, ho, hu⟩ := hrel
    have HU := hid hu
    have HO := hid ho
    clear hu ho O1 U1
    by_cases hlt : k < n
    · obtain ⟨b, off, ha, hW, c0⟩ := HC.out k hlt
      subst ha
      have x0 := HU.out.keep c0
      have l1 : (0 : Int) ≤ (k : Int) := by omega
      have l2 : (k : Int) < (n : Int) := by omega
      clear c0
      have HK := hid (fun W => refKey_old (x k) hW W)
      have HS := hid (kB_step x n k)
      have HL := hid (kB_len x n k hn hk)
      have HL2 := hid (keyB_len (x k))
      generalize x k = xk at *
      generalize hKl : kB x n k = KL at *
      clear hKl
      go_wp2_with (first | (go_at_call 43; refine (HK.out _).mono ?_; rintro e w3 ⟨v3, rfl, o3, u3⟩; have O3 := hid o3; have U3 := hid u3; clear o3 u3) | (go_at_call 40; refine (joinL (OwnL.old' HO.out U3.out) O3.out (by have := HU.out.size; have := U3.out.size; omega) (fun j e => (OwnL.lt' HO.out j e).2) (by have := HL.out; have := HL2.out; omega)).mono ?_; rintro e w4 ⟨v4, rfl, o4, g4⟩; have O4 := hid o4; have U4 := hid (show Old w w4 from Below.grown (HU.out.trans U3.out) g4 (by have := HU.out.size; have := U3.out.size; omega) (fun j e => (OwnL.lt' HO.out j e).1)); clear o4 g4))
      go_roundw
      case rel => exact ⟨k + 1, hlt, by go_num, by rw [HS.out]; exact O4.out, U4.out⟩
      case measure => simp [intOf]; omega
    · obtain rfl : k = n := by omega
      go_wp2
      go_ret
      exact ⟨_, rfl, HO.out, HU.out⟩
theorem ent_rnum (args : Array Value) (w : World) : (callFunc 41 args).run Tryz.prog w = .ok (.enter 41 args) w := by kernel_rfl
theorem ent_rjoin (args : Array Value) (w : World) : (callFunc 40 args).run Tryz.prog w = .ok (.enter 40 args) w := by kernel_rfl
def sBs (f : Nat → Sp) (k : Nat) : List Nat := (rl f k).flatMap sB
theorem sBs_step (f : Nat → Sp) (k : Nat) : sBs f (k + 1) = sBs f k ++ keyB (f k).a ++ keyB (f k).b := by simp [sBs, rl_succ, sB]
theorem sBs_len (f : Nat → Sp) : ∀ k, (sBs f k).length = 16 * k
  | 0 => rfl
  | k + 1 => by
    rw [sBs_step, List.length_append, List.length_append, sBs_len f k, keyB_len, keyB_len]
    omega
/-- All that stands ahead of the spans. -/
def preB (s1 s2 s3 : Int) (n1 n2 : Nat) (x1 : Nat → Nat) : List Nat := Pk.numL s1 ++ Pk.numL s2 ++ Pk.numL s3 ++ kB x1 n1 n1 ++ Pk.numL n2
theorem encS_pre (s1 s2 s3 : Int) (n1 n2 n3 : Nat) (x1 x3 : Nat → Nat) (f2 : Nat → Sp) : encS s1 s2 s3 n1 n2 n3 x1 x3 f2 = (preB s1 s2 s3 n1 n2 x1 ++ sBs f2 n2) ++ kB x3 n3 n3 := by
  rw [encS_bytes]
  unfold bytesS kRest sRest preB kB sBs
  simp [List.append_assoc]
set_option maxHeartbeats 8000000 in
set_option maxRecDepth 20000 in
theorem refBytes_any (s1 s2 s3 : Int) (a1 a2 a3 : Option Addr) (n1 n2 n3 c1 c2 c3 : Nat) (x1 x3 : Nat → Nat) (f2 : Nat → Sp) (w : World) (h1 : FRow w (.slice a1 n1 c1) n1 x1) (h2 : SRow w (.slice a2 n2 c2) n2 f2) (h3 : FRow w (.slice a3 n3 c3) n3 x3) (hs : (1 ≤ s1 ∧ s1 ≤ 1099511627776) ∧ (1 ≤ s2 ∧ s2 ≤ 1099511627776) ∧ 0 ≤ s3 ∧ s3 ≤ 1099511627776) (hn : n1 ≤ 16 ∧ n2 ≤ 8 ∧ n3 ≤ 16) :
    Calls Tryz.prog 14 #[.agg #[.int .i64 s1, .int .i64 s2, .int .i64 s3, .slice a1 n1 c1, .slice a2 n2 c2, .slice a3 n3 c3]] w fun e w' => ∃ v', e = .returned v' ∧ Pk.OwnL w.heap.size w' v' (encS s1 s2 s3 n1 n2 n3 x1 x3 f2) ∧ Old w w' := by
  have HN1 := hid (fun (W : World) (t : True) => refNum_old s1 (by omega) (by omega) W)
  have HN2 := hid (fun (W : World) (t : True) => refNum_old s2 (by omega) (by omega) W)
  have HN3 := hid (fun (W : World) (t : True) => refNum_old s3 (by omega) (by omega) W)
  have HN4 := hid (fun (W : World) => refNum_old (n2 : Int) (by omega) (by omega) W)
  have HK1 := hid (fun (W : World) (u : Old w W) => rkeys_any _ n1 x1 (by omega) W (h1.old u))
  have HK3 := hid (fun (W : World) (u : Old w W) => rkeys_any _ n3 x3 (by omega) W (h3.old u))
  have HL1 := hid (Pk.num_len s1 (by omega) (by omega)).2
  have HL2 := hid (Pk.num_len s2 (by omega) (by omega)).2
  have HL3 := hid (Pk.num_len s3 (by omega) (by omega)).2
  have HL4 := hid (Pk.num_len (n2 : Int) (by omega) (by omega)).2
  have HL5 := hid (show (kB x1 n1 n1).length ≤ 1000 by have := kB_len x1 n1 n1 (by omega) (Nat.le_refl _); omega)
  have HL6 := hid (show (kB x3 n3 n3).length ≤ 1000 by have := kB_len x3 n3 n3 (by omega) (Nat.le_refl _); omega)
  have HL7 := hid (show ∀ k, k ≤ n2 → (sBs f2 k).length ≤ 1000 from fun k hk => by rw [sBs_len]; omega)
  have HE := hid (encS_pre s1 s2 s3 n1 n2 n3 x1 x3 f2)
  have HP := hid (show preB s1 s2 s3 n1 n2 x1 = Pk.numL s1 ++ Pk.numL s2 ++ Pk.numL s3 ++ kB x1 n1 n1 ++ Pk.numL n2 from rfl)
  have HSt := hid (sBs_step f2)
  have HS0 := hid (show sBs f2 0 = [] from rfl)
  have R2 := hid h2
  clear h1 h2 h3 hs hn
  generalize encS s1 s2 s3 n1 n2 n3 x1 x3 f2 = ES at *
  generalize preB s1 s2 s3 n1 n2 x1 = PB at *
  generalize Pk.numL s1 = B1 at *
  generalize Pk.numL s2 = B2 at *
  generalize Pk.numL s3 = B3 at *
  generalize Pk.numL (n2 : Int) = B4 at *
  generalize kB x1 n1 n1 = B5 at *
  generalize kB x3 n3 n3 = B6 at *
  go_enter Tryz.func14, Tryz.ntmps14
  go_upto_region 1 with fail
  generalize hw1 : w.alloc (.cells #[.int .i64 s1, .int .i64 s2, .int .i64 s3, .slice a1 n1 c1, .slice a2 n2 c2, .slice a3 n3 c3] 25) = w1 at *
  generalize hsb : w.heap.size = sb at *
  obtain ⟨hS, hV⟩ := sub_new w s1 s2 s3 _ _ _ w1 hw1 sb hsb
  have HV := hid hV
  have BS := hid hS
  have HSB := hid hsb
  have HS1 := hid (show sb + 1 = w1.heap.size by rw [← hw1, ← hsb]; simp)
  clear hw1 hV hsb hS
  refine wp_region_noPanic ?_
  refine wp_region_held_drew (S := SubAt sb s1 s2 s3 (.slice a1 n1 c1) (.slice a2 n2 c2) (.slice a3 n3 c3)) (by kernel_rfl) ?_ (fun hHeld => ?_)
  · exact SubAt.old ((Old.refl w1).drew) BS.out
  (try simp only [Act.put]); (try simp only [List.setIfInBounds_toArray]); (try simp only [List.set_cons_succ]); (try simp only [List.set_cons_zero])
  clear hHeld
  refine wpAnyH_take (i := 0) (oi := { dst := some 5, op := Op.fieldAddr 25 (Operand.tmp 1) 0, type := 0, pos := "ref.go:85", after := #[], guard := none }) (v := ?vk1) rfl (by kernel_rfl) (by kernel_rfl) (by kernel_rfl) (fun _ _ _ h => h) (Or.inl ⟨by rfl, ?hk1⟩) ((SubAt.old ((Old.refl w1).drew) BS.out)) ?rk1
  case hk1 => (intro wz hSw; (try dsimp only at hSw); go_simp; try with_reducible rfl)
  (try simp only [Act.put]); (try simp only [List.setIfInBounds_toArray]); (try simp only [List.set_cons_succ]); (try simp only [List.set_cons_zero])
  refine wpAnyH_take (i := 1) (oi := { dst := some 6, op := Op.load 2 (Operand.tmp 5), type := 2, pos := "ref.go:85", after := #[{ on := 0, ground := Ground.data }], guard := none }) (v := ?vk2) rfl (by kernel_rfl) (by kernel_rfl) (by kernel_rfl) (fun _ _ _ h => h) (Or.inl ⟨by rfl, ?hk2⟩) ((SubAt.old ((Old.refl w1).drew) BS.out)) ?rk2
  case hk2 => (intro wz hSw; (try dsimp only at hSw); go_simp; try with_reducible rfl)
  (try simp only [Act.put]); (try simp only [List.setIfInBounds_toArray]); (try simp only [List.set_cons_succ]); (try simp only [List.set_cons_zero])
  refine wpAnyH_take (i := 3) (oi := { dst := some 8, op := Op.fieldAddr 25 (Operand.tmp 1) 1, type := 0, pos := "ref.go:85", after := #[], guard := none }) (v := ?vk3) rfl (by kernel_rfl) (by kernel_rfl) (by kernel_rfl) (fun _ _ _ h => h) (Or.inl ⟨by rfl, ?hk3⟩) ((SubAt.old ((Old.refl w1).drew) BS.out)) ?rk3
  case hk3 => (intro wz hSw; (try dsimp only at hSw); go_simp; try with_reducible rfl)
  (try simp only [Act.put]); (try simp only [List.setIfInBounds_toArray]); (try simp only [List.set_cons_succ]); (try simp only [List.set_cons_zero])
  refine wpAnyH_take (i := 4) (oi := { dst := some 9, op := Op.load 2 (Operand.tmp 8), type := 2, pos := "ref.go:85", after := #[{ on := 3, ground := Ground.data }], guard := none }) (v := ?vk4) rfl (by kernel_rfl) (by kernel_rfl) (by kernel_rfl) (fun _ _ _ h => h) (Or.inl ⟨by rfl, ?hk4⟩) ((SubAt.old ((Old.refl w1).drew) BS.out)) ?rk4
  case hk4 => (intro wz hSw; (try dsimp only at hSw); go_simp; try with_reducible rfl)
  (try simp only [Act.put]); (try simp only [List.setIfInBounds_toArray]); (try simp only [List.set_cons_succ]); (try simp only [List.set_cons_zero])
  refine wpAnyH_take (i := 7) (oi := { dst := some 12, op := Op.fieldAddr 25 (Operand.tmp 1) 2, type := 0, pos := "ref.go:85", after := #[], guard := none }) (v := ?vk5) rfl (by kernel_rfl) (by kernel_rfl) (by kernel_rfl) (fun _ _ _ h => h) (Or.inl ⟨by rfl, ?hk5⟩) ((SubAt.old ((Old.refl w1).drew) BS.out)) ?rk5
  case hk5 => (intro wz hSw; (try dsimp only at hSw); go_simp; try with_reducible rfl)
  (try simp only [Act.put]); (try simp only [List.setIfInBounds_toArray]); (try simp only [List.set_cons_succ]); (try simp only [List.set_cons_zero])
  refine wpAnyH_take (i := 8) (oi := { dst := some 13, op := Op.load 2 (Operand.tmp 12), type := 2, pos := "ref.go:85", after := #[{ on := 7, ground := Ground.data }], guard := none }) (v := ?vk6) rfl (by kernel_rfl) (by kernel_rfl) (by kernel_rfl) (fun _ _ _ h => h) (Or.inl ⟨by rfl, ?hk6⟩) ((SubAt.old ((Old.refl w1).drew) BS.out)) ?rk6
  case hk6 => (intro wz hSw; (try dsimp only at hSw); go_simp; try with_reducible rfl)
  (try simp only [Act.put]); (try simp only [List.setIfInBounds_toArray]); (try simp only [List.set_cons_succ]); (try simp only [List.set_cons_zero])
  refine wpAnyH_ready (rs := [2]) (by kernel_rfl) (by simp) ?_
  refine AllReadyH.cons (o := { dst := some 7, op := Op.call { callee := Callee.value (Operand.func 41), args := #[Operand.tmp 6], argTypes := #[2] }, type := 27, pos := "ref.go:85", after := #[{ on := 1, ground := Ground.data }], guard := none }) rfl (fun K hK => ?_) AllReadyH.nil
  refine wantCall1 ?_ 41 (.tmp 6) #[2] ?_ (.int .i64 s1) ?_ ?_ (ent_rnum _ _) ?_
  · rfl
  · rfl
  · rfl
  · rfl
  refine (HN1.out _ trivial).mono ?_
  rintro o x7 ⟨va, rfl, oa, ua⟩
  have S7 := SubAt.old ua (SubAt.old ((Old.refl w1).drew) BS.out)
  have Oa := hid (Pk.OwnL.mono' oa (show sb + 1 ≤ w1.heap.size from Nat.le_of_eq HS1.out))
  have V7 : Old w x7 := (HV.out.drew).trans ua
  have Z7 := hid (show sb + 1 ≤ x7.heap.size by have := ua.size; have := HS1.out; have e1 : w1.drew.heap.size = w1.heap.size := rfl; omega)
  clear oa ua
  refine ⟨_, rfl, ?_⟩
  refine hK.out _ _ (S7) (fun _ => ?_)
  clear hK K
  (try simp only [Act.put]); (try simp only [List.setIfInBounds_toArray]); (try simp only [List.set_cons_succ]); (try simp only [List.set_cons_zero])
  refine wpAnyH_ready (rs := [5]) (by kernel_rfl) (by simp) ?_
  refine AllReadyH.cons (o := { dst := some 10, op := Op.call { callee := Callee.value (Operand.func 41), args := #[Operand.tmp 9], argTypes := #[2] }, type := 27, pos := "ref.go:85", after := #[{ on := 4, ground := Ground.data }, { on := 2, ground := Ground.chain }], guard := none }) rfl (fun K hK => ?_) AllReadyH.nil
  refine wantCall1 ?_ 41 (.tmp 9) #[2] ?_ (.int .i64 s2) ?_ ?_ (ent_rnum _ _) ?_
  · rfl
  · rfl
  · rfl
  · rfl
  refine (HN2.out _ trivial).mono ?_
  rintro o x8 ⟨vb, rfl, ob, ub⟩
  have S8 := SubAt.old ub S7
  have V8 := V7.trans ub
  have HJ1 := hid (show ∀ (W : World), W = x8 → Calls Tryz.prog 40 #[va, vb] W fun e w' => ∃ v', e = .returned v' ∧ Pk.OwnL (sb + 1) w' v' (B1 ++ B2) ∧ W.grownBy w' va.ownBlock from fun W e => by subst e; exact joinL (OwnL.old' Oa.out ub) ob (by have := ub.size; have := Z7.out; omega) (fun j q => (OwnL.lt' Oa.out j q).2) (by have := HL1.out; have := HL2.out; omega))
  have Oa2 := hid (OwnL.old' Oa.out ub)
  have Z8 := hid (show sb + 1 ≤ x8.heap.size by have := ub.size; have := Z7.out; omega)
  clear ob ub
  refine ⟨_, rfl, ?_⟩
  refine hK.out _ _ (S8) (fun _ => ?_)
  clear hK K
  (try simp only [Act.put]); (try simp only [List.setIfInBounds_toArray]); (try simp only [List.set_cons_succ]); (try simp only [List.set_cons_zero])
  refine wpAnyH_ready (rs := [6]) (by kernel_rfl) (by simp) ?_
  refine AllReadyH.cons (o := { dst := some 11, op := Op.call { callee := Callee.value (Operand.func 40), args := #[Operand.tmp 7, Operand.tmp 10], argTypes := #[27, 27] }, type := 27, pos := "ref.go:85", after := #[{ on := 2, ground := Ground.data }, { on := 5, ground := Ground.data }, { on := 5, ground := Ground.chain }], guard := none }) rfl (fun K hK => ?_) AllReadyH.nil
  refine wantCall2 ?_ 40 (.tmp 7) (.tmp 10) #[27, 27] ?_ (va) (vb) ?_ ?_ ?_ (ent_rjoin _ _) ?_
  · rfl
  · rfl
  · rfl
  · rfl
  · rfl
  refine (HJ1.out _ rfl).mono ?_
  rintro o x9 ⟨vc, rfl, oc, gc⟩
  have Q9 := join_step S8 Oa2.out V8 HSB.out gc
  have S9 := Q9.1
  have V9 := Q9.2
  have Oc := hid oc
  have Z9 := hid (show sb + 1 ≤ x9.heap.size by have := gc.size; have := Z8.out; omega)
  clear oc gc
  refine ⟨_, rfl, ?_⟩
  refine hK.out _ _ (S9) (fun _ => ?_)
  clear hK K
  (try simp only [Act.put]); (try simp only [List.setIfInBounds_toArray]); (try simp only [List.set_cons_succ]); (try simp only [List.set_cons_zero])
  refine wpAnyH_ready (rs := [9]) (by kernel_rfl) (by simp) ?_
  refine AllReadyH.cons (o := { dst := some 14, op := Op.call { callee := Callee.value (Operand.func 41), args := #[Operand.tmp 13], argTypes := #[2] }, type := 27, pos := "ref.go:85", after := #[{ on := 8, ground := Ground.data }, { on := 6, ground := Ground.chain }], guard := none }) rfl (fun K hK => ?_) AllReadyH.nil
  refine wantCall1 ?_ 41 (.tmp 13) #[2] ?_ (.int .i64 s3) ?_ ?_ (ent_rnum _ _) ?_
  · rfl
  · rfl
  · rfl
  · rfl
  refine (HN3.out _ trivial).mono ?_
  rintro o x10 ⟨vd, rfl, od, ud⟩
  have S10 := SubAt.old ud S9
  have V10 := V9.trans ud
  have HJ2 := hid (show ∀ (W : World), W = x10 → Calls Tryz.prog 40 #[vc, vd] W fun e w' => ∃ v', e = .returned v' ∧ Pk.OwnL (sb + 1) w' v' (B1 ++ B2 ++ B3) ∧ W.grownBy w' vc.ownBlock from fun W e => by subst e; exact joinL (OwnL.old' Oc.out ud) od (by have := ud.size; have := Z9.out; omega) (fun j q => (OwnL.lt' Oc.out j q).2) (by rw [List.length_append]; have := HL1.out; have := HL2.out; have := HL3.out; omega))
  have Oc2 := hid (OwnL.old' Oc.out ud)
  have Z10 := hid (show sb + 1 ≤ x10.heap.size by have := ud.size; have := Z9.out; omega)
  clear od ud
  refine ⟨_, rfl, ?_⟩
  refine hK.out _ _ (S10) (fun _ => ?_)
  clear hK K
  (try simp only [Act.put]); (try simp only [List.setIfInBounds_toArray]); (try simp only [List.set_cons_succ]); (try simp only [List.set_cons_zero])
  refine wpAnyH_ready (rs := [10]) (by kernel_rfl) (by simp) ?_
  refine AllReadyH.cons (o := { dst := some 15, op := Op.call { callee := Callee.value (Operand.func 40), args := #[Operand.tmp 11, Operand.tmp 14], argTypes := #[27, 27] }, type := 27, pos := "ref.go:85", after := #[{ on := 6, ground := Ground.data }, { on := 9, ground := Ground.data }, { on := 9, ground := Ground.chain }], guard := none }) rfl (fun K hK => ?_) AllReadyH.nil
  refine wantCall2 ?_ 40 (.tmp 11) (.tmp 14) #[27, 27] ?_ (vc) (vd) ?_ ?_ ?_ (ent_rjoin _ _) ?_
  · rfl
  · rfl
  · rfl
  · rfl
  · rfl
  refine (HJ2.out _ rfl).mono ?_
  rintro o x11 ⟨ve, rfl, oe, ge⟩
  have Q11 := join_step S10 Oc2.out V10 HSB.out ge
  have S11 := Q11.1
  have V11 := Q11.2
  have Oe := hid oe
  have Z11 := hid (show sb + 1 ≤ x11.heap.size by have := ge.size; have := Z10.out; omega)
  clear oe ge
  refine ⟨_, rfl, ?_⟩
  refine hK.out _ _ (S11) (fun _ => ?_)
  clear hK K
  (try simp only [Act.put]); (try simp only [List.setIfInBounds_toArray]); (try simp only [List.set_cons_succ]); (try simp only [List.set_cons_zero])
  refine wpAnyH_ready (rs := [11]) (by kernel_rfl) (by simp) ?_
  refine AllReadyH.cons (o := { dst := some 3, op := Op.assign (Operand.tmp 15), type := 27, pos := "ref.go:85", after := #[{ on := 10, ground := Ground.data }, { on := 10, ground := Ground.chain }, { on := 0, ground := Ground.phase }, { on := 1, ground := Ground.phase }, { on := 2, ground := Ground.phase }, { on := 3, ground := Ground.phase }, { on := 4, ground := Ground.phase }, { on := 5, ground := Ground.phase }, { on := 6, ground := Ground.phase }, { on := 7, ground := Ground.phase }, { on := 8, ground := Ground.phase }, { on := 9, ground := Ground.phase }, { on := 10, ground := Ground.phase }], guard := none }) rfl (fun K hK => ?_) AllReadyH.nil
  go_simp
  refine hK.out _ _ (S11) (fun _ => ?_)
  clear hK K
  (try simp only [Act.put]); (try simp only [List.setIfInBounds_toArray]); (try simp only [List.set_cons_succ]); (try simp only [List.set_cons_zero])
  refine wpAnyH_done (by kernel_rfl) ?_ _
  refine NoPanic.normal ?_
  have T1 := hid S11
  have U1 := hid V11
  have ZA := hid Z11.out
  clear S11 V11
  generalize hX1 : B1 ++ B2 ++ B3 = X1 at *
  have LX1 := hid (show X1.length ≤ 30 by rw [← hX1, List.length_append, List.length_append]; have := HL1.out; have := HL2.out; have := HL3.out; omega)
  clear hX1
  generalize x11 = y0 at *
  obtain ⟨t0, t1, t2, t3, t4, t5⟩ := T1.out
  go_upto_region 3 with (first | (go_at_call 42; refine (HK1.out _ U1.out).mono ?_; rintro e y1 ⟨v1, rfl, o1, u1⟩; have O1 := hid o1; have Oe1 := hid (OwnL.old' Oe.out u1); have S1 := hid (SubAt.old u1 T1.out); have V1 := hid (U1.out.trans u1); have Z1 := hid (Nat.le_trans ZA.out u1.size); clear o1 u1) | (go_at_call 40; refine (joinL Oe1.out O1.out Z1.out (fun j q => (OwnL.lt' Oe.out j q).2) (by have := LX1.out; have := HL5.out; omega)).mono ?_; rintro e y2 ⟨v2, rfl, o2, g2⟩; have O2 := hid o2; have Q2 := hid (join_step S1.out Oe1.out V1.out HSB.out g2); have Z2 := hid (Nat.le_trans Z1.out g2.size); clear o2 g2))
  clear t0 t1 t2 t3 t4 t5 O1 Oe1 S1 V1 Z1 T1 U1 ZA HK1 Oe
  obtain ⟨⟨t0, t1, t2, t3, t4, t5⟩, V2⟩ := Q2.out
  have U2 := hid V2
  clear V2
  generalize hX2 : X1 ++ B5 = X2 at *
  have LX2 := hid (show X2.length ≤ 1030 by rw [← hX2, List.length_append]; have := LX1.out; have := HL5.out; omega)
  have HX2 := hid hX2
  clear hX2
  go_upto_region 4 with (first | (go_at_call 41; refine (HN4.out _).mono ?_; rintro e y3 ⟨v3, rfl, o3, u3⟩; have O3 := hid o3; have O2b := hid (OwnL.old' O2.out u3); have S3 := hid (SubAt.old u3 Q2.out.1); have V3 := hid (U2.out.trans u3); have Z3 := hid (Nat.le_trans Z2.out u3.size); clear o3 u3) | (go_at_call 40; refine (joinL O2b.out O3.out Z3.out (fun j q => (OwnL.lt' O2.out j q).2) (by have := LX2.out; have := HL4.out; omega)).mono ?_; rintro e y4 ⟨v4, rfl, o4, g4⟩; have O4 := hid o4; have Q4 := hid (join_step S3.out O2b.out V3.out HSB.out g4); have Z4 := hid (Nat.le_trans Z3.out g4.size); clear o4 g4))
  clear t0 t1 t2 t3 t4 t5 O2 O3 O2b S3 V3 Z3 Q2 Z2 U2 HN4
  have PE := hid (show PB = X2 ++ B4 from by rw [HP.out, ← HX2.out])
  rw [← PE.out] at O4
  have LPB := hid (show PB.length ≤ 1040 by rw [PE.out, List.length_append]; have := LX2.out; have := HL4.out; omega)
  have O4s := hid (show Pk.OwnL (sb + 1) y4 v4 (PB ++ sBs f2 0) from by rw [HS0.out, List.append_nil]; exact O4.out)
  clear HX2 LX2 LX1 HP PE O4 HS0 HL1 HL2 HL3 HL4 HL5
  go_wp2
  go_loopw [3, 4] (fun o i wr => ∃ k : Nat, k ≤ n2 ∧ i = .int .i64 (k : Nat) ∧ Pk.OwnL (sb + 1) wr o (PB ++ sBs f2 k) ∧ SubAt sb s1 s2 s3 (.slice a1 n1 c1) (.slice a2 n2 c2) (.slice a3 n3 c3) wr ∧ Old w wr ∧ sb + 1 ≤ wr.heap.size) (fun _ i _ => n2 - (intOf i).toNat)
  case atStart => exact ⟨0, Nat.zero_le _, rfl, O4s.out, Q4.out.1, Q4.out.2, Z4.out⟩
  case round =>
    obtain ⟨k, hk, rfl, ho, hs, hu, hz⟩ := hrel
    have HO := hid ho
    have HSs := hid hs
    have HU := hid hu
    have HZ := hid hz
    clear ho hs hu hz O4s Q4 Z4
    obtain ⟨t0, t1, t2, t3, t4, t5⟩ := HSs.out
    have LK := hid (show (PB ++ sBs f2 k).length ≤ 2040 by rw [List.length_append]; have := LPB.out; have := HL7.out k hk; omega)
    by_cases hlt : k < n2
    · obtain ⟨_, qa, qc, hv, hcx⟩ := R2.out.old HU.out
      simp only [Value.slice.injEq] at hv
      obtain ⟨rfl, _, rfl⟩ := hv
      obtain ⟨b, off, ha, hWa, hWb, z0, z1, z2, z3⟩ := hcx k hlt
      subst ha
      have l1 : (0 : Int) ≤ (k : Int) := by omega
      have l2 : (k : Int) < (n2 : Int) := by omega
      have HKa := hid (fun W => refKey_old (f2 k).a hWa W)
      have HKb := hid (fun W => refKey_old (f2 k).b hWb W)
      have HLa := hid (keyB_len (f2 k).a)
      have HLb := hid (keyB_len (f2 k).b)
      have HSk := hid (HSt.out k)
      have RS := hid (fun (W : World) (u : Old w W) => R2.out.old u)
      clear hcx hWa hWb
      generalize hfk : f2 k = s at *
      have HFk := hid hfk
      clear hfk
      generalize hKL : PB ++ sBs f2 k = KL at *
      have HKL := hid hKL
      clear hKL
      go_upto_region 8 with (first | (go_at_call 43; refine (HKa.out _).mono ?_; rintro e y1 ⟨v1, rfl, o1, u1⟩; have O1 := hid o1; have Oo1 := hid (OwnL.old' HO.out u1); have S1 := hid (SubAt.old u1 HSs.out); have V1 := hid (HU.out.trans u1); have Z1 := hid (Nat.le_trans HZ.out u1.size); clear o1 u1) | (go_at_call 40; refine (joinL Oo1.out O1.out Z1.out (fun j q => (OwnL.lt' HO.out j q).2) (by have := LK.out; have := HLa.out; omega)).mono ?_; rintro e y2 ⟨v2, rfl, o2, g2⟩; have O2 := hid o2; have Q2 := hid (join_step S1.out Oo1.out V1.out HSB.out g2); have Z2 := hid (Nat.le_trans Z1.out g2.size); clear o2 g2))
      clear t0 t1 t2 t3 t4 t5 z0 z1 z2 z3 O1 Oo1 S1 V1 Z1
      obtain ⟨⟨t0, t1, t2, t3, t4, t5⟩, V2⟩ := Q2.out
      have U2 := hid V2
      clear V2
      obtain ⟨_, qa, qc, hv, hcx⟩ := R2.out.old U2.out
      simp only [Value.slice.injEq] at hv
      obtain ⟨e1, -, -⟩ := hv
      obtain ⟨b', off', ha, _, _, z0, z1, z2, z3⟩ := hcx k hlt
      rw [ha] at e1
      simp only [Option.some.injEq, Addr.mk.injEq] at e1
      obtain ⟨rfl, rfl, -⟩ := e1
      rw [HFk.out] at z0 z1 z2 z3
      clear hcx ha
      go_wp2_with (first | (go_at_call 43; refine (HKb.out _).mono ?_; rintro e y3 ⟨v3, rfl, o3, u3⟩; have O3 := hid o3; have Oo3 := hid (OwnL.old' O2.out u3); have S3 := hid (SubAt.old u3 Q2.out.1); have V3 := hid (U2.out.trans u3); have Z3 := hid (Nat.le_trans Z2.out u3.size); clear o3 u3) | (go_at_call 40; refine (joinL Oo3.out O3.out Z3.out (fun j q => (OwnL.lt' O2.out j q).2) (by rw [List.length_append]; have := LK.out; have := HLa.out; have := HLb.out; omega)).mono ?_; rintro e y4 ⟨v4, rfl, o4, g4⟩; have O4 := hid o4; have Q4 := hid (join_step S3.out Oo3.out V3.out HSB.out g4); have Z4 := hid (Nat.le_trans Z3.out g4.size); clear o4 g4))
      go_roundw
      case rel => exact ⟨k + 1, hlt, by go_num, by rw [HSk.out, ← List.append_assoc, ← List.append_assoc, HKL.out]; exact O4.out, Q4.out.1, Q4.out.2, Z4.out⟩
      case measure => simp [intOf]; omega
    · obtain rfl : k = n2 := by omega
      go_wp2_with (first | (go_at_call 42; refine (HK3.out _ HU.out).mono ?_; rintro e y1 ⟨v1, rfl, o1, u1⟩; have O1 := hid o1; have Oo1 := hid (OwnL.old' HO.out u1); have S1 := hid (SubAt.old u1 HSs.out); have V1 := hid (HU.out.trans u1); have Z1 := hid (Nat.le_trans HZ.out u1.size); clear o1 u1) | (go_at_call 40; refine (joinL Oo1.out O1.out Z1.out (fun j q => (OwnL.lt' HO.out j q).2) (by have := LK.out; have := HL6.out; omega)).mono ?_; rintro e y2 ⟨v2, rfl, o2, g2⟩; have O2 := hid o2; have Q2 := hid (join_step S1.out Oo1.out V1.out HSB.out g2); clear o2 g2))
      go_ret
      exact ⟨_, rfl, Pk.OwnL.mono' (by rw [HE.out]; exact O2.out) (by have := HSB.out; omega), Q2.out.2⟩
end Go.Proofs.YtodnegflaoedbaaGreat
namespace Go.Proofs.YtodnegflaoedbaaGreat
open Go.RowKit Go.Lib
set_option linter.unusedVariables false
set_option linter.unusedSimpArgs false
set_option maxRecDepth 20000
theorem sameBytesL (v u : Value) (L : List Nat) (w : World) (h1 : Pk.ByRow w v L.length (Pk.gd L)) (h2 : Pk.ByRow w u L.length (Pk.gd L)) : Calls Tryz.prog 13 #[v, u] w fun e w' => e = .returned (.bool true) ∧ Old w w' :=
  (Pk.sameBytes_eq v u L.length (Pk.gd L) (Pk.gd L) w h1 h2 (fun _ _ => rfl)).mono fun e w' h => ⟨h.1, by obtain ⟨m, q⟩ := h.2; rw [q]; exact (Old.refl w).drewN m⟩
theorem dec_of (s : Sb) (w w' : World) (h : s.Ok w) (hc : s.chk = 0) (v : Value) (hB : Pk.ByRow w' v s.enc.length (Pk.gd s.enc)) : Calls Tryz.prog 12 #[v] w' fun e w'' => DecPost s.s1 s.s2 s.s3 s.n1 s.n2 s.n3 s.x1 s.x3 s.f2 w' e w'' := by
  refine decode_ok s.s1 s.s2 s.s3 s.n1 s.n2 s.n3 s.x1 s.x3 s.f2 h.ws.1 h.ws.2.1 h.ws.2.2 hc w' v ?_
  rw [← encS_bytes]
  exact hB
attribute [local go_sem] run_bits run_frombits run_store_float eqF
set_option maxHeartbeats 4000000 in
set_option maxRecDepth 20000 in
theorem encodesLaw (s : Sb) (w : World) (hs : s.Ok w) :
    Calls Tryz.prog 3 #[.agg #[.int .i64 s.s1, .int .i64 s.s2, .int .i64 s.s3, .slice s.a1 s.n1 s.c1, .slice s.a2 s.n2 s.c2, .slice s.a3 s.n3 s.c3]] w fun e w' => e = .returned (.bool true) ∧ Old w w' := by
  have HCk := hid (show ∀ (W : World), Old w W → Calls Tryz.prog 11 #[.agg #[.int .i64 s.s1, .int .i64 s.s2, .int .i64 s.s3, .slice s.a1 s.n1 s.c1, .slice s.a2 s.n2 s.c2, .slice s.a3 s.n3 s.c3]] W fun e w' => e = .returned (.int .i64 s.chk) ∧ Old W w' from fun W u => refChk_any _ _ _ _ _ _ _ _ _ _ _ _ _ _ _ W (hs.h1.old u) (hs.h2.old u) (hs.h3.old u))
  have HEn := hid (fun (q : s.chk ≠ 0) (W : World) (u : Old w W) => s.encode_no W (hs.old u) q)
  have HEo := hid (fun (q : s.chk = 0) (W : World) (u : Old w W) => s.encode_ok W (hs.old u) q)
  have HD := hid (fun (q : s.chk = 0) (W : World) (v : Value) (hB : Pk.ByRow W v s.enc.length (Pk.gd s.enc)) => dec_of s w W hs q v hB)
  have HBy := hid (show s.chk = 0 → ∀ (W : World), Old w W → Calls Tryz.prog 14 #[.agg #[.int .i64 s.s1, .int .i64 s.s2, .int .i64 s.s3, .slice s.a1 s.n1 s.c1, .slice s.a2 s.n2 s.c2, .slice s.a3 s.n3 s.c3]] W fun e w' => ∃ v', e = .returned v' ∧ Pk.OwnL W.heap.size w' v' s.enc ∧ Old W w' from fun q W u => by
    have hp := chk_parts q
    exact refBytes_any _ _ _ _ _ _ _ _ _ _ _ _ _ _ _ W (hs.h1.old u) (hs.h2.old u) (hs.h3.old u) (mis_rng hp.1) (crowd_rng hp.2.1))
  have HOk := hid (fun (W : World) (u : Old w W) => hs.old u)
  clear hs
  go_enter Tryz.func3, Tryz.ntmps3
  go_upto_region 1 with fail
  generalize hw1 : w.alloc (.cells #[.int .i64 s.s1, .int .i64 s.s2, .int .i64 s.s3, .slice s.a1 s.n1 s.c1, .slice s.a2 s.n2 s.c2, .slice s.a3 s.n3 s.c3] 25) = w1 at *
  generalize hsb : w.heap.size = sb at *
  have HW := hid (sub_new w s.s1 s.s2 s.s3 _ _ _ w1 hw1 sb hsb)
  clear hw1 hsb
  go_upto_region 3 with (first | (go_at_call 9; refine (coding_any _).mono ?_; rintro e w2 ⟨rfl, u2⟩; have U2 := hid (HW.out.2.trans u2); have B2 := hid (SubAt.old u2 HW.out.1); clear u2))
  clear HW
  obtain ⟨t0, t1, t2, t3, t4, t5⟩ := B2.out
  by_cases hc : s.chk = 0
  · have HE := hid (HEo.out hc)
    have HD2 := hid (HD.out hc)
    have HB2 := hid (HBy.out hc)
    rw [hc] at HCk
    clear HEo HEn HD HBy hc
    go_upto_region 4 with (first | (go_at_call 10; refine (HE.out _ U2.out).mono ?_; rintro e w3 ⟨b3, g3, c3, rfl, o3, q3, u3⟩; have O3 := hid o3; have U3 := hid (U2.out.trans u3); have B3 := hid (SubAt.old u3 B2.out); clear o3 q3 u3))
    clear t0 t1 t2 t3 t4 t5 HE B2 U2
    obtain ⟨t0, t1, t2, t3, t4, t5⟩ := B3.out
    go_upto_region 7 with (first | (go_at_call 11; refine (HCk.out _ U3.out).mono ?_; rintro e w4 ⟨rfl, u4⟩; have U4 := hid (U3.out.trans u4); have B4 := hid (SubAt.old u4 B3.out); have R4 := hid (show Pk.ByRow w4 _ _ _ from Pk.ByRow.up O3.out.row u4); clear u4))
    clear t0 t1 t2 t3 t4 t5 B3 U3 O3 HCk
    obtain ⟨t0, t1, t2, t3, t4, t5⟩ := B4.out
    go_upto_region 8 with (first | (go_at_call 12; refine (HD2.out _ _ R4.out).mono ?_; rintro e w5 ⟨p1, p2, p3, q1, q2, q3, rfl, h5, u5⟩; have H5 := hid h5; have U5 := hid (U4.out.trans u5); have B5 := hid (SubAt.old u5 B4.out); have R5 := hid (show Pk.ByRow w5 _ _ _ from Pk.ByRow.up R4.out u5); clear h5 u5))
    generalize hw6 : w5.alloc (.cells #[.int .i64 s.s1, .int .i64 s.s2, .int .i64 s.s3, .slice p1 s.n1 q1, .slice p2 s.n2 q2, .slice p3 s.n3 q3] 25) = w6 at *
    generalize htb : w5.heap.size = tb at *
    obtain ⟨hB, hV⟩ := sub_new w5 s.s1 s.s2 s.s3 _ _ _ w6 hw6 tb htb
    have T6 := hid hB
    have U6 := hid (U5.out.trans hV)
    have B6 := hid (SubAt.old hV B5.out)
    have R6 := hid (show Pk.ByRow w6 _ _ _ from Pk.ByRow.up R5.out hV)
    have H6 := hid (show FRow w6 (.slice p1 s.n1 q1) s.n1 s.x1 ∧ SRow w6 (.slice p2 s.n2 q2) s.n2 s.f2 ∧ FRow w6 (.slice p3 s.n3 q3) s.n3 s.x3 from ⟨H5.out.1.old hV, H5.out.2.1.old hV, H5.out.2.2.old hV⟩)
    clear hw6 htb hB hV t0 t1 t2 t3 t4 t5 B4 B5 R4 R5 H5 U4 U5 HD2
    obtain ⟨t0, t1, t2, t3, t4, t5⟩ := B6.out
    obtain ⟨k0, k1, k2, k3, k4, k5⟩ := T6.out
    go_wp2_with (first | (go_at_call 14; refine (HB2.out _ U6.out).mono ?_; rintro e w7 ⟨v7, rfl, o7, u7⟩; have O7 := hid o7; have U7 := hid (U6.out.trans u7); have V7 := hid u7; clear o7 u7) | (go_at_call 13; refine (sameBytesL _ _ s.enc _ (Pk.ByRow.up R6.out V7.out) O7.out.row).mono ?_; rintro e w8 ⟨rfl, u8⟩; have U8 := hid (U7.out.trans u8); have V8 := hid (V7.out.trans u8); obtain ⟨a0, a1, a2, a3, a4, a5⟩ := SubAt.old V8.out B6.out; obtain ⟨b0, b1, b2, b3, b4, b5⟩ := SubAt.old V8.out T6.out; clear u8) | (go_at_call 15; refine (refSame_eq s.s1 s.s2 s.s3 s.a1 s.a2 s.a3 p1 p2 p3 s.n1 s.n2 s.n3 s.c1 s.c2 s.c3 q1 q2 q3 s.x1 s.x3 s.f2 _ (HOk.out _ U8.out).h1 (HOk.out _ U8.out).h2 (HOk.out _ U8.out).h3 (H6.out.1.old V8.out) (H6.out.2.1.old V8.out) (H6.out.2.2.old V8.out)).mono ?_; rintro e w9 ⟨rfl, u9⟩; have U9 := hid (U8.out.trans u9); clear u9))
    go_ret
    exact ⟨rfl, U9.out⟩
  · have HE := hid (HEn.out hc)
    have c2 : (s.chk != 0) = true := by rw [bne_iff_ne]; exact hc
    clear HEo HEn HD HBy hc
    generalize s.chk = r at *
    go_upto_region 4 with (first | (go_at_call 10; refine (HE.out _ U2.out).mono ?_; rintro e w3 ⟨rfl, u3⟩; have U3 := hid (U2.out.trans u3); have B3 := hid (SubAt.old u3 B2.out); clear u3))
    clear t0 t1 t2 t3 t4 t5
    obtain ⟨t0, t1, t2, t3, t4, t5⟩ := B3.out
    go_wp2_with (first | (go_at_call 11; refine (HCk.out _ U3.out).mono ?_; rintro e w4 ⟨rfl, u4⟩; have U4 := hid (U3.out.trans u4); clear u4))
    go_ret
    exact ⟨rfl, U4.out⟩
end Go.Proofs.YtodnegflaoedbaaGreat
