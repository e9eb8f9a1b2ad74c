/- The document's Kept of layer 13: a session's items, rising; conditions: the row lies in memory, no number is below 1. -/
import Derived.Test.YtefffjlcfghniaaZj
namespace Go.Proofs.Ytefffjlcfghniaa
open Go.RowKit Go.Lib
set_option linter.unusedVariables false
set_option linter.unusedSimpArgs false
set_option maxRecDepth 20000

abbrev K4 (xb tb b a : Nat) (s n : Int) (v : Value) (na : Int) : World → Prop := fun wz => wz.cell? ⟨xb, 0, none⟩ = some (.int .i64 s) ∧ wz.cell? ⟨xb, 1, none⟩ = some (.int .i64 n) ∧ wz.cell? ⟨tb, 0, none⟩ = some v ∧ wz.cell? ⟨b, a * 4 + 1, none⟩ = some (.int .i64 na)
theorem K4.old {xb tb b a : Nat} {s n : Int} {v : Value} {na : Int} {w w' : World} (u : Old w w') (h : K4 xb tb b a s n v na w) : K4 xb tb b a s n v na w' := ⟨u.keep h.1, u.keep h.2.1, u.keep h.2.2.1, u.keep h.2.2.2⟩
set_option maxHeartbeats 8000000 in
set_option maxRecDepth 20000 in
theorem rKept_any (v : Value) (T : List Opv) (id : Int) (w : World) (hv : RRow w v T) (h1 : ∀ i, i < T.length → 1 ≤ (opA T i).x.n) :
    Calls Try.prog 38 #[.agg #[v], .int .i64 id] w fun e w' => ∃ v' O, e = .returned v' ∧ KeptR id T O ∧ O.length ≤ T.length ∧ OwnO w.heap.size w' v' O ∧ Old w w' := by
  obtain ⟨hm, p, c, rfl, hc⟩ := hv
  have HC := hid hc
  have H1 := hid h1
  clear hc h1
  go_enter Try.func38, Try.ntmps38
  go_upto_region 1 with fail
  generalize hw1 : w.alloc (.cells #[.slice p T.length c] 42) = w1 at *
  obtain ⟨hb1, hu1⟩ := rtab_new w (.slice p T.length c) w1 hw1 _ rfl
  have HSz := hid hu1.size
  obtain ⟨tb, htb⟩ : ∃ tb, w.heap.size = tb := ⟨_, rfl⟩
  rw [htb] at hb1
  simp only [htb]
  have B1 := hid hb1
  have U1 := hid hu1
  clear hw1 hb1 hu1 htb
  go_upto_region 2 with fail
  have O2 := hid (OwnO.made w1)
  have U2 := hid ((Old.refl w1).alloc (.cells #[] 44))
  generalize w1.alloc (.cells #[] 44) = w2 at *
  obtain ⟨n, hn⟩ : ∃ n, T.length = n := ⟨_, rfl⟩
  simp only [hn]
  rw [hn] at B1 hm
  have HN := hid hn
  clear hn
  have ln : (n : Int) ≤ 1000 := by omega
  go_wp2
  go_loopw [5] (fun out wr => ∃ O : List Opv, OwnO w1.heap.size wr out O ∧ KSofar id T O ∧ Old w1 wr) (fun out _ => n + 1 - lenV out)
  case atStart => exact ⟨[], O2.out, KSofar.nil id T H1.out, U2.out⟩
  case round =>
    obtain ⟨O, hO, hS, hu⟩ := hrel
    have HO := hid hO
    have HS := hid hS
    have U := hid hu
    have hle : O.length ≤ n := by have := hS.len; rw [HN.out] at this; exact this
    obtain ⟨_, pa, ca, rfl, hca⟩ := hO.rrow (by omega)
    have HCA := hid hca
    clear hO hS hu hca O2 U2
    have HLo : Hid (loK O = if O.length = 0 then 0 else (opA O (O.length - 1)).x.n) := hid rfl
    generalize hm' : O.length = m at *
    have HM := hid hm'
    clear hm'
    obtain ⟨lo, hlo⟩ : ∃ lo, loK O = lo := ⟨_, rfl⟩
    rw [hlo] at HLo
    have HL := hid hlo
    clear hlo
    have hpos : 0 ≤ lo := by rw [← HL.out]; exact HS.out.pos
    generalize wr = W at *
    go_upto_region 3 with fail
    go_wp2
    go_loopw [6, 7] (fun z i wr => ∃ k : Nat, k ≤ n ∧ z = .int .i64 (atK id lo T k) ∧ i = .int .i64 (k : Nat) ∧ Old W wr) (fun _ i _ => n - (intOf i).toNat)
    case atStart => exact ⟨0, Nat.zero_le _, rfl, rfl, Old.refl _⟩
    case round =>
      obtain ⟨k, hk, rfl, rfl, hu⟩ := hrel
      have V := hid hu
      have t1 := V.out.keep (U.out.keep B1.out)
      clear hu
      by_cases hlt : k < n
      · obtain ⟨b, ea, hI⟩ := HC.out k (by rw [HN.out]; exact hlt)
        subst ea
        have HI := hid (hI.old (U1.out.trans (U.out.trans V.out)))
        obtain ⟨z0, z1, z2, z3⟩ := HI.out
        have hs1 := H1.out k (by rw [HN.out]; exact hlt)
        have l1 : (0 : Int) ≤ (k : Int) := by omega
        have l2 : (k : Int) < (n : Int) := by omega
        have HX : Hid (atK id lo T (k + 1) = if (opA T k).s = id ∧ lo < (opA T k).x.n ∧ (atK id lo T k < 0 ∨ (opA T k).x.n < (opA T (atK id lo T k).toNat).x.n) then (k : Int) else atK id lo T k) := hid rfl
        have HAt := hid ((atK_spec id lo T k).imp (fun z => z.1) (fun ⟨a, a1, a2, _⟩ => (⟨a, a1, a2⟩ : ∃ a : Nat, a < k ∧ atK id lo T k = (a : Int))))
        clear hI
        go_upto_region 7 with fail
        generalize hw3 : wr.alloc (.cells #[.int .i64 (opA T k).s, .int .i64 (opA T k).x.n, .int .i64 (opA T k).x.c, .int .i64 (opA T k).x.m] 44) = w3 at *
        have hx3 := cell_oneO wr (opA T k) _ rfl
        have hu3 := (Old.refl wr).alloc (.cells #[.int .i64 (opA T k).s, .int .i64 (opA T k).x.n, .int .i64 (opA T k).x.c, .int .i64 (opA T k).x.m] 44)
        rw [hw3] at hx3 hu3
        obtain ⟨y0, y1, y2, y3⟩ := hx3
        simp only [Nat.zero_add] at y0 y1 y2 y3
        have t2 := hu3.keep t1
        have V3 := hid (V.out.trans hu3)
        have HA := hid (fun (a : Nat) (ha : a < n) => (HC.out a (by rw [HN.out]; exact ha)))
        clear hw3 hu3 z0 z1 z2 z3 t1 HI y2 y3
        generalize wr.heap.size = xb at *
        generalize hop : opA T k = op at *
        clear hop
        by_cases q1 : op.s = id
        · have r1 : (op.s == id) = true := by rw [beq_iff_eq]; exact q1
          by_cases em : m = 0
          · have rm : ((m : Int) == 0) = true := by rw [beq_iff_eq]; omega
            have hl0 : lo = 0 := by have z := HLo.out; rw [if_pos em] at z; exact z
            have q : lo < op.x.n := by omega
            clear HLo HCA hl0 hpos em
            rcases HAt.out with ea | ⟨a, ha, ea⟩
            · rw [ea] at HX ⊢
              clear HAt HA HC
              have ng : (-1 : Int) < 0 := by omega
              go_wp2
              go_quiet (fail)
              go_wp2
              go_roundw
              case rel => exact ⟨k + 1, hlt, by rw [HX.out, if_pos ⟨q1, q, Or.inl ng⟩], by go_num, V3.out.drewN _⟩
              case measure => simp [intOf]; omega
            · rw [ea] at HX ⊢
              rw [Int.toNat_natCast] at HX
              clear HAt
              have ng : ¬ (a : Int) < 0 := by omega
              have a1 : (0 : Int) ≤ (a : Int) := by omega
              have a2 : (a : Int) < (n : Int) := by omega
              obtain ⟨b', eb, hIa⟩ := HA.out a (by omega)
              cases eb
              obtain ⟨x0, x1, x2, x3⟩ := hIa.old (U1.out.trans (U.out.trans V3.out))
              clear hIa x0 x2 x3 HA HC
              generalize (opA T a).x.n = na at *
              have NG := hid ng
              by_cases e1 : op.x.n < na
              · skip
                have HK4 := hid (show K4 xb tb b a op.s op.x.n (.slice (some ⟨b, 0, none⟩) n c) na w3 from ⟨y0, y1, t2, x1⟩)
                clear y0 y1 t2 x1
                refine wp_region_noPanic ?_
                refine wp_region_held_drew (S := K4 xb tb b a op.s op.x.n (.slice (some ⟨b, 0, none⟩) n c) na) (by kernel_rfl) ?_ (fun hHeld => ?_)
                · exact K4.old ((Old.refl w3).drew) HK4.out
                (try simp only [Act.put]); (try simp only [List.setIfInBounds_toArray]); (try simp only [List.set_cons_succ]); (try simp only [List.set_cons_zero])
                clear hHeld
                refine wpAnyH_take (i := 0) (oi := { dst := some 22, op := Op.fieldAddr 44 (Operand.tmp 8) 0, type := 0, pos := "ref.go:66", after := #[], guard := none }) (v := ?vk1) rfl (by kernel_rfl) (by kernel_rfl) (by kernel_rfl) (fun _ _ _ h => h) (Or.inl ⟨by rfl, ?hk1⟩) (K4.old ((Old.refl w3).drew) HK4.out) ?rk1
                case hk1 => (intro wz hSw; (try dsimp only at hSw); go_simp; try with_reducible rfl)
                (try simp only [Act.put]); (try simp only [List.setIfInBounds_toArray]); (try simp only [List.set_cons_succ]); (try simp only [List.set_cons_zero])
                refine wpAnyH_take (i := 1) (oi := { dst := some 23, op := Op.load 2 (Operand.tmp 22), type := 2, pos := "ref.go:66", after := #[{ on := 0, ground := Ground.data }], guard := none }) (v := ?vk2) rfl (by kernel_rfl) (by kernel_rfl) (by kernel_rfl) (fun _ _ _ h => h) (Or.inl ⟨by rfl, ?hk2⟩) (K4.old ((Old.refl w3).drew) HK4.out) ?rk2
                case hk2 => (intro wz hSw; (try dsimp only at hSw); go_simp; try with_reducible rfl)
                (try simp only [Act.put]); (try simp only [List.setIfInBounds_toArray]); (try simp only [List.set_cons_succ]); (try simp only [List.set_cons_zero])
                refine wpAnyH_take (i := 2) (oi := { dst := some 24, op := Op.move (Operand.tmp 1), type := 2, pos := "ref.go:66", after := #[], guard := none }) (v := ?vk3) rfl (by kernel_rfl) (by kernel_rfl) (by kernel_rfl) (fun _ _ _ h => h) (Or.inl ⟨by rfl, ?hk3⟩) (K4.old ((Old.refl w3).drew) HK4.out) ?rk3
                case hk3 => (intro wz hSw; (try dsimp only at hSw); go_simp; try with_reducible rfl)
                (try simp only [Act.put]); (try simp only [List.setIfInBounds_toArray]); (try simp only [List.set_cons_succ]); (try simp only [List.set_cons_zero])
                refine wpAnyH_take (i := 3) (oi := { dst := some 25, op := Op.binOp BinOp.eql 2 (Operand.tmp 23) (Operand.tmp 24) 2, type := 4, pos := "ref.go:66", after := #[{ on := 1, ground := Ground.data }, { on := 2, ground := Ground.data }], guard := none }) (v := ?vk4) rfl (by kernel_rfl) (by kernel_rfl) (by kernel_rfl) (fun _ _ _ h => h) (Or.inl ⟨by rfl, ?hk4⟩) (K4.old ((Old.refl w3).drew) HK4.out) ?rk4
                case hk4 => (intro wz hSw; (try dsimp only at hSw); go_simp; try with_reducible rfl)
                (try simp only [Act.put]); (try simp only [List.setIfInBounds_toArray]); (try simp only [List.set_cons_succ]); (try simp only [List.set_cons_zero])
                refine wpAnyH_take (i := 4) (oi := { dst := some 26, op := Op.move (Operand.tmp 25), type := 4, pos := "ref.go:66", after := #[{ on := 3, ground := Ground.data }], guard := none }) (v := ?vk5) rfl (by kernel_rfl) (by kernel_rfl) (by kernel_rfl) (fun _ _ _ h => h) (Or.inl ⟨by rfl, ?hk5⟩) (K4.old ((Old.refl w3).drew) HK4.out) ?rk5
                case hk5 => (intro wz hSw; (try dsimp only at hSw); go_simp; try with_reducible rfl)
                (try simp only [Act.put]); (try simp only [List.setIfInBounds_toArray]); (try simp only [List.set_cons_succ]); (try simp only [List.set_cons_zero])
                refine wpAnyH_take (i := 5) (oi := { dst := some 27, op := Op.move (Operand.tmp 5), type := 40, pos := "ref.go:66", after := #[{ on := 4, ground := Ground.guard }], guard := some (4, true) }) (v := ?vk6) rfl (by kernel_rfl) (by kernel_rfl) (by kernel_rfl) (fun _ _ _ h => h) (Or.inl ⟨by rfl, ?hk6⟩) (K4.old ((Old.refl w3).drew) HK4.out) ?rk6
                case hk6 => (intro wz hSw; (try dsimp only at hSw); go_simp; try with_reducible rfl)
                (try simp only [Act.put]); (try simp only [List.setIfInBounds_toArray]); (try simp only [List.set_cons_succ]); (try simp only [List.set_cons_zero])
                refine wpAnyH_take (i := 6) (oi := { dst := some 28, op := Op.call { callee := Callee.builtin Builtin.len, args := #[Operand.tmp 27], argTypes := #[40] }, type := 3, pos := "ref.go:66", after := #[{ on := 5, ground := Ground.data }, { on := 4, ground := Ground.guard }], guard := some (4, true) }) (v := ?vk7) rfl (by kernel_rfl) (by kernel_rfl) (by kernel_rfl) (fun _ _ _ h => h) (Or.inl ⟨by rfl, ?hk7⟩) (K4.old ((Old.refl w3).drew) HK4.out) ?rk7
                case hk7 => (intro wz hSw; (try dsimp only at hSw); go_simp; try with_reducible rfl)
                (try simp only [Act.put]); (try simp only [List.setIfInBounds_toArray]); (try simp only [List.set_cons_succ]); (try simp only [List.set_cons_zero])
                refine wpAnyH_take (i := 7) (oi := { dst := some 29, op := Op.binOp BinOp.eql 3 (Operand.tmp 28) (Operand.const (Value.int IntKind.i64 0)) 3, type := 4, pos := "ref.go:66", after := #[{ on := 6, ground := Ground.data }, { on := 4, ground := Ground.guard }], guard := some (4, true) }) (v := ?vk8) rfl (by kernel_rfl) (by kernel_rfl) (by kernel_rfl) (fun _ _ _ h => h) (Or.inl ⟨by rfl, ?hk8⟩) (K4.old ((Old.refl w3).drew) HK4.out) ?rk8
                case hk8 => (intro wz hSw; (try dsimp only at hSw); go_simp; try with_reducible rfl)
                (try simp only [Act.put]); (try simp only [List.setIfInBounds_toArray]); (try simp only [List.set_cons_succ]); (try simp only [List.set_cons_zero])
                refine wpAnyH_take (i := 8) (oi := { dst := some 30, op := Op.move (Operand.tmp 29), type := 4, pos := "ref.go:66", after := #[{ on := 7, ground := Ground.data }, { on := 4, ground := Ground.chain }, { on := 4, ground := Ground.guard }], guard := some (4, true) }) (v := ?vk9) rfl (by kernel_rfl) (by kernel_rfl) (by kernel_rfl) (fun _ _ _ h => h) (Or.inl ⟨by rfl, ?hk9⟩) (K4.old ((Old.refl w3).drew) HK4.out) ?rk9
                case hk9 => (intro wz hSw; (try dsimp only at hSw); go_simp; try with_reducible rfl)
                (try simp only [Act.put]); (try simp only [List.setIfInBounds_toArray]); (try simp only [List.set_cons_succ]); (try simp only [List.set_cons_zero])
                refine wpAnyH_take (i := 9) (oi := { dst := some 31, op := Op.fieldAddr 44 (Operand.tmp 8) 1, type := 0, pos := "ref.go:66", after := #[{ on := 8, ground := Ground.guard }], guard := some (8, false) }) (v := undef) rfl (by kernel_rfl) (by kernel_rfl) (by kernel_rfl) (fun _ _ _ h => h) (Or.inr ⟨by rfl, rfl⟩) (K4.old ((Old.refl w3).drew) HK4.out) ?_
                (try simp only [Act.put]); (try simp only [List.setIfInBounds_toArray]); (try simp only [List.set_cons_succ]); (try simp only [List.set_cons_zero])
                refine wpAnyH_take (i := 10) (oi := { dst := some 32, op := Op.load 2 (Operand.tmp 31), type := 2, pos := "ref.go:66", after := #[{ on := 9, ground := Ground.data }, { on := 8, ground := Ground.guard }], guard := some (8, false) }) (v := undef) rfl (by kernel_rfl) (by kernel_rfl) (by kernel_rfl) (fun _ _ _ h => h) (Or.inr ⟨by rfl, rfl⟩) (K4.old ((Old.refl w3).drew) HK4.out) ?_
                (try simp only [Act.put]); (try simp only [List.setIfInBounds_toArray]); (try simp only [List.set_cons_succ]); (try simp only [List.set_cons_zero])
                refine wpAnyH_take (i := 11) (oi := { dst := some 33, op := Op.move (Operand.tmp 5), type := 40, pos := "ref.go:66", after := #[{ on := 8, ground := Ground.guard }], guard := some (8, false) }) (v := undef) rfl (by kernel_rfl) (by kernel_rfl) (by kernel_rfl) (fun _ _ _ h => h) (Or.inr ⟨by rfl, rfl⟩) (K4.old ((Old.refl w3).drew) HK4.out) ?_
                (try simp only [Act.put]); (try simp only [List.setIfInBounds_toArray]); (try simp only [List.set_cons_succ]); (try simp only [List.set_cons_zero])
                refine wpAnyH_take (i := 12) (oi := { dst := some 34, op := Op.move (Operand.tmp 5), type := 40, pos := "ref.go:66", after := #[{ on := 8, ground := Ground.guard }], guard := some (8, false) }) (v := undef) rfl (by kernel_rfl) (by kernel_rfl) (by kernel_rfl) (fun _ _ _ h => h) (Or.inr ⟨by rfl, rfl⟩) (K4.old ((Old.refl w3).drew) HK4.out) ?_
                (try simp only [Act.put]); (try simp only [List.setIfInBounds_toArray]); (try simp only [List.set_cons_succ]); (try simp only [List.set_cons_zero])
                refine wpAnyH_take (i := 13) (oi := { dst := some 35, op := Op.call { callee := Callee.builtin Builtin.len, args := #[Operand.tmp 34], argTypes := #[40] }, type := 3, pos := "ref.go:66", after := #[{ on := 12, ground := Ground.data }, { on := 8, ground := Ground.guard }], guard := some (8, false) }) (v := undef) rfl (by kernel_rfl) (by kernel_rfl) (by kernel_rfl) (fun _ _ _ h => h) (Or.inr ⟨by rfl, rfl⟩) (K4.old ((Old.refl w3).drew) HK4.out) ?_
                (try simp only [Act.put]); (try simp only [List.setIfInBounds_toArray]); (try simp only [List.set_cons_succ]); (try simp only [List.set_cons_zero])
                refine wpAnyH_take (i := 14) (oi := { dst := some 36, op := Op.binOp BinOp.sub 3 (Operand.tmp 35) (Operand.const (Value.int IntKind.i64 1)) 3, type := 3, pos := "ref.go:66", after := #[{ on := 13, ground := Ground.data }, { on := 8, ground := Ground.guard }], guard := some (8, false) }) (v := undef) rfl (by kernel_rfl) (by kernel_rfl) (by kernel_rfl) (fun _ _ _ h => h) (Or.inr ⟨by rfl, rfl⟩) (K4.old ((Old.refl w3).drew) HK4.out) ?_
                (try simp only [Act.put]); (try simp only [List.setIfInBounds_toArray]); (try simp only [List.set_cons_succ]); (try simp only [List.set_cons_zero])
                refine wpAnyH_take (i := 15) (oi := { dst := some 37, op := Op.indexAddr 40 (Operand.tmp 33) (Operand.tmp 36), type := 0, pos := "ref.go:66", after := #[{ on := 11, ground := Ground.data }, { on := 14, ground := Ground.data }, { on := 8, ground := Ground.guard }], guard := some (8, false) }) (v := undef) rfl (by kernel_rfl) (by kernel_rfl) (by kernel_rfl) (fun _ _ _ h => h) (Or.inr ⟨by rfl, rfl⟩) (K4.old ((Old.refl w3).drew) HK4.out) ?_
                (try simp only [Act.put]); (try simp only [List.setIfInBounds_toArray]); (try simp only [List.set_cons_succ]); (try simp only [List.set_cons_zero])
                refine wpAnyH_take (i := 16) (oi := { dst := some 38, op := Op.fieldAddr 44 (Operand.tmp 37) 1, type := 0, pos := "ref.go:66", after := #[{ on := 15, ground := Ground.data }, { on := 8, ground := Ground.guard }], guard := some (8, false) }) (v := undef) rfl (by kernel_rfl) (by kernel_rfl) (by kernel_rfl) (fun _ _ _ h => h) (Or.inr ⟨by rfl, rfl⟩) (K4.old ((Old.refl w3).drew) HK4.out) ?_
                (try simp only [Act.put]); (try simp only [List.setIfInBounds_toArray]); (try simp only [List.set_cons_succ]); (try simp only [List.set_cons_zero])
                refine wpAnyH_take (i := 17) (oi := { dst := some 39, op := Op.load 2 (Operand.tmp 38), type := 2, pos := "ref.go:66", after := #[{ on := 16, ground := Ground.data }, { on := 8, ground := Ground.guard }], guard := some (8, false) }) (v := undef) rfl (by kernel_rfl) (by kernel_rfl) (by kernel_rfl) (fun _ _ _ h => h) (Or.inr ⟨by rfl, rfl⟩) (K4.old ((Old.refl w3).drew) HK4.out) ?_
                (try simp only [Act.put]); (try simp only [List.setIfInBounds_toArray]); (try simp only [List.set_cons_succ]); (try simp only [List.set_cons_zero])
                refine wpAnyH_take (i := 18) (oi := { dst := some 40, op := Op.binOp BinOp.gtr 2 (Operand.tmp 32) (Operand.tmp 39) 2, type := 4, pos := "ref.go:66", after := #[{ on := 10, ground := Ground.data }, { on := 17, ground := Ground.data }, { on := 8, ground := Ground.guard }], guard := some (8, false) }) (v := undef) rfl (by kernel_rfl) (by kernel_rfl) (by kernel_rfl) (fun _ _ _ h => h) (Or.inr ⟨by rfl, rfl⟩) (K4.old ((Old.refl w3).drew) HK4.out) ?_
                (try simp only [Act.put]); (try simp only [List.setIfInBounds_toArray]); (try simp only [List.set_cons_succ]); (try simp only [List.set_cons_zero])
                refine wpAnyH_take (i := 19) (oi := { dst := some 41, op := Op.pick (Operand.tmp 30) (Operand.const (Value.bool true)) (Operand.tmp 40), type := 4, pos := "ref.go:66", after := #[{ on := 8, ground := Ground.data }, { on := 18, ground := Ground.data }, { on := 4, ground := Ground.guard }], guard := some (4, true) }) (v := ?vk10) rfl (by kernel_rfl) (by kernel_rfl) (by kernel_rfl) (fun _ _ _ h => h) (Or.inl ⟨by rfl, ?hk10⟩) (K4.old ((Old.refl w3).drew) HK4.out) ?rk10
                case hk10 => (intro wz hSw; (try dsimp only at hSw); go_simp; try with_reducible rfl)
                (try simp only [Act.put]); (try simp only [List.setIfInBounds_toArray]); (try simp only [List.set_cons_succ]); (try simp only [List.set_cons_zero])
                refine wpAnyH_take (i := 20) (oi := { dst := some 42, op := Op.pick (Operand.tmp 26) (Operand.tmp 41) (Operand.const (Value.bool false)), type := 4, pos := "ref.go:66", after := #[{ on := 4, ground := Ground.data }, { on := 19, ground := Ground.data }], guard := none }) (v := ?vk11) rfl (by kernel_rfl) (by kernel_rfl) (by kernel_rfl) (fun _ _ _ h => h) (Or.inl ⟨by rfl, ?hk11⟩) (K4.old ((Old.refl w3).drew) HK4.out) ?rk11
                case hk11 => (intro wz hSw; (try dsimp only at hSw); go_simp; try with_reducible rfl)
                (try simp only [Act.put]); (try simp only [List.setIfInBounds_toArray]); (try simp only [List.set_cons_succ]); (try simp only [List.set_cons_zero])
                refine wpAnyH_take (i := 21) (oi := { dst := some 43, op := Op.move (Operand.tmp 42), type := 4, pos := "ref.go:66", after := #[{ on := 20, ground := Ground.data }, { on := 8, ground := Ground.chain }], guard := none }) (v := ?vk12) rfl (by kernel_rfl) (by kernel_rfl) (by kernel_rfl) (fun _ _ _ h => h) (Or.inl ⟨by rfl, ?hk12⟩) (K4.old ((Old.refl w3).drew) HK4.out) ?rk12
                case hk12 => (intro wz hSw; (try dsimp only at hSw); go_simp; try with_reducible rfl)
                (try simp only [Act.put]); (try simp only [List.setIfInBounds_toArray]); (try simp only [List.set_cons_succ]); (try simp only [List.set_cons_zero])
                refine wpAnyH_take (i := 22) (oi := { dst := some 44, op := Op.move (Operand.tmp 6), type := 3, pos := "ref.go:66", after := #[{ on := 21, ground := Ground.guard }], guard := some (21, true) }) (v := ?vk13) rfl (by kernel_rfl) (by kernel_rfl) (by kernel_rfl) (fun _ _ _ h => h) (Or.inl ⟨by rfl, ?hk13⟩) (K4.old ((Old.refl w3).drew) HK4.out) ?rk13
                case hk13 => (intro wz hSw; (try dsimp only at hSw); go_simp; try with_reducible rfl)
                (try simp only [Act.put]); (try simp only [List.setIfInBounds_toArray]); (try simp only [List.set_cons_succ]); (try simp only [List.set_cons_zero])
                refine wpAnyH_take (i := 23) (oi := { dst := some 45, op := Op.binOp BinOp.lss 3 (Operand.tmp 44) (Operand.const (Value.int IntKind.i64 0)) 3, type := 4, pos := "ref.go:66", after := #[{ on := 22, ground := Ground.data }, { on := 21, ground := Ground.guard }], guard := some (21, true) }) (v := ?vk14) rfl (by kernel_rfl) (by kernel_rfl) (by kernel_rfl) (fun _ _ _ h => h) (Or.inl ⟨by rfl, ?hk14⟩) (K4.old ((Old.refl w3).drew) HK4.out) ?rk14
                case hk14 => (intro wz hSw; (try dsimp only at hSw); go_simp; try with_reducible rfl)
                (try simp only [Act.put]); (try simp only [List.setIfInBounds_toArray]); (try simp only [List.set_cons_succ]); (try simp only [List.set_cons_zero])
                refine wpAnyH_take (i := 24) (oi := { dst := some 46, op := Op.move (Operand.tmp 45), type := 4, pos := "ref.go:66", after := #[{ on := 23, ground := Ground.data }, { on := 21, ground := Ground.chain }, { on := 21, ground := Ground.guard }], guard := some (21, true) }) (v := ?vk15) rfl (by kernel_rfl) (by kernel_rfl) (by kernel_rfl) (fun _ _ _ h => h) (Or.inl ⟨by rfl, ?hk15⟩) (K4.old ((Old.refl w3).drew) HK4.out) ?rk15
                case hk15 => (intro wz hSw; (try dsimp only at hSw); go_simp; try with_reducible rfl)
                (try simp only [Act.put]); (try simp only [List.setIfInBounds_toArray]); (try simp only [List.set_cons_succ]); (try simp only [List.set_cons_zero])
                refine wpAnyH_take (i := 25) (oi := { dst := some 47, op := Op.fieldAddr 44 (Operand.tmp 8) 1, type := 0, pos := "ref.go:66", after := #[{ on := 24, ground := Ground.guard }], guard := some (24, false) }) (v := ?vk16) rfl (by kernel_rfl) (by kernel_rfl) (by kernel_rfl) (fun _ _ _ h => h) (Or.inl ⟨by rfl, ?hk16⟩) (K4.old ((Old.refl w3).drew) HK4.out) ?rk16
                case hk16 => (intro wz hSw; (try dsimp only at hSw); go_simp; try with_reducible rfl)
                (try simp only [Act.put]); (try simp only [List.setIfInBounds_toArray]); (try simp only [List.set_cons_succ]); (try simp only [List.set_cons_zero])
                refine wpAnyH_take (i := 26) (oi := { dst := some 48, op := Op.load 2 (Operand.tmp 47), type := 2, pos := "ref.go:66", after := #[{ on := 25, ground := Ground.data }, { on := 24, ground := Ground.guard }], guard := some (24, false) }) (v := ?vk17) rfl (by kernel_rfl) (by kernel_rfl) (by kernel_rfl) (fun _ _ _ h => h) (Or.inl ⟨by rfl, ?hk17⟩) (K4.old ((Old.refl w3).drew) HK4.out) ?rk17
                case hk17 => (intro wz hSw; (try dsimp only at hSw); go_simp; try with_reducible rfl)
                (try simp only [Act.put]); (try simp only [List.setIfInBounds_toArray]); (try simp only [List.set_cons_succ]); (try simp only [List.set_cons_zero])
                refine wpAnyH_take (i := 27) (oi := { dst := some 49, op := Op.fieldAddr 42 (Operand.tmp 2) 0, type := 0, pos := "ref.go:66", after := #[{ on := 24, ground := Ground.guard }], guard := some (24, false) }) (v := ?vk18) rfl (by kernel_rfl) (by kernel_rfl) (by kernel_rfl) (fun _ _ _ h => h) (Or.inl ⟨by rfl, ?hk18⟩) (K4.old ((Old.refl w3).drew) HK4.out) ?rk18
                case hk18 => (intro wz hSw; (try dsimp only at hSw); go_simp; try with_reducible rfl)
                (try simp only [Act.put]); (try simp only [List.setIfInBounds_toArray]); (try simp only [List.set_cons_succ]); (try simp only [List.set_cons_zero])
                refine wpAnyH_take (i := 28) (oi := { dst := some 50, op := Op.load 40 (Operand.tmp 49), type := 40, pos := "ref.go:66", after := #[{ on := 27, ground := Ground.data }, { on := 24, ground := Ground.guard }], guard := some (24, false) }) (v := ?vk19) rfl (by kernel_rfl) (by kernel_rfl) (by kernel_rfl) (fun _ _ _ h => h) (Or.inl ⟨by rfl, ?hk19⟩) (K4.old ((Old.refl w3).drew) HK4.out) ?rk19
                case hk19 => (intro wz hSw; (try dsimp only at hSw); go_simp; try with_reducible rfl)
                (try simp only [Act.put]); (try simp only [List.setIfInBounds_toArray]); (try simp only [List.set_cons_succ]); (try simp only [List.set_cons_zero])
                refine wpAnyH_take (i := 29) (oi := { dst := some 51, op := Op.move (Operand.tmp 6), type := 3, pos := "ref.go:66", after := #[{ on := 24, ground := Ground.guard }], guard := some (24, false) }) (v := ?vk20) rfl (by kernel_rfl) (by kernel_rfl) (by kernel_rfl) (fun _ _ _ h => h) (Or.inl ⟨by rfl, ?hk20⟩) (K4.old ((Old.refl w3).drew) HK4.out) ?rk20
                case hk20 => (intro wz hSw; (try dsimp only at hSw); go_simp; try with_reducible rfl)
                (try simp only [Act.put]); (try simp only [List.setIfInBounds_toArray]); (try simp only [List.set_cons_succ]); (try simp only [List.set_cons_zero])
                refine wpAnyH_take (i := 30) (oi := { dst := some 52, op := Op.indexAddr 40 (Operand.tmp 50) (Operand.tmp 51), type := 0, pos := "ref.go:66", after := #[{ on := 28, ground := Ground.data }, { on := 29, ground := Ground.data }, { on := 24, ground := Ground.guard }], guard := some (24, false) }) (v := ?vk21) rfl (by kernel_rfl) (by kernel_rfl) (by kernel_rfl) (fun _ _ _ h => h) (Or.inl ⟨by rfl, ?hk21⟩) (K4.old ((Old.refl w3).drew) HK4.out) ?rk21
                case hk21 => (intro wz hSw; (try dsimp only at hSw); go_simp; try with_reducible rfl)
                (try simp only [Act.put]); (try simp only [List.setIfInBounds_toArray]); (try simp only [List.set_cons_succ]); (try simp only [List.set_cons_zero])
                refine wpAnyH_take (i := 31) (oi := { dst := some 53, op := Op.fieldAddr 44 (Operand.tmp 52) 1, type := 0, pos := "ref.go:66", after := #[{ on := 30, ground := Ground.data }, { on := 24, ground := Ground.guard }], guard := some (24, false) }) (v := ?vk22) rfl (by kernel_rfl) (by kernel_rfl) (by kernel_rfl) (fun _ _ _ h => h) (Or.inl ⟨by rfl, ?hk22⟩) (K4.old ((Old.refl w3).drew) HK4.out) ?rk22
                case hk22 => (intro wz hSw; (try dsimp only at hSw); go_simp; try with_reducible rfl)
                (try simp only [Act.put]); (try simp only [List.setIfInBounds_toArray]); (try simp only [List.set_cons_succ]); (try simp only [List.set_cons_zero])
                refine wpAnyH_take (i := 32) (oi := { dst := some 54, op := Op.load 2 (Operand.tmp 53), type := 2, pos := "ref.go:66", after := #[{ on := 31, ground := Ground.data }, { on := 24, ground := Ground.guard }], guard := some (24, false) }) (v := ?vk23) rfl (by kernel_rfl) (by kernel_rfl) (by kernel_rfl) (fun _ _ _ h => h) (Or.inl ⟨by rfl, ?hk23⟩) (K4.old ((Old.refl w3).drew) HK4.out) ?rk23
                case hk23 => (intro wz hSw; (try dsimp only at hSw); go_simp; try with_reducible rfl)
                (try simp only [Act.put]); (try simp only [List.setIfInBounds_toArray]); (try simp only [List.set_cons_succ]); (try simp only [List.set_cons_zero])
                refine wpAnyH_take (i := 33) (oi := { dst := some 55, op := Op.binOp BinOp.lss 2 (Operand.tmp 48) (Operand.tmp 54) 2, type := 4, pos := "ref.go:66", after := #[{ on := 26, ground := Ground.data }, { on := 32, ground := Ground.data }, { on := 24, ground := Ground.guard }], guard := some (24, false) }) (v := ?vk24) rfl (by kernel_rfl) (by kernel_rfl) (by kernel_rfl) (fun _ _ _ h => h) (Or.inl ⟨by rfl, ?hk24⟩) (K4.old ((Old.refl w3).drew) HK4.out) ?rk24
                case hk24 => (intro wz hSw; (try dsimp only at hSw); go_simp; try with_reducible rfl)
                (try simp only [Act.put]); (try simp only [List.setIfInBounds_toArray]); (try simp only [List.set_cons_succ]); (try simp only [List.set_cons_zero])
                refine wpAnyH_take (i := 34) (oi := { dst := some 56, op := Op.pick (Operand.tmp 46) (Operand.const (Value.bool true)) (Operand.tmp 55), type := 4, pos := "ref.go:66", after := #[{ on := 24, ground := Ground.data }, { on := 33, ground := Ground.data }, { on := 21, ground := Ground.guard }], guard := some (21, true) }) (v := ?vk25) rfl (by kernel_rfl) (by kernel_rfl) (by kernel_rfl) (fun _ _ _ h => h) (Or.inl ⟨by rfl, ?hk25⟩) (K4.old ((Old.refl w3).drew) HK4.out) ?rk25
                case hk25 => (intro wz hSw; (try dsimp only at hSw); go_simp; try with_reducible rfl)
                (try simp only [Act.put]); (try simp only [List.setIfInBounds_toArray]); (try simp only [List.set_cons_succ]); (try simp only [List.set_cons_zero])
                refine wpAnyH_take (i := 35) (oi := { dst := some 57, op := Op.pick (Operand.tmp 43) (Operand.tmp 56) (Operand.const (Value.bool false)), type := 4, pos := "ref.go:66", after := #[{ on := 21, ground := Ground.data }, { on := 34, ground := Ground.data }], guard := none }) (v := ?vk26) rfl (by kernel_rfl) (by kernel_rfl) (by kernel_rfl) (fun _ _ _ h => h) (Or.inl ⟨by rfl, ?hk26⟩) (K4.old ((Old.refl w3).drew) HK4.out) ?rk26
                case hk26 => (intro wz hSw; (try dsimp only at hSw); go_simp; try with_reducible rfl)
                (try simp only [Act.put]); (try simp only [List.setIfInBounds_toArray]); (try simp only [List.set_cons_succ]); (try simp only [List.set_cons_zero])
                refine wpAnyH_done (by kernel_rfl) ?_ _
                refine NoPanic.normal ?_
                have UZ := hid ((Old.refl w3).drew)
                go_wp2
                go_roundw
                case rel => exact ⟨k + 1, hlt, by rw [HX.out, if_pos ⟨q1, q, Or.inr e1⟩], by go_num, V3.out.trans UZ.out⟩
                case measure => simp [intOf]; omega
              · have E1 := hid e1
                have HK4 := hid (show K4 xb tb b a op.s op.x.n (.slice (some ⟨b, 0, none⟩) n c) na w3 from ⟨y0, y1, t2, x1⟩)
                clear y0 y1 t2 x1
                refine wp_region_noPanic ?_
                refine wp_region_held_drew (S := K4 xb tb b a op.s op.x.n (.slice (some ⟨b, 0, none⟩) n c) na) (by kernel_rfl) ?_ (fun hHeld => ?_)
                · exact K4.old ((Old.refl w3).drew) HK4.out
                (try simp only [Act.put]); (try simp only [List.setIfInBounds_toArray]); (try simp only [List.set_cons_succ]); (try simp only [List.set_cons_zero])
                clear hHeld
                refine wpAnyH_take (i := 0) (oi := { dst := some 22, op := Op.fieldAddr 44 (Operand.tmp 8) 0, type := 0, pos := "ref.go:66", after := #[], guard := none }) (v := ?vk27) rfl (by kernel_rfl) (by kernel_rfl) (by kernel_rfl) (fun _ _ _ h => h) (Or.inl ⟨by rfl, ?hk27⟩) (K4.old ((Old.refl w3).drew) HK4.out) ?rk27
                case hk27 => (intro wz hSw; (try dsimp only at hSw); go_simp; try with_reducible rfl)
                (try simp only [Act.put]); (try simp only [List.setIfInBounds_toArray]); (try simp only [List.set_cons_succ]); (try simp only [List.set_cons_zero])
                refine wpAnyH_take (i := 1) (oi := { dst := some 23, op := Op.load 2 (Operand.tmp 22), type := 2, pos := "ref.go:66", after := #[{ on := 0, ground := Ground.data }], guard := none }) (v := ?vk28) rfl (by kernel_rfl) (by kernel_rfl) (by kernel_rfl) (fun _ _ _ h => h) (Or.inl ⟨by rfl, ?hk28⟩) (K4.old ((Old.refl w3).drew) HK4.out) ?rk28
                case hk28 => (intro wz hSw; (try dsimp only at hSw); go_simp; try with_reducible rfl)
                (try simp only [Act.put]); (try simp only [List.setIfInBounds_toArray]); (try simp only [List.set_cons_succ]); (try simp only [List.set_cons_zero])
                refine wpAnyH_take (i := 2) (oi := { dst := some 24, op := Op.move (Operand.tmp 1), type := 2, pos := "ref.go:66", after := #[], guard := none }) (v := ?vk29) rfl (by kernel_rfl) (by kernel_rfl) (by kernel_rfl) (fun _ _ _ h => h) (Or.inl ⟨by rfl, ?hk29⟩) (K4.old ((Old.refl w3).drew) HK4.out) ?rk29
                case hk29 => (intro wz hSw; (try dsimp only at hSw); go_simp; try with_reducible rfl)
                (try simp only [Act.put]); (try simp only [List.setIfInBounds_toArray]); (try simp only [List.set_cons_succ]); (try simp only [List.set_cons_zero])
                refine wpAnyH_take (i := 3) (oi := { dst := some 25, op := Op.binOp BinOp.eql 2 (Operand.tmp 23) (Operand.tmp 24) 2, type := 4, pos := "ref.go:66", after := #[{ on := 1, ground := Ground.data }, { on := 2, ground := Ground.data }], guard := none }) (v := ?vk30) rfl (by kernel_rfl) (by kernel_rfl) (by kernel_rfl) (fun _ _ _ h => h) (Or.inl ⟨by rfl, ?hk30⟩) (K4.old ((Old.refl w3).drew) HK4.out) ?rk30
                case hk30 => (intro wz hSw; (try dsimp only at hSw); go_simp; try with_reducible rfl)
                (try simp only [Act.put]); (try simp only [List.setIfInBounds_toArray]); (try simp only [List.set_cons_succ]); (try simp only [List.set_cons_zero])
                refine wpAnyH_take (i := 4) (oi := { dst := some 26, op := Op.move (Operand.tmp 25), type := 4, pos := "ref.go:66", after := #[{ on := 3, ground := Ground.data }], guard := none }) (v := ?vk31) rfl (by kernel_rfl) (by kernel_rfl) (by kernel_rfl) (fun _ _ _ h => h) (Or.inl ⟨by rfl, ?hk31⟩) (K4.old ((Old.refl w3).drew) HK4.out) ?rk31
                case hk31 => (intro wz hSw; (try dsimp only at hSw); go_simp; try with_reducible rfl)
                (try simp only [Act.put]); (try simp only [List.setIfInBounds_toArray]); (try simp only [List.set_cons_succ]); (try simp only [List.set_cons_zero])
                refine wpAnyH_take (i := 5) (oi := { dst := some 27, op := Op.move (Operand.tmp 5), type := 40, pos := "ref.go:66", after := #[{ on := 4, ground := Ground.guard }], guard := some (4, true) }) (v := ?vk32) rfl (by kernel_rfl) (by kernel_rfl) (by kernel_rfl) (fun _ _ _ h => h) (Or.inl ⟨by rfl, ?hk32⟩) (K4.old ((Old.refl w3).drew) HK4.out) ?rk32
                case hk32 => (intro wz hSw; (try dsimp only at hSw); go_simp; try with_reducible rfl)
                (try simp only [Act.put]); (try simp only [List.setIfInBounds_toArray]); (try simp only [List.set_cons_succ]); (try simp only [List.set_cons_zero])
                refine wpAnyH_take (i := 6) (oi := { dst := some 28, op := Op.call { callee := Callee.builtin Builtin.len, args := #[Operand.tmp 27], argTypes := #[40] }, type := 3, pos := "ref.go:66", after := #[{ on := 5, ground := Ground.data }, { on := 4, ground := Ground.guard }], guard := some (4, true) }) (v := ?vk33) rfl (by kernel_rfl) (by kernel_rfl) (by kernel_rfl) (fun _ _ _ h => h) (Or.inl ⟨by rfl, ?hk33⟩) (K4.old ((Old.refl w3).drew) HK4.out) ?rk33
                case hk33 => (intro wz hSw; (try dsimp only at hSw); go_simp; try with_reducible rfl)
                (try simp only [Act.put]); (try simp only [List.setIfInBounds_toArray]); (try simp only [List.set_cons_succ]); (try simp only [List.set_cons_zero])
                refine wpAnyH_take (i := 7) (oi := { dst := some 29, op := Op.binOp BinOp.eql 3 (Operand.tmp 28) (Operand.const (Value.int IntKind.i64 0)) 3, type := 4, pos := "ref.go:66", after := #[{ on := 6, ground := Ground.data }, { on := 4, ground := Ground.guard }], guard := some (4, true) }) (v := ?vk34) rfl (by kernel_rfl) (by kernel_rfl) (by kernel_rfl) (fun _ _ _ h => h) (Or.inl ⟨by rfl, ?hk34⟩) (K4.old ((Old.refl w3).drew) HK4.out) ?rk34
                case hk34 => (intro wz hSw; (try dsimp only at hSw); go_simp; try with_reducible rfl)
                (try simp only [Act.put]); (try simp only [List.setIfInBounds_toArray]); (try simp only [List.set_cons_succ]); (try simp only [List.set_cons_zero])
                refine wpAnyH_take (i := 8) (oi := { dst := some 30, op := Op.move (Operand.tmp 29), type := 4, pos := "ref.go:66", after := #[{ on := 7, ground := Ground.data }, { on := 4, ground := Ground.chain }, { on := 4, ground := Ground.guard }], guard := some (4, true) }) (v := ?vk35) rfl (by kernel_rfl) (by kernel_rfl) (by kernel_rfl) (fun _ _ _ h => h) (Or.inl ⟨by rfl, ?hk35⟩) (K4.old ((Old.refl w3).drew) HK4.out) ?rk35
                case hk35 => (intro wz hSw; (try dsimp only at hSw); go_simp; try with_reducible rfl)
                (try simp only [Act.put]); (try simp only [List.setIfInBounds_toArray]); (try simp only [List.set_cons_succ]); (try simp only [List.set_cons_zero])
                refine wpAnyH_take (i := 9) (oi := { dst := some 31, op := Op.fieldAddr 44 (Operand.tmp 8) 1, type := 0, pos := "ref.go:66", after := #[{ on := 8, ground := Ground.guard }], guard := some (8, false) }) (v := undef) rfl (by kernel_rfl) (by kernel_rfl) (by kernel_rfl) (fun _ _ _ h => h) (Or.inr ⟨by rfl, rfl⟩) (K4.old ((Old.refl w3).drew) HK4.out) ?_
                (try simp only [Act.put]); (try simp only [List.setIfInBounds_toArray]); (try simp only [List.set_cons_succ]); (try simp only [List.set_cons_zero])
                refine wpAnyH_take (i := 10) (oi := { dst := some 32, op := Op.load 2 (Operand.tmp 31), type := 2, pos := "ref.go:66", after := #[{ on := 9, ground := Ground.data }, { on := 8, ground := Ground.guard }], guard := some (8, false) }) (v := undef) rfl (by kernel_rfl) (by kernel_rfl) (by kernel_rfl) (fun _ _ _ h => h) (Or.inr ⟨by rfl, rfl⟩) (K4.old ((Old.refl w3).drew) HK4.out) ?_
                (try simp only [Act.put]); (try simp only [List.setIfInBounds_toArray]); (try simp only [List.set_cons_succ]); (try simp only [List.set_cons_zero])
                refine wpAnyH_take (i := 11) (oi := { dst := some 33, op := Op.move (Operand.tmp 5), type := 40, pos := "ref.go:66", after := #[{ on := 8, ground := Ground.guard }], guard := some (8, false) }) (v := undef) rfl (by kernel_rfl) (by kernel_rfl) (by kernel_rfl) (fun _ _ _ h => h) (Or.inr ⟨by rfl, rfl⟩) (K4.old ((Old.refl w3).drew) HK4.out) ?_
                (try simp only [Act.put]); (try simp only [List.setIfInBounds_toArray]); (try simp only [List.set_cons_succ]); (try simp only [List.set_cons_zero])
                refine wpAnyH_take (i := 12) (oi := { dst := some 34, op := Op.move (Operand.tmp 5), type := 40, pos := "ref.go:66", after := #[{ on := 8, ground := Ground.guard }], guard := some (8, false) }) (v := undef) rfl (by kernel_rfl) (by kernel_rfl) (by kernel_rfl) (fun _ _ _ h => h) (Or.inr ⟨by rfl, rfl⟩) (K4.old ((Old.refl w3).drew) HK4.out) ?_
                (try simp only [Act.put]); (try simp only [List.setIfInBounds_toArray]); (try simp only [List.set_cons_succ]); (try simp only [List.set_cons_zero])
                refine wpAnyH_take (i := 13) (oi := { dst := some 35, op := Op.call { callee := Callee.builtin Builtin.len, args := #[Operand.tmp 34], argTypes := #[40] }, type := 3, pos := "ref.go:66", after := #[{ on := 12, ground := Ground.data }, { on := 8, ground := Ground.guard }], guard := some (8, false) }) (v := undef) rfl (by kernel_rfl) (by kernel_rfl) (by kernel_rfl) (fun _ _ _ h => h) (Or.inr ⟨by rfl, rfl⟩) (K4.old ((Old.refl w3).drew) HK4.out) ?_
                (try simp only [Act.put]); (try simp only [List.setIfInBounds_toArray]); (try simp only [List.set_cons_succ]); (try simp only [List.set_cons_zero])
                refine wpAnyH_take (i := 14) (oi := { dst := some 36, op := Op.binOp BinOp.sub 3 (Operand.tmp 35) (Operand.const (Value.int IntKind.i64 1)) 3, type := 3, pos := "ref.go:66", after := #[{ on := 13, ground := Ground.data }, { on := 8, ground := Ground.guard }], guard := some (8, false) }) (v := undef) rfl (by kernel_rfl) (by kernel_rfl) (by kernel_rfl) (fun _ _ _ h => h) (Or.inr ⟨by rfl, rfl⟩) (K4.old ((Old.refl w3).drew) HK4.out) ?_
                (try simp only [Act.put]); (try simp only [List.setIfInBounds_toArray]); (try simp only [List.set_cons_succ]); (try simp only [List.set_cons_zero])
                refine wpAnyH_take (i := 15) (oi := { dst := some 37, op := Op.indexAddr 40 (Operand.tmp 33) (Operand.tmp 36), type := 0, pos := "ref.go:66", after := #[{ on := 11, ground := Ground.data }, { on := 14, ground := Ground.data }, { on := 8, ground := Ground.guard }], guard := some (8, false) }) (v := undef) rfl (by kernel_rfl) (by kernel_rfl) (by kernel_rfl) (fun _ _ _ h => h) (Or.inr ⟨by rfl, rfl⟩) (K4.old ((Old.refl w3).drew) HK4.out) ?_
                (try simp only [Act.put]); (try simp only [List.setIfInBounds_toArray]); (try simp only [List.set_cons_succ]); (try simp only [List.set_cons_zero])
                refine wpAnyH_take (i := 16) (oi := { dst := some 38, op := Op.fieldAddr 44 (Operand.tmp 37) 1, type := 0, pos := "ref.go:66", after := #[{ on := 15, ground := Ground.data }, { on := 8, ground := Ground.guard }], guard := some (8, false) }) (v := undef) rfl (by kernel_rfl) (by kernel_rfl) (by kernel_rfl) (fun _ _ _ h => h) (Or.inr ⟨by rfl, rfl⟩) (K4.old ((Old.refl w3).drew) HK4.out) ?_
                (try simp only [Act.put]); (try simp only [List.setIfInBounds_toArray]); (try simp only [List.set_cons_succ]); (try simp only [List.set_cons_zero])
                refine wpAnyH_take (i := 17) (oi := { dst := some 39, op := Op.load 2 (Operand.tmp 38), type := 2, pos := "ref.go:66", after := #[{ on := 16, ground := Ground.data }, { on := 8, ground := Ground.guard }], guard := some (8, false) }) (v := undef) rfl (by kernel_rfl) (by kernel_rfl) (by kernel_rfl) (fun _ _ _ h => h) (Or.inr ⟨by rfl, rfl⟩) (K4.old ((Old.refl w3).drew) HK4.out) ?_
                (try simp only [Act.put]); (try simp only [List.setIfInBounds_toArray]); (try simp only [List.set_cons_succ]); (try simp only [List.set_cons_zero])
                refine wpAnyH_take (i := 18) (oi := { dst := some 40, op := Op.binOp BinOp.gtr 2 (Operand.tmp 32) (Operand.tmp 39) 2, type := 4, pos := "ref.go:66", after := #[{ on := 10, ground := Ground.data }, { on := 17, ground := Ground.data }, { on := 8, ground := Ground.guard }], guard := some (8, false) }) (v := undef) rfl (by kernel_rfl) (by kernel_rfl) (by kernel_rfl) (fun _ _ _ h => h) (Or.inr ⟨by rfl, rfl⟩) (K4.old ((Old.refl w3).drew) HK4.out) ?_
                (try simp only [Act.put]); (try simp only [List.setIfInBounds_toArray]); (try simp only [List.set_cons_succ]); (try simp only [List.set_cons_zero])
                refine wpAnyH_take (i := 19) (oi := { dst := some 41, op := Op.pick (Operand.tmp 30) (Operand.const (Value.bool true)) (Operand.tmp 40), type := 4, pos := "ref.go:66", after := #[{ on := 8, ground := Ground.data }, { on := 18, ground := Ground.data }, { on := 4, ground := Ground.guard }], guard := some (4, true) }) (v := ?vk36) rfl (by kernel_rfl) (by kernel_rfl) (by kernel_rfl) (fun _ _ _ h => h) (Or.inl ⟨by rfl, ?hk36⟩) (K4.old ((Old.refl w3).drew) HK4.out) ?rk36
                case hk36 => (intro wz hSw; (try dsimp only at hSw); go_simp; try with_reducible rfl)
                (try simp only [Act.put]); (try simp only [List.setIfInBounds_toArray]); (try simp only [List.set_cons_succ]); (try simp only [List.set_cons_zero])
                refine wpAnyH_take (i := 20) (oi := { dst := some 42, op := Op.pick (Operand.tmp 26) (Operand.tmp 41) (Operand.const (Value.bool false)), type := 4, pos := "ref.go:66", after := #[{ on := 4, ground := Ground.data }, { on := 19, ground := Ground.data }], guard := none }) (v := ?vk37) rfl (by kernel_rfl) (by kernel_rfl) (by kernel_rfl) (fun _ _ _ h => h) (Or.inl ⟨by rfl, ?hk37⟩) (K4.old ((Old.refl w3).drew) HK4.out) ?rk37
                case hk37 => (intro wz hSw; (try dsimp only at hSw); go_simp; try with_reducible rfl)
                (try simp only [Act.put]); (try simp only [List.setIfInBounds_toArray]); (try simp only [List.set_cons_succ]); (try simp only [List.set_cons_zero])
                refine wpAnyH_take (i := 21) (oi := { dst := some 43, op := Op.move (Operand.tmp 42), type := 4, pos := "ref.go:66", after := #[{ on := 20, ground := Ground.data }, { on := 8, ground := Ground.chain }], guard := none }) (v := ?vk38) rfl (by kernel_rfl) (by kernel_rfl) (by kernel_rfl) (fun _ _ _ h => h) (Or.inl ⟨by rfl, ?hk38⟩) (K4.old ((Old.refl w3).drew) HK4.out) ?rk38
                case hk38 => (intro wz hSw; (try dsimp only at hSw); go_simp; try with_reducible rfl)
                (try simp only [Act.put]); (try simp only [List.setIfInBounds_toArray]); (try simp only [List.set_cons_succ]); (try simp only [List.set_cons_zero])
                refine wpAnyH_take (i := 22) (oi := { dst := some 44, op := Op.move (Operand.tmp 6), type := 3, pos := "ref.go:66", after := #[{ on := 21, ground := Ground.guard }], guard := some (21, true) }) (v := ?vk39) rfl (by kernel_rfl) (by kernel_rfl) (by kernel_rfl) (fun _ _ _ h => h) (Or.inl ⟨by rfl, ?hk39⟩) (K4.old ((Old.refl w3).drew) HK4.out) ?rk39
                case hk39 => (intro wz hSw; (try dsimp only at hSw); go_simp; try with_reducible rfl)
                (try simp only [Act.put]); (try simp only [List.setIfInBounds_toArray]); (try simp only [List.set_cons_succ]); (try simp only [List.set_cons_zero])
                refine wpAnyH_take (i := 23) (oi := { dst := some 45, op := Op.binOp BinOp.lss 3 (Operand.tmp 44) (Operand.const (Value.int IntKind.i64 0)) 3, type := 4, pos := "ref.go:66", after := #[{ on := 22, ground := Ground.data }, { on := 21, ground := Ground.guard }], guard := some (21, true) }) (v := ?vk40) rfl (by kernel_rfl) (by kernel_rfl) (by kernel_rfl) (fun _ _ _ h => h) (Or.inl ⟨by rfl, ?hk40⟩) (K4.old ((Old.refl w3).drew) HK4.out) ?rk40
                case hk40 => (intro wz hSw; (try dsimp only at hSw); go_simp; try with_reducible rfl)
                (try simp only [Act.put]); (try simp only [List.setIfInBounds_toArray]); (try simp only [List.set_cons_succ]); (try simp only [List.set_cons_zero])
                refine wpAnyH_take (i := 24) (oi := { dst := some 46, op := Op.move (Operand.tmp 45), type := 4, pos := "ref.go:66", after := #[{ on := 23, ground := Ground.data }, { on := 21, ground := Ground.chain }, { on := 21, ground := Ground.guard }], guard := some (21, true) }) (v := ?vk41) rfl (by kernel_rfl) (by kernel_rfl) (by kernel_rfl) (fun _ _ _ h => h) (Or.inl ⟨by rfl, ?hk41⟩) (K4.old ((Old.refl w3).drew) HK4.out) ?rk41
                case hk41 => (intro wz hSw; (try dsimp only at hSw); go_simp; try with_reducible rfl)
                (try simp only [Act.put]); (try simp only [List.setIfInBounds_toArray]); (try simp only [List.set_cons_succ]); (try simp only [List.set_cons_zero])
                refine wpAnyH_take (i := 25) (oi := { dst := some 47, op := Op.fieldAddr 44 (Operand.tmp 8) 1, type := 0, pos := "ref.go:66", after := #[{ on := 24, ground := Ground.guard }], guard := some (24, false) }) (v := ?vk42) rfl (by kernel_rfl) (by kernel_rfl) (by kernel_rfl) (fun _ _ _ h => h) (Or.inl ⟨by rfl, ?hk42⟩) (K4.old ((Old.refl w3).drew) HK4.out) ?rk42
                case hk42 => (intro wz hSw; (try dsimp only at hSw); go_simp; try with_reducible rfl)
                (try simp only [Act.put]); (try simp only [List.setIfInBounds_toArray]); (try simp only [List.set_cons_succ]); (try simp only [List.set_cons_zero])
                refine wpAnyH_take (i := 26) (oi := { dst := some 48, op := Op.load 2 (Operand.tmp 47), type := 2, pos := "ref.go:66", after := #[{ on := 25, ground := Ground.data }, { on := 24, ground := Ground.guard }], guard := some (24, false) }) (v := ?vk43) rfl (by kernel_rfl) (by kernel_rfl) (by kernel_rfl) (fun _ _ _ h => h) (Or.inl ⟨by rfl, ?hk43⟩) (K4.old ((Old.refl w3).drew) HK4.out) ?rk43
                case hk43 => (intro wz hSw; (try dsimp only at hSw); go_simp; try with_reducible rfl)
                (try simp only [Act.put]); (try simp only [List.setIfInBounds_toArray]); (try simp only [List.set_cons_succ]); (try simp only [List.set_cons_zero])
                refine wpAnyH_take (i := 27) (oi := { dst := some 49, op := Op.fieldAddr 42 (Operand.tmp 2) 0, type := 0, pos := "ref.go:66", after := #[{ on := 24, ground := Ground.guard }], guard := some (24, false) }) (v := ?vk44) rfl (by kernel_rfl) (by kernel_rfl) (by kernel_rfl) (fun _ _ _ h => h) (Or.inl ⟨by rfl, ?hk44⟩) (K4.old ((Old.refl w3).drew) HK4.out) ?rk44
                case hk44 => (intro wz hSw; (try dsimp only at hSw); go_simp; try with_reducible rfl)
                (try simp only [Act.put]); (try simp only [List.setIfInBounds_toArray]); (try simp only [List.set_cons_succ]); (try simp only [List.set_cons_zero])
                refine wpAnyH_take (i := 28) (oi := { dst := some 50, op := Op.load 40 (Operand.tmp 49), type := 40, pos := "ref.go:66", after := #[{ on := 27, ground := Ground.data }, { on := 24, ground := Ground.guard }], guard := some (24, false) }) (v := ?vk45) rfl (by kernel_rfl) (by kernel_rfl) (by kernel_rfl) (fun _ _ _ h => h) (Or.inl ⟨by rfl, ?hk45⟩) (K4.old ((Old.refl w3).drew) HK4.out) ?rk45
                case hk45 => (intro wz hSw; (try dsimp only at hSw); go_simp; try with_reducible rfl)
                (try simp only [Act.put]); (try simp only [List.setIfInBounds_toArray]); (try simp only [List.set_cons_succ]); (try simp only [List.set_cons_zero])
                refine wpAnyH_take (i := 29) (oi := { dst := some 51, op := Op.move (Operand.tmp 6), type := 3, pos := "ref.go:66", after := #[{ on := 24, ground := Ground.guard }], guard := some (24, false) }) (v := ?vk46) rfl (by kernel_rfl) (by kernel_rfl) (by kernel_rfl) (fun _ _ _ h => h) (Or.inl ⟨by rfl, ?hk46⟩) (K4.old ((Old.refl w3).drew) HK4.out) ?rk46
                case hk46 => (intro wz hSw; (try dsimp only at hSw); go_simp; try with_reducible rfl)
                (try simp only [Act.put]); (try simp only [List.setIfInBounds_toArray]); (try simp only [List.set_cons_succ]); (try simp only [List.set_cons_zero])
                refine wpAnyH_take (i := 30) (oi := { dst := some 52, op := Op.indexAddr 40 (Operand.tmp 50) (Operand.tmp 51), type := 0, pos := "ref.go:66", after := #[{ on := 28, ground := Ground.data }, { on := 29, ground := Ground.data }, { on := 24, ground := Ground.guard }], guard := some (24, false) }) (v := ?vk47) rfl (by kernel_rfl) (by kernel_rfl) (by kernel_rfl) (fun _ _ _ h => h) (Or.inl ⟨by rfl, ?hk47⟩) (K4.old ((Old.refl w3).drew) HK4.out) ?rk47
                case hk47 => (intro wz hSw; (try dsimp only at hSw); go_simp; try with_reducible rfl)
                (try simp only [Act.put]); (try simp only [List.setIfInBounds_toArray]); (try simp only [List.set_cons_succ]); (try simp only [List.set_cons_zero])
                refine wpAnyH_take (i := 31) (oi := { dst := some 53, op := Op.fieldAddr 44 (Operand.tmp 52) 1, type := 0, pos := "ref.go:66", after := #[{ on := 30, ground := Ground.data }, { on := 24, ground := Ground.guard }], guard := some (24, false) }) (v := ?vk48) rfl (by kernel_rfl) (by kernel_rfl) (by kernel_rfl) (fun _ _ _ h => h) (Or.inl ⟨by rfl, ?hk48⟩) (K4.old ((Old.refl w3).drew) HK4.out) ?rk48
                case hk48 => (intro wz hSw; (try dsimp only at hSw); go_simp; try with_reducible rfl)
                (try simp only [Act.put]); (try simp only [List.setIfInBounds_toArray]); (try simp only [List.set_cons_succ]); (try simp only [List.set_cons_zero])
                refine wpAnyH_take (i := 32) (oi := { dst := some 54, op := Op.load 2 (Operand.tmp 53), type := 2, pos := "ref.go:66", after := #[{ on := 31, ground := Ground.data }, { on := 24, ground := Ground.guard }], guard := some (24, false) }) (v := ?vk49) rfl (by kernel_rfl) (by kernel_rfl) (by kernel_rfl) (fun _ _ _ h => h) (Or.inl ⟨by rfl, ?hk49⟩) (K4.old ((Old.refl w3).drew) HK4.out) ?rk49
                case hk49 => (intro wz hSw; (try dsimp only at hSw); go_simp; try with_reducible rfl)
                (try simp only [Act.put]); (try simp only [List.setIfInBounds_toArray]); (try simp only [List.set_cons_succ]); (try simp only [List.set_cons_zero])
                refine wpAnyH_take (i := 33) (oi := { dst := some 55, op := Op.binOp BinOp.lss 2 (Operand.tmp 48) (Operand.tmp 54) 2, type := 4, pos := "ref.go:66", after := #[{ on := 26, ground := Ground.data }, { on := 32, ground := Ground.data }, { on := 24, ground := Ground.guard }], guard := some (24, false) }) (v := ?vk50) rfl (by kernel_rfl) (by kernel_rfl) (by kernel_rfl) (fun _ _ _ h => h) (Or.inl ⟨by rfl, ?hk50⟩) (K4.old ((Old.refl w3).drew) HK4.out) ?rk50
                case hk50 => (intro wz hSw; (try dsimp only at hSw); go_simp; try with_reducible rfl)
                (try simp only [Act.put]); (try simp only [List.setIfInBounds_toArray]); (try simp only [List.set_cons_succ]); (try simp only [List.set_cons_zero])
                refine wpAnyH_take (i := 34) (oi := { dst := some 56, op := Op.pick (Operand.tmp 46) (Operand.const (Value.bool true)) (Operand.tmp 55), type := 4, pos := "ref.go:66", after := #[{ on := 24, ground := Ground.data }, { on := 33, ground := Ground.data }, { on := 21, ground := Ground.guard }], guard := some (21, true) }) (v := ?vk51) rfl (by kernel_rfl) (by kernel_rfl) (by kernel_rfl) (fun _ _ _ h => h) (Or.inl ⟨by rfl, ?hk51⟩) (K4.old ((Old.refl w3).drew) HK4.out) ?rk51
                case hk51 => (intro wz hSw; (try dsimp only at hSw); go_simp; try with_reducible rfl)
                (try simp only [Act.put]); (try simp only [List.setIfInBounds_toArray]); (try simp only [List.set_cons_succ]); (try simp only [List.set_cons_zero])
                refine wpAnyH_take (i := 35) (oi := { dst := some 57, op := Op.pick (Operand.tmp 43) (Operand.tmp 56) (Operand.const (Value.bool false)), type := 4, pos := "ref.go:66", after := #[{ on := 21, ground := Ground.data }, { on := 34, ground := Ground.data }], guard := none }) (v := ?vk52) rfl (by kernel_rfl) (by kernel_rfl) (by kernel_rfl) (fun _ _ _ h => h) (Or.inl ⟨by rfl, ?hk52⟩) (K4.old ((Old.refl w3).drew) HK4.out) ?rk52
                case hk52 => (intro wz hSw; (try dsimp only at hSw); go_simp; try with_reducible rfl)
                (try simp only [Act.put]); (try simp only [List.setIfInBounds_toArray]); (try simp only [List.set_cons_succ]); (try simp only [List.set_cons_zero])
                refine wpAnyH_done (by kernel_rfl) ?_ _
                refine NoPanic.normal ?_
                have UZ := hid ((Old.refl w3).drew)
                go_wp2
                go_roundw
                case rel => exact ⟨k + 1, hlt, by rw [HX.out, if_neg (by have h1 := NG.out; have h2 := E1.out; omega)], by go_num, V3.out.trans UZ.out⟩
                case measure => simp [intOf]; omega
          · have rm : ((m : Int) == 0) = false := by rw [beq_eq_false_iff_ne]; omega
            obtain ⟨g, e1, hy0⟩ := HCA.out (m - 1) (by omega)
            subst e1
            have hy := V3.out.keep hy0.2.1
            have hlv := HLo.out
            rw [if_neg em] at hlv
            rw [← hlv] at hy
            clear hy0 HCA hlv HLo
            obtain ⟨m', rfl⟩ : ∃ m', m = m' + 1 := ⟨m - 1, by omega⟩
            rw [show m' + 1 - 1 = m' by omega] at hy
            have rm2 : ((m' : Int) + 1 == 0) = false := by rw [beq_eq_false_iff_ne]; omega
            have wm : IntKind.i64.wrap (m' : Int) = (m' : Int) := IntWalk.i64_in _ (by omega)
            clear rm em
            have w3' : (0 : Int) ≤ (m' : Int) := by omega
            have w4 : (m' : Int) < (m' : Int) + 1 := by omega
            have w5 : (m' : Int) ≤ 1000 := by omega
            by_cases q : lo < op.x.n
            · have q' : op.x.n > lo := q
              rcases HAt.out with ea | ⟨a, ha, ea⟩
              · rw [ea] at HX ⊢
                clear HAt HA HC
                have ng : (-1 : Int) < 0 := by omega
                go_wp2
                go_quiet (fail)
                go_wp2
                go_roundw
                case rel => exact ⟨k + 1, hlt, by rw [HX.out, if_pos ⟨q1, q, Or.inl ng⟩], by go_num, V3.out.drewN _⟩
                case measure => simp [intOf]; omega
              · rw [ea] at HX ⊢
                rw [Int.toNat_natCast] at HX
                clear HAt
                have ng : ¬ (a : Int) < 0 := by omega
                have a1 : (0 : Int) ≤ (a : Int) := by omega
                have a2 : (a : Int) < (n : Int) := by omega
                obtain ⟨b', eb, hIa⟩ := HA.out a (by omega)
                cases eb
                obtain ⟨x0, x1, x2, x3⟩ := hIa.old (U1.out.trans (U.out.trans V3.out))
                clear hIa x0 x2 x3 HA HC
                generalize (opA T a).x.n = na at *
                have NG := hid ng
                by_cases e1 : op.x.n < na
                · skip
                  go_wp2
                  go_quiet (fail)
                  go_wp2
                  go_roundw
                  case rel => exact ⟨k + 1, hlt, by rw [HX.out, if_pos ⟨q1, q, Or.inr e1⟩], by go_num, V3.out.drewN _⟩
                  case measure => simp [intOf]; omega
                · have E1 := hid e1
                  go_wp2
                  go_quiet (fail)
                  go_wp2
                  go_roundw
                  case rel => exact ⟨k + 1, hlt, by rw [HX.out, if_neg (by have h1 := NG.out; have h2 := E1.out; omega)], by go_num, V3.out.drewN _⟩
                  case measure => simp [intOf]; omega
            · have q' : decide (lo < op.x.n) = false := decide_eq_false q
              have Q1 := hid q
              clear HAt HA HC
              generalize hak : atK id lo T k = ak at *
              clear hak
              go_wp2
              go_quiet (fail)
              go_wp2
              go_roundw
              case rel => exact ⟨k + 1, hlt, by rw [HX.out, if_neg (by have h1 := Q1.out; omega)], by go_num, V3.out.drewN _⟩
              case measure => simp [intOf]; omega
        · have r1 : (op.s == id) = false := by rw [beq_eq_false_iff_ne]; exact q1
          clear HAt HA HC HCA
          generalize hak : atK id lo T k = ak at *
          clear hak
          go_wp2
          go_quiet (fail)
          go_wp2
          go_roundw
          case rel => exact ⟨k + 1, hlt, by rw [HX.out, if_neg (fun z => q1 z.1)], by go_num, V3.out.drewN _⟩
          case measure => simp [intOf]; omega
      · obtain rfl : n = k := by omega
        clear HCA HLo
        have HDn := hid (fun (z : atK id lo T n < 0) => HS.out.done (by rw [HL.out, HN.out]; exact z))
        have HNx := hid (fun (a : Nat) (z : atK id lo T n = (a : Int)) => HS.out.next (a := a) (by rw [HL.out, HN.out]; exact z))
        rcases (atK_spec id lo T n) with ⟨ea, -⟩ | ⟨a, ha, ea, -⟩
        · rw [ea] at HDn ⊢
          have ng : (-1 : Int) < 0 := by omega
          clear HC
          go_wp2
          go_ret
          exact ⟨_, O, rfl, HDn.out ng, by rw [HM.out, HN.out]; exact hle, OwnO.mono (HO.out.up V.out) HSz.out, U1.out.trans (U.out.trans V.out)⟩
        · obtain ⟨_, hS2⟩ := HNx.out a ea
          rw [ea]
          have ng : ¬ (a : Int) < 0 := by omega
          have a1 : (0 : Int) ≤ (a : Int) := by omega
          have a2 : (a : Int) < (n : Int) := by omega
          obtain ⟨b', eb, hIa⟩ := HC.out a (by rw [HN.out]; exact ha)
          subst eb
          obtain ⟨x0, x1, x2, x3⟩ := hIa.old (U1.out.trans (U.out.trans V.out))
          clear hIa HC HDn HNx ea
          have hle2 := hS2.len
          rw [HN.out] at hle2
          simp at hle2
          rw [HM.out] at hle2
          have HS2 := hid hS2
          clear hS2
          generalize opA T a = op at *
          go_wp2_with (at_builtin; refine wp_appO rfl (.tmp 62) (.tmp 68) rfl w1.heap.size _ O op _ 1 rfl rfl (OwnO.up HO.out (V.out.alloc _)) (cell_oneO _ _ _ (by first | rfl | simp)) (by rw [HM.out]; omega) (by have := (U.out.trans V.out).size; simp; omega) ?_; intro v8 w8 o8 g8 lo8; have V8 := hid (show Old w1 w8 from Below.grown ((U.out.trans V.out).alloc _) g8 (by have := (U.out.trans V.out).size; simp; omega) (fun q e => (World.ownsRow.lt HO.out q e).1)); have O8 := hid o8; clear o8 g8 lo8)
          obtain ⟨a8, c8, e8⟩ := O8.out.len
          rw [List.length_append, HM.out] at e8
          subst e8
          go_roundw
          case rel => exact ⟨O ++ [op], O8.out, HS2.out, V8.out⟩
          case measure => simp [lenV]; omega
end Go.Proofs.Ytefffjlcfghniaa
