/- sess' table in memory; New, Look, Highest at every table; conditions: the table lies in memory as it is made. -/
import Derived.Test.YtefffjlcfghniaaZo
import Derived.Carry
namespace Go.Proofs.Ytefffjlcfghniaa
open Go.RowKit Go.Lib Go.Maps Go.MapKept
set_option linter.unusedVariables false
set_option linter.unusedSimpArgs false
set_option maxRecDepth 20000
theorem MapIs.len {w : World} {b : Nat} {M : List (Int × Value)} (h : MapIs w b M) (ty : TypeId) : (Builtin.len_ #[58] ty #[.map (some b)]).run Try.prog w = .ok (.int .i64 (M.length : Nat)) w := by
  obtain ⟨es, clock, h1, h2, h3, h4⟩ := h
  have e : es.size = M.length := by have := congrArg List.length h3; simpa using this
  simp [Builtin.len_, run_underlying Try.underlying58, MapKept.run_getObj_map h1, Result.andThen, goInt, e]
/-- A table in memory: its blocks, its sessions, what is kept of each. -/
def TabIs (w : World) (tb : Nat) (Bs : List Nat) (ks : List Int) (L : Int → List It) : Prop :=
  ∃ mb M, tb ∈ Bs ∧ mb ∈ Bs ∧ tb ≠ mb ∧ w.cell? ⟨tb, 0, none⟩ = some (.map (some mb)) ∧ MapIs w mb M ∧ M.map (·.1) = ks ∧
    (∀ p ∈ M, Own 0 w p.2 (L p.1) ∧ ∀ g, p.2.ownBlock = some g → g ∈ Bs ∧ g ≠ tb ∧ g ≠ mb) ∧
    (∀ p ∈ M, ∀ q ∈ M, p.1 ≠ q.1 → ∀ g, p.2.ownBlock = some g → q.2.ownBlock ≠ some g) ∧ ∀ k, k ∉ ks → L k = []
theorem TabIs.chg {S : List Nat} {w w' : World} {tb : Nat} {Bs : List Nat} {ks : List Int} {L : Int → List It} (h : TabIs w tb Bs ks L) (u : Chg S w w') (hn : ∀ b ∈ Bs, b ∉ S) : TabIs w' tb Bs ks L := by
  obtain ⟨mb, M, h1, h2, h3, h4, h5, h6, h7, h8⟩ := h
  exact ⟨mb, M, h1, h2, h3, u.cell h4 (hn tb h1), h5.chg u (hn mb h2), h6, fun p hp => ⟨(h7 p hp).1.chg u (fun g e => hn g ((h7 p hp).2 g e).1), (h7 p hp).2⟩, h8⟩
theorem TabIs.old {w w' : World} {tb : Nat} {Bs : List Nat} {ks : List Int} {L : Int → List It} (h : TabIs w tb Bs ks L) (u : Old w w') : TabIs w' tb Bs ks L := h.chg (Chg.ofOld (S := []) u) (fun _ _ e => by cases e)
theorem TabIs.nod {w : World} {tb : Nat} {Bs : List Nat} {ks : List Int} {L : Int → List It} (h : TabIs w tb Bs ks L) : ks.Nodup := by
  obtain ⟨mb, M, h1, h2, h3, h4, h5, h6, h7, h8⟩ := h
  rw [← h6]
  exact h5.nod
/-- What a map has at a key is that session's row. -/
theorem row_at {w : World} {M : List (Int × Value)} {ks : List Int} {L : Int → List It} (h6 : M.map (·.1) = ks) (h7 : ∀ p ∈ M, Own 0 w p.2 (L p.1)) (h9 : ∀ k, k ∉ ks → L k = []) (k : Int) : Own 0 w ((mget k M).getD (.slice none 0 0)) (L k) ∧ (mget k M).isSome = decide (k ∈ ks) := by
  cases e : mget k M with
  | none =>
    have hk : k ∉ ks := fun hm => by
      rw [← h6] at hm
      obtain ⟨p, hp, q⟩ := List.mem_map.1 hm
      have : ∀ (M : List (Int × Value)), p ∈ M → mget k M ≠ none := by
        intro M
        induction M with
        | nil => intro h; cases h
        | cons a t ih =>
          intro h z
          unfold mget at z
          split at z
          · cases z
          · rename_i ne
            rcases List.mem_cons.1 h with r | r
            · rw [← r] at ne; exact ne q
            · exact ih r z
      exact this M hp e
    rw [h9 k hk, decide_eq_false hk]
    exact ⟨Own.nil 0 w, rfl⟩
  | some v =>
    have hm := mget_mem e
    have hk : k ∈ ks := by rw [← h6]; exact List.mem_map.2 ⟨_, hm, rfl⟩
    rw [decide_eq_true hk]
    exact ⟨h7 _ hm, rfl⟩
/-- A table as the calls make it. -/
structure TOk (ks : List Int) (L : Int → List It) : Prop where
  many : ks.length ≤ 16
  rng : ∀ k ∈ ks, 1 ≤ k ∧ k ≤ 1099511627776
  some : ∀ k ∈ ks, L k ≠ []
  rise : ∀ k, Rise (L k)
  seq : ∀ k, ∀ x ∈ L k, 1 ≤ x.n ∧ x.n ≤ 1099511627776
  win : ∀ k, ∀ x ∈ L k, hiL (L k) - 8 < x.n
  len : ∀ k, (L k).length ≤ 8
theorem hiL_mem {L : List It} (h : L ≠ []) : ∃ x ∈ L, hiL L = x.n := by
  have hl : 0 < L.length := by cases L with | nil => exact absurd rfl h | cons a t => simp
  unfold hiL
  rw [if_neg (by omega)]
  exact ⟨_, by rw [atI_get L _ (by omega)]; exact List.getElem_mem (by omega), rfl⟩
theorem TOk.hi {ks : List Int} {L : Int → List It} (h : TOk ks L) (k : Int) : 0 ≤ hiL (L k) ∧ hiL (L k) ≤ 1099511627776 := by
  by_cases e : L k = []
  · rw [e]; unfold hiL; simp
  · obtain ⟨x, hx, q⟩ := hiL_mem e
    have := h.seq k x hx
    omega
/-- What Look answers: code, number, error. -/
def lookC (ks : List Int) (L : Int → List It) (s q : Int) : Int :=
  if foundB q (L s) = true then 5 else if (outB s 1 1099511627776 || outB q 1 1099511627776) = true then 43 else if (!decide (s ∈ ks) && decide (16 ≤ ks.length)) = true then 131 else if q ≤ hiL (L s) - 8 then 130 else 0
def lookV (L : Int → List It) (s q : Int) : Int × Int := if foundB q (L s) = true then ((atI (L s) (posS q (L s))).c, (atI (L s) (posS q (L s))).m) else (0, 0)
theorem verd_new (w : World) (a b : Int) (w1 : World) (e : w.alloc (.cells #[.int .i64 a, .int .i64 b] 28) = w1) (m : Nat) (hm : w.heap.size = m) : (w1.cell? ⟨m, 0, none⟩ = some (.int .i64 a) ∧ w1.cell? ⟨m, 1, none⟩ = some (.int .i64 b)) ∧ (w1.frozen? ⟨m, 0, none⟩ = false ∧ w1.frozen? ⟨m, 1, none⟩ = false) ∧ Old w w1 := by
  subst e hm
  exact ⟨⟨by simp, by simp⟩, ⟨by simp, by simp⟩, (Old.refl w).alloc _⟩
set_option maxHeartbeats 1000000 in
set_option maxRecDepth 20000 in
theorem new_any (w : World) : Calls Try.prog 6 #[] w fun e w' => ∃ tb mb, e = .returned (.pointer (some ⟨tb, 0, none⟩)) ∧ w.heap.size ≤ tb ∧ w.heap.size ≤ mb ∧ TabIs w' tb [tb, mb] [] (fun _ => []) ∧ Old w w' := by
  have hmm := @run_makeMap Try.prog
  go_enter Try.func6, Try.ntmps6
  go_wp2
  go_ret
  exact ⟨w.heap.size + 1, w.heap.size, rfl, by omega, by omega, ⟨w.heap.size, [], by simp, by simp, by omega, by simp, ⟨#[], 0, ((Old.refl _).alloc _).block (alloc_heap w _ _ rfl), ⟨by simp, by simp, by simp⟩, rfl, (fun p hp => by cases hp)⟩, rfl, (fun p hp => by cases hp), (fun p hp => by cases hp), fun _ _ => rfl⟩, ((Old.refl w).alloc _).alloc _⟩
set_option maxHeartbeats 4000000 in
set_option maxRecDepth 20000 in
theorem look_any (tb : Nat) (Bs : List Nat) (ks : List Int) (L : Int → List It) (s q : Int) (w : World) (h : TabIs w tb Bs ks L) (hok : TOk ks L) (hs : N64 s) (hq : N64 q) :
    Calls Try.prog 11 #[.pointer (some ⟨tb, 0, none⟩), .int .i64 s, .int .i64 q] w fun e w' => e = .returned (.tuple #[.agg #[.int .i64 (lookV L s q).1, .int .i64 (lookV L s q).2], .int .i64 (lookC ks L s q)]) ∧ Old w w' := by
  have HV : Hid (lookV L s q = if foundB q (L s) = true then ((atI (L s) (posS q (L s))).c, (atI (L s) (posS q (L s))).m) else (0, 0)) := hid rfl
  have HC : Hid (lookC ks L s q = if foundB q (L s) = true then 5 else if (outB s 1 1099511627776 || outB q 1 1099511627776) = true then 43 else if (!decide (s ∈ ks) && decide (16 ≤ ks.length)) = true then 131 else if q ≤ hiL (L s) - 8 then 130 else 0) := hid rfl
  have HOs := hid (fun W => outside_any s 1 1099511627776 W)
  have HOq := hid (fun W => outside_any q 1 1099511627776 W)
  obtain ⟨mb, M, h1, h2, h3, h4, h5, h6, h7, h8, h9⟩ := h
  obtain ⟨hR, hI⟩ := row_at h6 (fun p hp => (h7 p hp).1) h9 s
  have HLk := hid (fun (W : World) (u : Old w W) => (h5.old u).look true hs)
  simp only [if_true] at HLk
  rw [hI] at HLk
  have HLen := hid (fun (W : World) (u : Old w W) (ty : TypeId) => (h5.old u).len ty)
  have hml : M.length = ks.length := by rw [← h6]; simp
  rw [hml] at HLen
  have HTb := hid h4
  have HRow := hid hR
  have hhi := hok.hi s
  have hll := hok.len s
  have hri := hok.rise s
  have hm16 := hok.many
  have HFi := hid (fun (W : World) (u : Old w W) => find_any 0 _ (L s) q W (by omega) hri (hR.old u))
  have HHi := hid (fun (W : World) (u : Old w W) => highest_any 0 _ (L s) W (by omega) (hR.old u))
  have HFd : Hid (foundB q (L s) = true → posS q (L s) < (L s).length) := hid (fun e => by unfold foundB at e; rw [Bool.and_eq_true, decide_eq_true_eq] at e; exact e.1)
  generalize lookV L s q = lv at *
  generalize lookC ks L s q = lc at *
  generalize (mget s M).getD (.slice none 0 0) = v at *
  clear h1 h2 h3 h4 h5 h6 h7 h8 h9 hR hI hml hri hok hs hq
  generalize L s = R at *
  generalize hkl : ks.length = kl at *
  clear hkl
  generalize decide (s ∈ ks) = there at *
  generalize outB s 1 1099511627776 = o1 at *
  generalize outB q 1 1099511627776 = o2 at *
  generalize hiL R = hi at *
  have lw : IntKind.i64.wrap (hi - 8) = hi - 8 := IntWalk.i64_in _ (by omega)
  go_enter Try.func11, Try.ntmps11
  go_upto_region 1 with fail
  generalize hw1 : w.alloc (.cells #[.int .i64 0, .int .i64 0] 28) = w1 at *
  obtain ⟨hv1, hf1, hu1⟩ := verd_new w 0 0 w1 hw1 _ rfl
  obtain ⟨rb, hrb⟩ : ∃ rb, w.heap.size = rb := ⟨_, rfl⟩
  have HRb := hid (show w.heap.size ≤ rb by omega)
  rw [hrb] at hv1 hf1 ⊢
  clear hrb
  have hlk := HLk.out w1 hu1
  have t0 := hu1.keep HTb.out
  have U1 := hid hu1
  have HV1 := hid hv1
  have HF1 := hid hf1
  clear hw1 hv1 hf1 hu1 HLk
  go_upto_region 3 with (go_at_call 25; refine (HFi.out _ U1.out).mono ?_; rintro e w2 ⟨rfl, u2⟩; have V2 := hid u2; have U2 := hid (U1.out.trans u2); clear u2)
  clear hlk t0 HFi
  obtain ⟨y0, y1⟩ : w2.cell? ⟨rb, 0, none⟩ = some (.int .i64 0) ∧ w2.cell? ⟨rb, 1, none⟩ = some (.int .i64 0) := ⟨V2.out.keep HV1.out.1, V2.out.keep HV1.out.2⟩
  obtain ⟨z0, z1⟩ : w2.frozen? ⟨rb, 0, none⟩ = false ∧ w2.frozen? ⟨rb, 1, none⟩ = false := ⟨V2.out.keepF HV1.out.1 HF1.out.1, V2.out.keepF HV1.out.2 HF1.out.2⟩
  have HF2 := hid (show w2.cell? ⟨rb, 0, none⟩ = some (.int .i64 0) ∧ w2.cell? ⟨rb, 1, none⟩ = some (.int .i64 0) ∧ w2.frozen? ⟨rb, 0, none⟩ = false ∧ w2.frozen? ⟨rb, 1, none⟩ = false from ⟨y0, y1, z0, z1⟩)
  clear HV1 HF1 U1 V2
  cases hfo : foundB q R
  · rw [hfo] at HV HC
    simp only [Bool.false_eq_true, if_false] at HV HC
    clear hfo HFd HRow
    have tok1 : True := trivial
    cases o1
    · cases o2
      · simp only [Bool.or_false, Bool.false_eq_true, if_false] at HC
        cases there
        · simp only [Bool.not_false, Bool.true_and] at HC
          by_cases hk : 16 ≤ kl
          · rw [decide_eq_true hk] at HC
            simp only [if_true] at HC
            have k1 : (16 : Int) ≤ (kl : Int) := by omega
            go_upto_region 7 with (first | (go_at_call_of 24 (Value.int .i64 s); have _t := tok1; clear tok1 _t; refine (HOs.out _).mono ?_; rintro e w3 ⟨rfl, u3⟩; have U3 := hid (U2.out.trans u3); have V3 := hid u3; clear u3 y0 y1 z0 z1; obtain ⟨y0, y1⟩ : w3.cell? ⟨rb, 0, none⟩ = some (.int .i64 0) ∧ w3.cell? ⟨rb, 1, none⟩ = some (.int .i64 0) := ⟨V3.out.keep HF2.out.1, V3.out.keep HF2.out.2.1⟩; obtain ⟨z0, z1⟩ : w3.frozen? ⟨rb, 0, none⟩ = false ∧ w3.frozen? ⟨rb, 1, none⟩ = false := ⟨V3.out.keepF HF2.out.1 HF2.out.2.2.1, V3.out.keepF HF2.out.2.1 HF2.out.2.2.2⟩) | (go_at_call_of 24 (Value.int .i64 q); refine (HOq.out _).mono ?_; rintro e w4 ⟨rfl, u4⟩; have U4 := hid (U3.out.trans u4); have V4 := hid (V3.out.trans u4); clear u4 y0 y1 z0 z1; obtain ⟨y0, y1⟩ : w4.cell? ⟨rb, 0, none⟩ = some (.int .i64 0) ∧ w4.cell? ⟨rb, 1, none⟩ = some (.int .i64 0) := ⟨V4.out.keep HF2.out.1, V4.out.keep HF2.out.2.1⟩; obtain ⟨z0, z1⟩ : w4.frozen? ⟨rb, 0, none⟩ = false ∧ w4.frozen? ⟨rb, 1, none⟩ = false := ⟨V4.out.keepF HF2.out.1 HF2.out.2.2.1, V4.out.keepF HF2.out.2.1 HF2.out.2.2.2⟩))
            have hlen := fun ty => HLen.out _ U4.out ty
            have t0 := U4.out.keep HTb.out
            go_wp2
            refine bodyPost_ret (v := .tuple #[.agg #[.int .i64 0, .int .i64 0], .int .i64 131]) (by simp [results, Try.results11, go_sem, y0, y1]) rfl ⟨by rw [HV.out, HC.out], ?_⟩
            exact (U4.out.setCell (p := ⟨rb, 0, none⟩) HRb.out _).setCell (p := ⟨rb, 1, none⟩) HRb.out _
          · rw [decide_eq_false hk] at HC
            simp only [Bool.false_eq_true, if_false] at HC
            have k1 : ¬ (16 : Int) ≤ (kl : Int) := by omega
            by_cases hg : q ≤ hi - 8
            · rw [if_pos hg] at HC
              go_upto_region 7 with (first | (go_at_call_of 24 (Value.int .i64 s); have _t := tok1; clear tok1 _t; refine (HOs.out _).mono ?_; rintro e w3 ⟨rfl, u3⟩; have U3 := hid (U2.out.trans u3); have V3 := hid u3; clear u3 y0 y1 z0 z1; obtain ⟨y0, y1⟩ : w3.cell? ⟨rb, 0, none⟩ = some (.int .i64 0) ∧ w3.cell? ⟨rb, 1, none⟩ = some (.int .i64 0) := ⟨V3.out.keep HF2.out.1, V3.out.keep HF2.out.2.1⟩; obtain ⟨z0, z1⟩ : w3.frozen? ⟨rb, 0, none⟩ = false ∧ w3.frozen? ⟨rb, 1, none⟩ = false := ⟨V3.out.keepF HF2.out.1 HF2.out.2.2.1, V3.out.keepF HF2.out.2.1 HF2.out.2.2.2⟩) | (go_at_call_of 24 (Value.int .i64 q); refine (HOq.out _).mono ?_; rintro e w4 ⟨rfl, u4⟩; have U4 := hid (U3.out.trans u4); have V4 := hid (V3.out.trans u4); clear u4 y0 y1 z0 z1; obtain ⟨y0, y1⟩ : w4.cell? ⟨rb, 0, none⟩ = some (.int .i64 0) ∧ w4.cell? ⟨rb, 1, none⟩ = some (.int .i64 0) := ⟨V4.out.keep HF2.out.1, V4.out.keep HF2.out.2.1⟩; obtain ⟨z0, z1⟩ : w4.frozen? ⟨rb, 0, none⟩ = false ∧ w4.frozen? ⟨rb, 1, none⟩ = false := ⟨V4.out.keepF HF2.out.1 HF2.out.2.2.1, V4.out.keepF HF2.out.2.1 HF2.out.2.2.2⟩))
              have hlen := fun ty => HLen.out _ U4.out ty
              have t0 := U4.out.keep HTb.out
              go_wp2_with (first | (go_at_call 27; refine (HHi.out _ U4.out).mono ?_; rintro e w5 ⟨rfl, u5⟩; have U5 := hid (U4.out.trans u5); have V5 := hid (V4.out.trans u5); clear u5 y0 y1 z0 z1; obtain ⟨y0, y1⟩ : w5.cell? ⟨rb, 0, none⟩ = some (.int .i64 0) ∧ w5.cell? ⟨rb, 1, none⟩ = some (.int .i64 0) := ⟨V5.out.keep HF2.out.1, V5.out.keep HF2.out.2.1⟩; obtain ⟨z0, z1⟩ : w5.frozen? ⟨rb, 0, none⟩ = false ∧ w5.frozen? ⟨rb, 1, none⟩ = false := ⟨V5.out.keepF HF2.out.1 HF2.out.2.2.1, V5.out.keepF HF2.out.2.1 HF2.out.2.2.2⟩))
              refine bodyPost_ret (v := .tuple #[.agg #[.int .i64 0, .int .i64 0], .int .i64 130]) (by simp [results, Try.results11, go_sem, y0, y1]) rfl ⟨by rw [HV.out, HC.out], ?_⟩
              exact (U5.out.setCell (p := ⟨rb, 0, none⟩) HRb.out _).setCell (p := ⟨rb, 1, none⟩) HRb.out _
            · rw [if_neg hg] at HC
              go_upto_region 7 with (first | (go_at_call_of 24 (Value.int .i64 s); have _t := tok1; clear tok1 _t; refine (HOs.out _).mono ?_; rintro e w3 ⟨rfl, u3⟩; have U3 := hid (U2.out.trans u3); have V3 := hid u3; clear u3 y0 y1 z0 z1; obtain ⟨y0, y1⟩ : w3.cell? ⟨rb, 0, none⟩ = some (.int .i64 0) ∧ w3.cell? ⟨rb, 1, none⟩ = some (.int .i64 0) := ⟨V3.out.keep HF2.out.1, V3.out.keep HF2.out.2.1⟩; obtain ⟨z0, z1⟩ : w3.frozen? ⟨rb, 0, none⟩ = false ∧ w3.frozen? ⟨rb, 1, none⟩ = false := ⟨V3.out.keepF HF2.out.1 HF2.out.2.2.1, V3.out.keepF HF2.out.2.1 HF2.out.2.2.2⟩) | (go_at_call_of 24 (Value.int .i64 q); refine (HOq.out _).mono ?_; rintro e w4 ⟨rfl, u4⟩; have U4 := hid (U3.out.trans u4); have V4 := hid (V3.out.trans u4); clear u4 y0 y1 z0 z1; obtain ⟨y0, y1⟩ : w4.cell? ⟨rb, 0, none⟩ = some (.int .i64 0) ∧ w4.cell? ⟨rb, 1, none⟩ = some (.int .i64 0) := ⟨V4.out.keep HF2.out.1, V4.out.keep HF2.out.2.1⟩; obtain ⟨z0, z1⟩ : w4.frozen? ⟨rb, 0, none⟩ = false ∧ w4.frozen? ⟨rb, 1, none⟩ = false := ⟨V4.out.keepF HF2.out.1 HF2.out.2.2.1, V4.out.keepF HF2.out.2.1 HF2.out.2.2.2⟩))
              have hlen := fun ty => HLen.out _ U4.out ty
              have t0 := U4.out.keep HTb.out
              go_wp2_with (first | (go_at_call 27; refine (HHi.out _ U4.out).mono ?_; rintro e w5 ⟨rfl, u5⟩; have U5 := hid (U4.out.trans u5); have V5 := hid (V4.out.trans u5); clear u5 y0 y1 z0 z1; obtain ⟨y0, y1⟩ : w5.cell? ⟨rb, 0, none⟩ = some (.int .i64 0) ∧ w5.cell? ⟨rb, 1, none⟩ = some (.int .i64 0) := ⟨V5.out.keep HF2.out.1, V5.out.keep HF2.out.2.1⟩; obtain ⟨z0, z1⟩ : w5.frozen? ⟨rb, 0, none⟩ = false ∧ w5.frozen? ⟨rb, 1, none⟩ = false := ⟨V5.out.keepF HF2.out.1 HF2.out.2.2.1, V5.out.keepF HF2.out.2.1 HF2.out.2.2.2⟩))
              refine bodyPost_ret (v := .tuple #[.agg #[.int .i64 0, .int .i64 0], .int .i64 0]) (by simp [results, Try.results11, go_sem, y0, y1]) rfl ⟨by rw [HV.out, HC.out], ?_⟩
              exact (U5.out.setCell (p := ⟨rb, 0, none⟩) HRb.out _).setCell (p := ⟨rb, 1, none⟩) HRb.out _
        · simp only [Bool.not_true, Bool.false_and, Bool.false_eq_true, if_false] at HC
          by_cases hg : q ≤ hi - 8
          · rw [if_pos hg] at HC
            go_upto_region 7 with (first | (go_at_call_of 24 (Value.int .i64 s); have _t := tok1; clear tok1 _t; refine (HOs.out _).mono ?_; rintro e w3 ⟨rfl, u3⟩; have U3 := hid (U2.out.trans u3); have V3 := hid u3; clear u3 y0 y1 z0 z1; obtain ⟨y0, y1⟩ : w3.cell? ⟨rb, 0, none⟩ = some (.int .i64 0) ∧ w3.cell? ⟨rb, 1, none⟩ = some (.int .i64 0) := ⟨V3.out.keep HF2.out.1, V3.out.keep HF2.out.2.1⟩; obtain ⟨z0, z1⟩ : w3.frozen? ⟨rb, 0, none⟩ = false ∧ w3.frozen? ⟨rb, 1, none⟩ = false := ⟨V3.out.keepF HF2.out.1 HF2.out.2.2.1, V3.out.keepF HF2.out.2.1 HF2.out.2.2.2⟩) | (go_at_call_of 24 (Value.int .i64 q); refine (HOq.out _).mono ?_; rintro e w4 ⟨rfl, u4⟩; have U4 := hid (U3.out.trans u4); have V4 := hid (V3.out.trans u4); clear u4 y0 y1 z0 z1; obtain ⟨y0, y1⟩ : w4.cell? ⟨rb, 0, none⟩ = some (.int .i64 0) ∧ w4.cell? ⟨rb, 1, none⟩ = some (.int .i64 0) := ⟨V4.out.keep HF2.out.1, V4.out.keep HF2.out.2.1⟩; obtain ⟨z0, z1⟩ : w4.frozen? ⟨rb, 0, none⟩ = false ∧ w4.frozen? ⟨rb, 1, none⟩ = false := ⟨V4.out.keepF HF2.out.1 HF2.out.2.2.1, V4.out.keepF HF2.out.2.1 HF2.out.2.2.2⟩))
            go_wp2_with (first | (go_at_call 27; refine (HHi.out _ U4.out).mono ?_; rintro e w5 ⟨rfl, u5⟩; have U5 := hid (U4.out.trans u5); have V5 := hid (V4.out.trans u5); clear u5 y0 y1 z0 z1; obtain ⟨y0, y1⟩ : w5.cell? ⟨rb, 0, none⟩ = some (.int .i64 0) ∧ w5.cell? ⟨rb, 1, none⟩ = some (.int .i64 0) := ⟨V5.out.keep HF2.out.1, V5.out.keep HF2.out.2.1⟩; obtain ⟨z0, z1⟩ : w5.frozen? ⟨rb, 0, none⟩ = false ∧ w5.frozen? ⟨rb, 1, none⟩ = false := ⟨V5.out.keepF HF2.out.1 HF2.out.2.2.1, V5.out.keepF HF2.out.2.1 HF2.out.2.2.2⟩))
            refine bodyPost_ret (v := .tuple #[.agg #[.int .i64 0, .int .i64 0], .int .i64 130]) (by simp [results, Try.results11, go_sem, y0, y1]) rfl ⟨by rw [HV.out, HC.out], ?_⟩
            exact (U5.out.setCell (p := ⟨rb, 0, none⟩) HRb.out _).setCell (p := ⟨rb, 1, none⟩) HRb.out _
          · rw [if_neg hg] at HC
            go_upto_region 7 with (first | (go_at_call_of 24 (Value.int .i64 s); have _t := tok1; clear tok1 _t; refine (HOs.out _).mono ?_; rintro e w3 ⟨rfl, u3⟩; have U3 := hid (U2.out.trans u3); have V3 := hid u3; clear u3 y0 y1 z0 z1; obtain ⟨y0, y1⟩ : w3.cell? ⟨rb, 0, none⟩ = some (.int .i64 0) ∧ w3.cell? ⟨rb, 1, none⟩ = some (.int .i64 0) := ⟨V3.out.keep HF2.out.1, V3.out.keep HF2.out.2.1⟩; obtain ⟨z0, z1⟩ : w3.frozen? ⟨rb, 0, none⟩ = false ∧ w3.frozen? ⟨rb, 1, none⟩ = false := ⟨V3.out.keepF HF2.out.1 HF2.out.2.2.1, V3.out.keepF HF2.out.2.1 HF2.out.2.2.2⟩) | (go_at_call_of 24 (Value.int .i64 q); refine (HOq.out _).mono ?_; rintro e w4 ⟨rfl, u4⟩; have U4 := hid (U3.out.trans u4); have V4 := hid (V3.out.trans u4); clear u4 y0 y1 z0 z1; obtain ⟨y0, y1⟩ : w4.cell? ⟨rb, 0, none⟩ = some (.int .i64 0) ∧ w4.cell? ⟨rb, 1, none⟩ = some (.int .i64 0) := ⟨V4.out.keep HF2.out.1, V4.out.keep HF2.out.2.1⟩; obtain ⟨z0, z1⟩ : w4.frozen? ⟨rb, 0, none⟩ = false ∧ w4.frozen? ⟨rb, 1, none⟩ = false := ⟨V4.out.keepF HF2.out.1 HF2.out.2.2.1, V4.out.keepF HF2.out.2.1 HF2.out.2.2.2⟩))
            go_wp2_with (first | (go_at_call 27; refine (HHi.out _ U4.out).mono ?_; rintro e w5 ⟨rfl, u5⟩; have U5 := hid (U4.out.trans u5); have V5 := hid (V4.out.trans u5); clear u5 y0 y1 z0 z1; obtain ⟨y0, y1⟩ : w5.cell? ⟨rb, 0, none⟩ = some (.int .i64 0) ∧ w5.cell? ⟨rb, 1, none⟩ = some (.int .i64 0) := ⟨V5.out.keep HF2.out.1, V5.out.keep HF2.out.2.1⟩; obtain ⟨z0, z1⟩ : w5.frozen? ⟨rb, 0, none⟩ = false ∧ w5.frozen? ⟨rb, 1, none⟩ = false := ⟨V5.out.keepF HF2.out.1 HF2.out.2.2.1, V5.out.keepF HF2.out.2.1 HF2.out.2.2.2⟩))
            refine bodyPost_ret (v := .tuple #[.agg #[.int .i64 0, .int .i64 0], .int .i64 0]) (by simp [results, Try.results11, go_sem, y0, y1]) rfl ⟨by rw [HV.out, HC.out], ?_⟩
            exact (U5.out.setCell (p := ⟨rb, 0, none⟩) HRb.out _).setCell (p := ⟨rb, 1, none⟩) HRb.out _
      · simp only [Bool.false_or, if_true] at HC
        go_wp2_with (first | (go_at_call_of 24 (Value.int .i64 s); have _t := tok1; clear tok1 _t; refine (HOs.out _).mono ?_; rintro e w3 ⟨rfl, u3⟩; have U3 := hid (U2.out.trans u3); have V3 := hid u3; clear u3 y0 y1 z0 z1; obtain ⟨y0, y1⟩ : w3.cell? ⟨rb, 0, none⟩ = some (.int .i64 0) ∧ w3.cell? ⟨rb, 1, none⟩ = some (.int .i64 0) := ⟨V3.out.keep HF2.out.1, V3.out.keep HF2.out.2.1⟩; obtain ⟨z0, z1⟩ : w3.frozen? ⟨rb, 0, none⟩ = false ∧ w3.frozen? ⟨rb, 1, none⟩ = false := ⟨V3.out.keepF HF2.out.1 HF2.out.2.2.1, V3.out.keepF HF2.out.2.1 HF2.out.2.2.2⟩) | (go_at_call_of 24 (Value.int .i64 q); refine (HOq.out _).mono ?_; rintro e w4 ⟨rfl, u4⟩; have U4 := hid (U3.out.trans u4); have V4 := hid (V3.out.trans u4); clear u4 y0 y1 z0 z1; obtain ⟨y0, y1⟩ : w4.cell? ⟨rb, 0, none⟩ = some (.int .i64 0) ∧ w4.cell? ⟨rb, 1, none⟩ = some (.int .i64 0) := ⟨V4.out.keep HF2.out.1, V4.out.keep HF2.out.2.1⟩; obtain ⟨z0, z1⟩ : w4.frozen? ⟨rb, 0, none⟩ = false ∧ w4.frozen? ⟨rb, 1, none⟩ = false := ⟨V4.out.keepF HF2.out.1 HF2.out.2.2.1, V4.out.keepF HF2.out.2.1 HF2.out.2.2.2⟩))
        refine bodyPost_ret (v := .tuple #[.agg #[.int .i64 0, .int .i64 0], .int .i64 43]) (by simp [results, Try.results11, go_sem, y0, y1]) rfl ⟨by rw [HV.out, HC.out], ?_⟩
        exact (U4.out.setCell (p := ⟨rb, 0, none⟩) HRb.out _).setCell (p := ⟨rb, 1, none⟩) HRb.out _
    · simp only [Bool.true_or, if_true] at HC
      go_wp2_with (first | (go_at_call_of 24 (Value.int .i64 s); have _t := tok1; clear tok1 _t; refine (HOs.out _).mono ?_; rintro e w3 ⟨rfl, u3⟩; have U3 := hid (U2.out.trans u3); have V3 := hid u3; clear u3 y0 y1 z0 z1; obtain ⟨y0, y1⟩ : w3.cell? ⟨rb, 0, none⟩ = some (.int .i64 0) ∧ w3.cell? ⟨rb, 1, none⟩ = some (.int .i64 0) := ⟨V3.out.keep HF2.out.1, V3.out.keep HF2.out.2.1⟩; obtain ⟨z0, z1⟩ : w3.frozen? ⟨rb, 0, none⟩ = false ∧ w3.frozen? ⟨rb, 1, none⟩ = false := ⟨V3.out.keepF HF2.out.1 HF2.out.2.2.1, V3.out.keepF HF2.out.2.1 HF2.out.2.2.2⟩))
      refine bodyPost_ret (v := .tuple #[.agg #[.int .i64 0, .int .i64 0], .int .i64 43]) (by simp [results, Try.results11, go_sem, y0, y1]) rfl ⟨by rw [HV.out, HC.out], ?_⟩
      exact (U3.out.setCell (p := ⟨rb, 0, none⟩) HRb.out _).setCell (p := ⟨rb, 1, none⟩) HRb.out _
  · have hp := HFd.out hfo
    rw [hfo] at HV HC
    simp only [if_true] at HV HC
    obtain ⟨g, cap, ev, _, _, hc, _⟩ := HRow.out.shape (by omega)
    subst ev
    obtain ⟨x0, x1, x2⟩ := (hc _ hp).old U2.out
    clear hc hfo HFd HRow
    generalize posS q R = pp at *
    have l1 : (0 : Int) ≤ (pp : Int) := by omega
    have l2 : (pp : Int) < (R.length : Int) := by omega
    generalize atI R pp = x at *
    go_wp2
    refine bodyPost_ret (v := .tuple #[.agg #[.int .i64 x.c, .int .i64 x.m], .int .i64 5]) (by simp [results, Try.results11, go_sem, y0, y1]) rfl ⟨by rw [HV.out, HC.out], ?_⟩
    exact (U2.out.setCell (p := ⟨rb, 0, none⟩) HRb.out _).setCell (p := ⟨rb, 1, none⟩) HRb.out _
end Go.Proofs.Ytefffjlcfghniaa
