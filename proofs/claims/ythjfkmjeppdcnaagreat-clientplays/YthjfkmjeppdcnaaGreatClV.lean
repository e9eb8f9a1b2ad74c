/- client.New at every row of members; quilletref01.SameNums at equal rows; conditions: the row lies in memory. -/
import Derived.Test.YthjfkmjeppdcnaaGreatClU
import Derived.Carry
namespace Go.Proofs.YthjfkmjeppdcnaaGreat
open Go.RowKit Go.Lib
set_option linter.unusedVariables false
set_option linter.unusedSimpArgs false
set_option maxRecDepth 20000
attribute [local go_sem] run_bits run_frombits run_store_float eqF
def amL (f : Nat → Int) (n : Nat) : Nat → List Int
 | 0 => []
 | k + 1 => amL f n k ++ (if Ci.hasK f ((k : Int) + 1) n = true then [(k : Int) + 1] else [])
def msL (f : Nat → Int) (n : Nat) : List Int := if amL f n 7 = [] then [1] else amL f n 7
theorem amL_len (f : Nat → Int) (n : Nat) : ∀ k, (amL f n k).length ≤ k
 | 0 => Nat.le_refl _
 | k + 1 => by
  have := amL_len f n k
  unfold amL
  split <;> simp <;> omega
theorem amL_rng (f : Nat → Int) (n : Nat) : ∀ k, ∀ x ∈ amL f n k, 1 ≤ x ∧ x ≤ k
 | 0, x, h => by cases h
 | k + 1, x, h => by
  unfold amL at h
  rcases List.mem_append.1 h with q | q
  ·have := amL_rng f n k x q; omega
  ·split at q
   ·simp at q; omega
   ·cases q
theorem amL_up (f : Nat → Int) (n : Nat) : ∀ k, (amL f n k).Pairwise (· < ·)
 | 0 => List.Pairwise.nil
 | k + 1 => by
  unfold amL
  refine List.pairwise_append.2 ⟨amL_up f n k, ?_, fun a ha b hb => ?_⟩
  ·split <;> simp
  ·have := amL_rng f n k a ha
   split at hb
   ·simp at hb; omega
   ·cases hb
theorem OwnI.one {base g : Nat} {w : World} (hb : base ≤ w.heap.size) (hg : w.heap.size = g) (y : Int) : Ci.OwnI base (w.alloc (.cells #[.int .i64 y] 3)) (.slice (some ⟨g, 0, none⟩) 1 1) [y] := by
 subst hg
 exact ⟨rfl, .inr ⟨w.heap.size, 1, #[.int .i64 y], rfl, hb, alloc_at w _, Nat.le_refl _, by unfold maxLen; omega, rfl, rfl⟩⟩
theorem OwnI.nil (base : Nat) (w : World) : Ci.OwnI base w (.slice none 0 0) [] := World.ownsRow_nil w base _ 1
set_option maxHeartbeats 2000000 in
theorem among_any (v : Value) (n : Nat) (f : Nat → Int) (w : World) (h : Ci.NRowL w v n f) :
    Calls Tryz.prog 19 #[v] w fun e w' => ∃ v', e = .returned v' ∧ Ci.OwnI w.heap.size w' v' (msL f n) ∧ Old w w' := by
 have HCo := hid (fun (x : Int) (W : World) (u : Old w W) => Ci.contains_any v n f x W (h.old u))
 have HN := hid (OwnI.nil w.heap.size w)
 obtain ⟨_, p, c, rfl, _⟩ := h
 go_enter Tryz.func19, Tryz.ntmps19
 go_wp2
 go_loopw [3, 4] (fun vv i wx => ∃ k : Nat, k ≤ 7 ∧ i = .int .i64 ((k : Nat) + 1) ∧ Hid (Ci.OwnI w.heap.size wx vv (amL f n k) ∧ Old w wx)) (fun _ i _ => 9 - (intOf i).toNat)
 case atStart => exact ⟨0, Nat.zero_le _, rfl, hid ⟨HN.out, Old.refl _⟩⟩
 case round =>
  clear HN
  obtain ⟨k, hk, rfl, HI⟩ := hrel
  obtain ⟨va, vc, hvv⟩ := HI.out.1.len
  have HL := hid (amL_len f n k)
  obtain ⟨ln, hln⟩ : ∃ ln, (amL f n k).length = ln := ⟨_, rfl⟩
  rw [hln] at hvv HL
  subst hvv
  have HLn := hid hln
  clear hln
  have hkk : k < 7 ∨ k = 7 := by omega
  rcases hkk with hlt | rfl
  ·have d1 : decide ((k : Int) + 1 ≤ 7) = true := by simp; omega
   have w1 : IntKind.i64.wrap ((k : Int) + 1 + 1) = (k : Int) + 1 + 1 := IntWalk.i64_in _ (by omega)
   cases hh : Ci.hasK f ((k : Int) + 1) n
   ·have HC := hid (fun (W : World) (u : Old w W) => by have q := HCo.out ((k : Int) + 1) W u; rw [hh] at q; exact q)
    have HS := hid (show amL f n (k + 1) = amL f n k from by show amL f n k ++ (if Ci.hasK f ((k : Int) + 1) n = true then [(k : Int) + 1] else []) = _; rw [hh]; simp)
    clear hh HCo
    go_wp2_with (go_at_call 31; refine (HC.out _ HI.out.2).mono ?_; rintro e w2 ⟨rfl, u⟩; have U2 := hid u; clear u)
    go_roundw
    case rel => exact ⟨k + 1, hlt, by go_num, hid ⟨by rw [HS.out]; exact HI.out.1.up U2.out, HI.out.2.trans U2.out⟩⟩
    case measure => simp [intOf]; omega
   ·have HC := hid (fun (W : World) (u : Old w W) => by have q := HCo.out ((k : Int) + 1) W u; rw [hh] at q; exact q)
    have HS := hid (show amL f n (k + 1) = amL f n k ++ [(k : Int) + 1] from by show amL f n k ++ (if Ci.hasK f ((k : Int) + 1) n = true then [(k : Int) + 1] else []) = _; rw [hh, if_pos rfl])
    clear hh HCo
    go_upto_region 6 with (go_at_call 31; refine (HC.out _ HI.out.2).mono ?_; rintro e w2 ⟨rfl, u⟩; have U2 := hid u; clear u)
    have U3 := hid (HI.out.2.trans (U2.out.trans ((Old.refl w2).alloc (.cells #[.int .i64 ((k : Int) + 1)] 3))))
    have O3 := hid (HI.out.1.up (U2.out.trans ((Old.refl w2).alloc (.cells #[.int .i64 ((k : Int) + 1)] 3))))
    have hc := Ci.cell_oneI w2 ((k : Int) + 1) _ rfl
    rw [← HLn.out] at *
    go_wp2_with (at_builtin; refine Ci.wp_appI rfl _ _ rfl w.heap.size _ (amL f n k) _ _ ((k : Int) + 1) rfl rfl O3.out hc (by have := amL_len f n k; omega) U3.out.size ?_; intro v' w4 h1 h2 h3; have O4 := hid h1; have U4 := hid (Old.below U3.out (Below.grown (Below.refl _ _) h2 U3.out.size (fun g e => (World.ownsRow.lt O3.out g e).1))); clear h1 h2 h3)
    go_roundw
    case rel => exact ⟨k + 1, hlt, by go_num, hid ⟨by rw [HS.out]; exact O4.out, U4.out⟩⟩
    case measure => simp [intOf]; omega
  ·clear HCo
   by_cases hz : ln = 0
   ·subst hz
    have HM := hid (show msL f n = [1] from by unfold msL; rw [if_pos (List.eq_nil_of_length_eq_zero HLn.out)])
    go_wp2
    go_ret
    refine ⟨_, rfl, ?_, HI.out.2.trans ((Old.refl wr).alloc _)⟩
    rw [HM.out]
    exact OwnI.one HI.out.2.size rfl 1
   ·have d2 : ((ln : Int) == 0) = false := by simp; exact hz
    have HM := hid (show msL f n = amL f n 7 from by unfold msL; rw [if_neg (fun e => hz (by rw [← HLn.out, e]; rfl))])
    clear hz
    go_wp2
    go_ret
    exact ⟨_, rfl, by rw [HM.out]; exact HI.out.1, HI.out.2⟩
def newC (ss : Int) (f : Nat → Int) (n : Nat) : Cs := ⟨ss, msL f n, 0, 0, [], []⟩
theorem newC_ok (ss : Int) (f : Nat → Int) (n : Nat) : CsOk (newC ss f n) := by
 have h1 := amL_len f n 7
 have h2 := amL_rng f n 7
 have h3 := amL_up f n 7
 have : (newC ss f n).ms = msL f n := rfl
 refine ⟨?_, ?_, ?_, ?_, ⟨Int.le_refl 0, by show (0 : Int) ≤ 1099511627776; decide⟩, List.Pairwise.nil, (fun p q => nomatch q), (fun p q => nomatch q), (fun p q => nomatch q), rfl⟩
 ·rw [this]; unfold msL
  split
  ·simp
  ·rename_i q
   have := List.length_pos_iff.2 q
   omega
 ·rw [this]; unfold msL
  split
  ·simp
  ·intro m hm; have := h2 m hm; omega
 ·rw [this]; unfold msL
  split
  ·simp
  ·exact h3
 ·show 0 < (msL f n).length
  unfold msL
  split
  ·simp
  ·rename_i q
   exact List.length_pos_iff.2 q
set_option maxHeartbeats 1000000 in
theorem newK_any (ss : Int) (v : Value) (n : Nat) (f : Nat → Int) (w : World) (h : Ci.NRowL w v n f) :
    Calls Tryz.prog 6 #[.int .i64 ss, v] w fun e w' => ∃ cb mb mv, e = .returned (.pointer (some ⟨cb, 0, none⟩)) ∧ ClAt w.heap.size cb mb mv (.slice none 0 0) (newC ss f n) w' ∧ Old w w' := by
 have HAm := hid (among_any v n f w h)
 have hmm := @run_makeMap Tryz.prog
 clear h
 go_enter Tryz.func6, Tryz.ntmps6
 go_wp2_with (go_at_call 19; refine HAm.out.mono ?_; rintro e w1 ⟨mv, rfl, o, u⟩; have O1 := hid o; have U1 := hid u; obtain ⟨ma, mc, hmv⟩ := o.len; generalize (msL f n).length = mn at hmv; subst hmv; clear o u)
 go_ret
 have hl : ∀ g, (Value.slice ma mn mc).ownBlock = some g → g < w1.heap.size := fun g e => (World.ownsRow.lt O1.out g e).2
 have hb := U1.out.size
 refine ⟨w1.heap.size + 1, w1.heap.size, .slice ma mn mc, rfl, ⟨?_, ?_, ?_, OwnR.nil _ _, (fun p q => nomatch q), (fun p q => nomatch q), ⟨by omega, hb⟩, by omega, fun e => ?_, fun e => ?_, (fun e => nomatch e), (fun e => nomatch e), (fun g e => nomatch e)⟩, (U1.out.alloc _).alloc _⟩
 ·have := alloc_at (w1.alloc (.map #[] 0)) (.cells #[.int .i64 ss, .slice ma mn mc, .int .i64 0, .int .i64 0, .map (some w1.heap.size), .slice none 0 0] 70)
  simpa [newC] using this
 ·exact ⟨#[], 0, ((Old.refl _).alloc _).block (alloc_at w1 _), ⟨by simp, by simp, by simp⟩, rfl, (fun p hp => by cases hp)⟩
 ·exact O1.out.up (((Old.refl w1).alloc _).alloc _)
 ·have := hl _ e; omega
 ·have := hl _ e; omega
end Go.Proofs.YthjfkmjeppdcnaaGreat
namespace Go.Proofs.YthjfkmjeppdcnaaGreat
open Go.RowKit Go.Lib
set_option linter.unusedVariables false
set_option linter.unusedSimpArgs false
set_option maxRecDepth 20000
theorem lsO_le {s : Cs} (h : CsOk s) : ∀ p ∈ s.op, lsO s.op ≤ p.1 := by
 intro p hp
 cases e : s.op with
 | nil => rw [e] at hp; cases hp
 | cons a t =>
  have hu := h.up
  rw [e] at hu hp
  rcases List.mem_cons.1 hp with q | q
  ·rw [q]; exact Int.le_refl _
  ·have := (List.pairwise_cons.1 (show (a.1 :: t.map (·.1)).Pairwise (· < ·) from hu)).1 p.1 (List.mem_map.2 ⟨p, q, rfl⟩)
   show a.1 ≤ p.1
   omega
theorem addK_zero {s : Cs} {x : Sb} (h : addK s x = 0) : canK (aSb s x) = 0 ∧ ¬ (0 < s.op.length ∧ 8 ≤ s.la + 1 - lsO s.op) := by
 unfold addK at h
 split at h
 ·exact absurd h (by decide)
 ·rename_i q
  exact ⟨h, q⟩
theorem addC_ok {s : Cs} {x : Sb} (h : CsOk s) (hw : x.Ws) (hz : addK s x = 0) (p1 p2 p3 : Option Addr) (q1 q2 q3 : Nat) : CsOk (addC s (mkC (aSb s x) p1 p2 p3 q1 q2 q3)) := by
 obtain ⟨hk, hb⟩ := addK_zero hz
 have hr := mis_rng (canC_parts hk).1
 have hla := h.la
 have e2 : (aSb s x).s2 = s.la + 1 := rfl
 rw [e2] at hr
 have hn : ∀ p ∈ s.op, s.la + 1 - p.1 < 8 := fun p hp => by
  have := lsO_le h p hp
  have := List.length_pos_of_mem hp
  omega
 have mem : ∀ {p : Int × Sb}, p ∈ (addC s (mkC (aSb s x) p1 p2 p3 q1 q2 q3)).op → p ∈ s.op ∨ p = (s.la + 1, mkC (aSb s x) p1 p2 p3 q1 q2 q3) := fun hp => by
  rcases List.mem_append.1 hp with q | q
  ·exact .inl q
  ·exact .inr (by simpa using q)
 refine ⟨h.m1, h.mr, h.mu, h.tg, ⟨by show 0 ≤ s.la + 1; omega, by show s.la + 1 ≤ _; omega⟩, ?_, fun p hp => ?_, fun p hp q hq => ?_, fun p hp => ?_, ?_⟩
 ·show ((s.op ++ [(s.la + 1, mkC (aSb s x) p1 p2 p3 q1 q2 q3)]).map (·.1)).Pairwise (· < ·)
  rw [List.map_append]
  refine List.pairwise_append.2 ⟨h.up, by simp, fun a ha b hb' => ?_⟩
  obtain ⟨p, hp, rfl⟩ := List.mem_map.1 ha
  have := h.rg p hp
  simp at hb'
  omega
 ·show 1 ≤ p.1 ∧ p.1 ≤ s.la + 1
  rcases mem hp with q | q
  ·have := h.rg p q; omega
  ·subst q; dsimp only; omega
 ·rcases mem hp with y | y
  ·rcases mem hq with z | z
   ·exact h.wd p y q z
   ·subst z; exact hn p y
  ·rcases mem hq with z | z
   ·have := h.rg q z; subst y; dsimp only; omega
   ·subst y z; dsimp only; omega
 ·rcases mem hp with q | q
  ·exact h.ck p q
  ·subst q
   exact mk_chk (aSb s x) hw hk _ _ _ _ _ _
 ·have := h.ct
  show (s.rs.length : Int) + (s.op ++ [_]).length = s.la + 1
  simp only [List.length_append, List.length_cons, List.length_nil]
  omega
theorem filter_len : ∀ (L : List (Int × Sb)) (q : Int), (L.map (·.1)).Pairwise (· < ·) → (∃ p ∈ L, p.1 = q) → (L.filter fun p => decide (p.1 ≠ q)).length + 1 = L.length
 | [], q, _, h => by obtain ⟨p, hp, _⟩ := h; cases hp
 | a :: t, q, hu, h => by
  have h1 := List.pairwise_cons.1 (show (a.1 :: t.map (·.1)).Pairwise (· < ·) from hu)
  by_cases e : a.1 = q
  ·rw [List.filter_cons_of_neg (by simp [e])]
   have : t.filter (fun p => decide (p.1 ≠ q)) = t := List.filter_eq_self.2 fun p hp => by
    have := h1.1 p.1 (List.mem_map.2 ⟨p, hp, rfl⟩)
    exact decide_eq_true (by omega)
   rw [this]
   rfl
  ·rw [List.filter_cons_of_pos (by simp [e])]
   have := filter_len t q h1.2 (by
    obtain ⟨p, hp, k⟩ := h
    rcases List.mem_cons.1 hp with z | z
    ·subst z; exact absurd k e
    ·exact ⟨p, z, k⟩)
   simp only [List.length_cons]
   omega
theorem setTg_ok {s : Cs} (h : CsOk s) {k : Nat} (hk : k < s.ms.length) : CsOk { s with tg := k } := ⟨h.m1, h.mr, h.mu, hk, h.la, h.up, h.rg, h.wd, h.ck, h.ct⟩
theorem heardC_ok {s : Cs} (h : CsOk s) (q vc vn e : Int) (k : Nat) : CsOk (heardC s q vc vn e k) := by
 unfold heardC
 split
 ·exact h
 ·rename_i hn
  have hex : ∃ p ∈ s.op, p.1 = q := by
   apply Classical.byContradiction
   intro c
   exact hn fun p hp e => c ⟨p, hp, e⟩
  split
  ·have hl := filter_len s.op q h.up hex
   have hct := h.ct
   have sub : ∀ {p : Int × Sb}, p ∈ s.op.filter (fun p => decide (p.1 ≠ q)) → p ∈ s.op := fun hp => (List.mem_filter.1 hp).1
   refine ⟨h.m1, h.mr, h.mu, h.tg, h.la, ?_, fun p hp => h.rg p (sub hp), fun p hp y hy => h.wd p (sub hp) y (sub hy), fun p hp => h.ck p (sub hp), ?_⟩
   ·exact h.up.sublist ((List.filter_sublist).map _)
   ·show ((s.rs ++ [_]).length : Int) + (s.op.filter _).length = s.la
    simp only [List.length_append, List.length_cons, List.length_nil]
    omega
  ·split
   ·rename_i hh
    exact setTg_ok h hh.2
   ·split
    ·exact h
    ·exact setTg_ok h (Nat.mod_lt _ (by have := h.m1; omega))
def nums (s : Cs) : List Int := s.op.map (·.1) ++ s.rs.map (·.1)
structure Each (s : Cs) : Prop where
 r : ∀ n ∈ nums s, 1 ≤ n ∧ n ≤ s.la
 c : ∀ n, 1 ≤ n → n ≤ s.la → (nums s).count n = 1
theorem Each.new (ss : Int) (f : Nat → Int) (n : Nat) : Each (newC ss f n) := ⟨(fun n q => nomatch q), fun n h1 h2 => by have : (newC ss f n.toNat).la = 0 := rfl; have h2' : n ≤ 0 := h2; omega⟩
theorem Each.setTg {s : Cs} (h : Each s) (k : Nat) : Each { s with tg := k } := ⟨h.r, h.c⟩
theorem Each.add {s : Cs} (h : Each s) (hla : 0 ≤ s.la) (c : Sb) : Each (addC s c) := by
 have e : ∀ n, (nums (addC s c)).count n = (nums s).count n + (if s.la + 1 = n then 1 else 0) := fun n => by
  unfold nums addC
  simp only [List.map_append, List.map_cons, List.map_nil, List.count_append, List.count_cons, List.count_nil]
  by_cases q : s.la + 1 = n
  ·simp [q]; omega
  ·simp [q]
 refine ⟨fun n hn => ?_, fun n h1 h2 => ?_⟩
 ·show 1 ≤ n ∧ n ≤ s.la + 1
  have : 0 < (nums (addC s c)).count n := List.count_pos_iff.2 hn
  rw [e] at this
  by_cases q : s.la + 1 = n
  ·omega
  ·rw [if_neg q] at this
   have := h.r n (List.count_pos_iff.1 (by omega))
   omega
 ·have h2' : n ≤ s.la + 1 := h2
  rw [e]
  by_cases q : s.la + 1 = n
  ·rw [if_pos q]
   have : (nums s).count n = 0 := List.count_eq_zero.2 fun z => by have := h.r n z; omega
   omega
  ·rw [if_neg q]
   have := h.c n h1 (by omega)
   omega
theorem count_filter (L : List (Int × Sb)) (q n : Int) : ((L.filter fun p => decide (p.1 ≠ q)).map (·.1)).count n = if n = q then 0 else (L.map (·.1)).count n := by
 induction L with
 | nil => simp
 | cons a t ih =>
  by_cases e : a.1 = q
  ·rw [List.filter_cons_of_neg (by simp [e]), ih, List.map_cons, List.count_cons]
   by_cases k : n = q
   ·rw [if_pos k, if_pos k]
   ·rw [if_neg k, if_neg k]
    have : ¬ (a.1 == n) = true := by simp; omega
    rw [if_neg this]
    omega
  ·rw [List.filter_cons_of_pos (by simp [e]), List.map_cons, List.count_cons, ih, List.map_cons, List.count_cons]
   by_cases k : n = q
   ·rw [if_pos k, if_pos k]
    have : ¬ (a.1 == n) = true := by simp; omega
    rw [if_neg this]
   ·rw [if_neg k, if_neg k]
theorem Each.heard {s : Cs} (h : Each s) (hok : CsOk s) (q vc vn e : Int) (k : Nat) : Each (heardC s q vc vn e k) := by
 unfold heardC
 split
 ·exact h
 ·rename_i hn
  have hex : ∃ p ∈ s.op, p.1 = q := by
   apply Classical.byContradiction
   intro c
   exact hn fun p hp e => c ⟨p, hp, e⟩
  split
  ·obtain ⟨p0, hp0, hq⟩ := hex
   have hr := hok.rg p0 hp0
   have hin : 0 < (s.op.map (·.1)).count q := List.count_pos_iff.2 (List.mem_map.2 ⟨p0, hp0, hq⟩)
   have e1 : ∀ n, (nums { s with op := s.op.filter fun p => decide (p.1 ≠ q), rs := s.rs ++ [(q, vc, vn)] }).count n = if n = q then (s.rs.map (·.1)).count q + 1 else (nums s).count n := fun n => by
    unfold nums
    simp only [List.map_append, List.map_cons, List.map_nil, List.count_append, List.count_cons, List.count_nil]
    rw [count_filter]
    by_cases z : n = q
    ·subst z; simp
    ·have : ¬ (q == n) = true := by simp; omega
     rw [if_neg z, if_neg z, if_neg this]
     omega
   have cq := h.c q (by omega) (by omega)
   have cq' : (s.op.map (·.1)).count q + (s.rs.map (·.1)).count q = 1 := by rw [← List.count_append]; exact cq
   refine ⟨fun n hn => ?_, fun n h1 h2 => ?_⟩
   ·show 1 ≤ n ∧ n ≤ s.la
    have : 0 < _ := List.count_pos_iff.2 hn
    rw [e1] at this
    by_cases z : n = q
    ·omega
    ·rw [if_neg z] at this
     exact h.r n (List.count_pos_iff.1 this)
   ·rw [e1]
    by_cases z : n = q
    ·rw [if_pos z]; omega
    ·rw [if_neg z]; exact h.c n h1 h2
  ·split
   ·exact h.setTg _
   ·split
    ·exact h
    ·exact h.setTg _
theorem tgt_mem {s : Cs} (h : CsOk s) : tgt s ∈ s.ms := by
 unfold tgt
 rw [List.getD_eq_getElem?_getD, List.getElem?_eq_getElem h.tg]
 exact List.getElem_mem h.tg
end Go.Proofs.YthjfkmjeppdcnaaGreat
namespace Go.Proofs.YthjfkmjeppdcnaaGreat
open Go.RowKit Go.Lib
set_option linter.unusedVariables false
set_option linter.unusedSimpArgs false
set_option maxRecDepth 20000
attribute [local go_sem] run_bits run_frombits run_store_float eqF
def NRow (w : World) (v : Value) (L : List Int) : Prop := L.length ≤ 1099511627776 ∧ ∃ (p : Option Addr) (c : Nat), v = .slice p L.length c ∧ ∀ i, i < L.length → ∃ g off, p = some ⟨g, off, none⟩ ∧ w.cell? ⟨g, off + i, none⟩ = some (.int .i64 (L.getD i 0))
theorem NRow.old {w w' : World} {v : Value} {L : List Int} (h : NRow w v L) (u : Old w w') : NRow w' v L := by
 obtain ⟨hm, p, c, e, hc⟩ := h
 exact ⟨hm, p, c, e, fun i hi => by obtain ⟨g, off, e2, h3⟩ := hc i hi; exact ⟨g, off, e2, u.keep h3⟩⟩
theorem OwnN.nrow {base : Nat} {w : World} {v : Value} {L : List Int} (h : OwnN base w v L) (hl : L.length ≤ 1000000) : NRow w v L := by
 have h2 := h
 unfold OwnN at h2
 rcases h2.2 with ⟨e1, e⟩ | ⟨g, cap, cur, rfl, hb, hg, hnc, hcm, hcs, htk⟩
 ·exact ⟨by omega, none, 0, by rw [e1, e], fun i hi => by omega⟩
 ·refine ⟨by omega, _, cap, rfl, fun i hi => ⟨g, 0, rfl, ?_⟩⟩
  rw [Nat.zero_add, h2.cellAt i (by omega)]
  simp [ils, List.getD_eq_getElem?_getD, hi]
theorem NRow.one (w : World) (x : Int) (w1 : World) (e : w.alloc (.cells #[.int .i64 x] 2) = w1) (m : Nat) (hm : w.heap.size = m) : NRow w1 (.slice (some ⟨m, 0, none⟩) 1 1) [x] ∧ Old w w1 := by
 subst e hm
 refine ⟨⟨by simp, _, 1, rfl, fun i hi => ⟨w.heap.size, 0, rfl, ?_⟩⟩, (Old.refl w).alloc _⟩
 match i, hi with
 | 0, _ => simp
set_option maxHeartbeats 1000000 in
theorem sameNums_eq (u v : Value) (L : List Int) (w : World) (hu : NRow w u L) (hv : NRow w v L) :
    Calls Tryz.prog 20 #[u, v] w fun e w' => e = .returned (.bool true) ∧ Old w w' := by
 obtain ⟨hm, p, c, rfl, hc⟩ := hu
 obtain ⟨_, p2, c2, rfl, hc2⟩ := hv
 have HX := hid hc
 have HY := hid hc2
 have hmm : (L.length : Int) ≤ 1099511627776 := by omega
 generalize L.length = n at *
 clear hc hc2
 go_enter Tryz.func20, Tryz.ntmps20
 go_wp2
 go_loopw [5] (fun i wx => ∃ k : Nat, k ≤ n ∧ i = .int .i64 k ∧ Old w wx) (fun i _ => n - (intOf i).toNat)
 case atStart => exact ⟨0, Nat.zero_le _, rfl, Old.refl _⟩
 case round =>
  obtain ⟨k, hk, rfl, hup⟩ := hrel
  by_cases hlt : k < n
  ·obtain ⟨b1, o1, e1, cx0⟩ := HX.out k hlt
   obtain ⟨b2, o2, e2, cy0⟩ := HY.out k hlt
   subst e1 e2
   have cx := hup.keep cx0
   have cy := hup.keep cy0
   have l1 : (0 : Int) ≤ (k : Int) := by omega
   have l2 : (k : Int) < (n : Int) := by omega
   generalize L.getD k 0 = x at *
   have t : (x != x) = false := by simp
   clear HX HY cx0 cy0
   go_wp2
   go_quiet (fail)
   go_wp2
   exact ⟨⟨k + 1, hlt, by go_num, hup.drewN _⟩, by simp [intOf]; omega⟩
  ·obtain rfl : n = k := by omega
   go_wp2
   go_ret
   exact ⟨rfl, hup⟩
theorem bytesS_pos (s1 s2 s3 : Int) (n1 n2 n3 : Nat) (x1 x3 : Nat → Nat) (f2 : Nat → Sp) (B : List Nat) (h1 : 1 ≤ s1) (h2 : s1 ≤ 1099511627776) : 0 < (bytesS s1 s2 s3 n1 n2 n3 x1 x3 f2 B).length := by
 unfold bytesS
 rw [List.length_append]
 have := (Pk.num_len s1 (by omega) (by omega)).1
 omega
theorem Sb.enc_pos (s : Sb) (h : s.chk = 0) : 0 < s.enc.length := by
 have hr := mis_rng (chk_parts (show chkV s.s1 s.s2 s.s3 s.n1 s.n2 s.n3 s.x1 s.x3 s.f2 = 0 from h)).1
 unfold Sb.enc
 rw [encS_bytes]
 exact bytesS_pos _ _ _ _ _ _ _ _ _ _ hr.1.1 hr.1.2
def oneW (b k : Nat) : Sb := ⟨0, 0, 0, none, none, some ⟨b, 0, none⟩, 0, 0, 1, 0, 0, 1, fun _ => 0, fun _ => k, fun _ => ⟨0, 0, false, false⟩⟩
theorem oneW_ok (w : World) (k : Nat) (hk : Fl.W k) : (oneW w.heap.size k).Ok (w.alloc (.cells #[.float .f64 k] 29)) := by
 refine ⟨⟨by show 0 ≤ _; omega, _, _, rfl, fun i hi => by have : i < 0 := hi; omega⟩, ⟨by show 0 ≤ _; omega, _, _, rfl, fun i hi => by have : i < 0 := hi; omega⟩, ⟨by show 1 ≤ _; omega, _, _, rfl, fun i hi => ⟨w.heap.size, 0, rfl, hk, ?_⟩⟩, by show 0 ≤ _; omega, by show 0 ≤ _; omega, by show 1 ≤ _; omega⟩
 obtain rfl : i = 0 := by have : i < 1 := hi; omega
 rw [Go.Joins.cell_of_block (alloc_at w _)]; rfl
def exF : Nat → Int := fun i => [1, 2, 3].getD i 0
theorem exF_row (w : World) : Ci.NRowL (w.alloc (.cells #[.int .i64 1, .int .i64 2, .int .i64 3] 3)) (.slice (some ⟨w.heap.size, 0, none⟩) 3 3) 3 exF := by
 refine ⟨by omega, _, 3, rfl, Nat.le_refl _, by omega, fun i hi => ⟨w.heap.size, 0, rfl, ?_⟩⟩
 rw [Go.Joins.cell_of_block (alloc_at w _)]
 match i, hi with
 | 0, _ => rfl
 | 1, _ => rfl
 | 2, _ => rfl
def ex0 : Cs := newC 1 exF 3
theorem ex0_eq : ex0 = ⟨1, [1, 2, 3], 0, 0, [], []⟩ := by kernel_rfl
theorem ex1_zero (b : Nat) : addK ex0 (oneW b 4607182418800017408) = 0 := by kernel_rfl
theorem ex2_zero (b : Nat) (c : Sb) : addK (addC ex0 c) (oneW b 4611686018427387904) = 0 := by kernel_rfl
theorem ex3_eq (c d : Sb) (k : Nat) : heardC (addC (addC ex0 c) d) 1 0 5 0 k = ⟨1, [1, 2, 3], 0, 2, [(2, d)], [(1, 0, 5)]⟩ := by kernel_rfl
theorem ex4_eq (d : Sb) : heardC ⟨1, [1, 2, 3], 0, 2, [(2, d)], [(1, 0, 5)]⟩ 2 0 0 180 2 = ⟨1, [1, 2, 3], 2, 2, [(2, d)], [(1, 0, 5)]⟩ := by kernel_rfl
theorem ex4_k (d : Sb) {k : Nat} (h : LdAt ⟨1, [1, 2, 3], 0, 2, [(2, d)], [(1, 0, 5)]⟩ 3 k) : k = 2 := by
 unfold LdAt at h
 simp only [List.length_cons, List.length_nil] at h
 rcases h with ⟨h1, h2⟩ | ⟨_, h2⟩
 ·match k, h1 with
  | 0, _ => simp at h2
  | 1, _ => simp at h2
  | 2, _ => rfl
 ·exact absurd rfl (h2 2 (by omega))
end Go.Proofs.YthjfkmjeppdcnaaGreat
namespace Go.Proofs.YthjfkmjeppdcnaaGreat
open Go.RowKit Go.Lib
set_option linter.unusedVariables false
set_option linter.unusedSimpArgs false
set_option maxRecDepth 20000
attribute [local go_sem] run_bits run_frombits run_store_float eqF
def KSt (w0 : World) (cb : Nat) (s : Cs) (w : World) : Prop := CsOk s ∧ Each s ∧ Old w0 w ∧ ∃ base mb mv rv, w0.heap.size ≤ base ∧ ClAt base cb mb mv rv s w
theorem KSt.old {w0 : World} {cb : Nat} {s : Cs} {w w' : World} (h : KSt w0 cb s w) (u : Old w w') : KSt w0 cb s w' := by
 obtain ⟨a, b, c, base, mb, mv, rv, d, e⟩ := h
 exact ⟨a, b, c.trans u, base, mb, mv, rv, d, e.old u⟩
theorem KSt.add {w0 : World} {cb : Nat} {s : Cs} {w : World} (h : KSt w0 cb s w) (x : Sb) (hx : x.Ok w) :
    Calls Tryz.prog 8 #[.pointer (some ⟨cb, 0, none⟩), .agg #[.int .i64 x.s1, .int .i64 x.s2, .int .i64 x.s3, .slice x.a1 x.n1 x.c1, .slice x.a2 x.n2 x.c2, .slice x.a3 x.n3 x.c3]] w fun e w' => (addK s x = 0 ∧ e = .returned (.tuple #[.int .i64 (s.la + 1), .int .i64 0]) ∧ ∃ c, KSt w0 cb (addC s c) w') ∨ (addK s x ≠ 0 ∧ e = .returned (.tuple #[.int .i64 0, .int .i64 (addK s x)]) ∧ KSt w0 cb s w') := by
 obtain ⟨hok, he, u, base, mb, mv, rv, hb, hc⟩ := h
 refine (add_any base cb mb mv rv s x w hc hok hx).mono ?_
 rintro e w' (⟨hz, p1, p2, p3, q1, q2, q3, rfl, a, m, -⟩ | ⟨hz, rfl, a, m⟩)
 ·exact .inl ⟨hz, rfl, _, addC_ok hok hx.ws' hz p1 p2 p3 q1 q2 q3, he.add hok.la.1 _, m.keep hc u hb, base, mb, mv, rv, hb, a⟩
 ·exact .inr ⟨hz, rfl, hok, he, m.keep hc u hb, base, mb, mv, rv, hb, a⟩
theorem KSt.heard {w0 : World} {cb : Nat} {s : Cs} {w : World} (h : KSt w0 cb s w) (q vc vn e lead : Int) (hq : N64 q) :
    Calls Tryz.prog 11 #[.pointer (some ⟨cb, 0, none⟩), .int .i64 q, .agg #[.int .i64 vc, .int .i64 vn], .int .i64 e, .int .i64 lead] w fun x w' => ∃ k, x = .returned (.tuple #[]) ∧ LdAt s lead k ∧ KSt w0 cb (heardC s q vc vn e k) w' := by
 obtain ⟨hok, he, u, base, mb, mv, rv, hb, hc⟩ := h
 refine (heard_any base cb mb mv rv s q vc vn e lead w hc hok hq).mono ?_
 rintro x w' ⟨k, rv', rfl, hk, a, m⟩
 exact ⟨k, rfl, hk, heardC_ok hok q vc vn e k, he.heard hok q vc vn e k, m.keep hc u hb, base, mb, mv, rv', hb, a⟩
theorem KSt.next {w0 : World} {cb : Nat} {s : Cs} {w : World} (h : KSt w0 cb s w) : Calls Tryz.prog 9 #[.pointer (some ⟨cb, 0, none⟩)] w fun e w' => NxPost s w e w' := by
 obtain ⟨hok, he, u, base, mb, mv, rv, hb, hc⟩ := h
 exact nextK_any base cb mb mv rv s w hc hok
theorem KSt.open {w0 : World} {cb : Nat} {s : Cs} {w : World} (h : KSt w0 cb s w) : Calls Tryz.prog 14 #[.pointer (some ⟨cb, 0, none⟩)] w fun e w' => ∃ v, e = .returned v ∧ OwnN w.heap.size w' v (s.op.map (·.1)) ∧ Old w w' := by
 obtain ⟨hok, he, u, base, mb, mv, rv, hb, hc⟩ := h
 exact open_any base cb mb mv rv s w hc hok
theorem KSt.results {w0 : World} {cb : Nat} {s : Cs} {w : World} (h : KSt w0 cb s w) : Calls Tryz.prog 13 #[.pointer (some ⟨cb, 0, none⟩)] w fun e w' => ∃ v, e = .returned v ∧ OwnR w.heap.size w' v s.rs ∧ Old w w' := by
 obtain ⟨hok, he, u, base, mb, mv, rv, hb, hc⟩ := h
 exact results_any base cb mb mv rv s w hc hok
theorem KSt.target {w0 : World} {cb : Nat} {s : Cs} {w : World} (h : KSt w0 cb s w) : Calls Tryz.prog 12 #[.pointer (some ⟨cb, 0, none⟩)] w fun e w' => e = .returned (.int .i64 (tgt s)) ∧ Old w w' := by
 obtain ⟨hok, he, u, base, mb, mv, rv, hb, hc⟩ := h
 exact target_any base cb mb mv rv s w hc hok
theorem KSt.new (ss : Int) (v : Value) (n : Nat) (f : Nat → Int) (w0 w : World) (u : Old w0 w) (h : Ci.NRowL w v n f) : Calls Tryz.prog 6 #[.int .i64 ss, v] w fun e w' => ∃ cb, e = .returned (.pointer (some ⟨cb, 0, none⟩)) ∧ KSt w0 cb (newC ss f n) w' ∧ Old w w' := by
 refine (newK_any ss v n f w h).mono ?_
 rintro e w' ⟨cb, mb, mv, rfl, a, b⟩
 exact ⟨cb, rfl, ⟨newC_ok ss f n, Each.new ss f n, u.trans b, w.heap.size, mb, mv, _, u.size, a⟩, b⟩
theorem KSt.add0 {w0 : World} {cb : Nat} {s : Cs} {w : World} (h : KSt w0 cb s w) (x : Sb) (hx : x.Ok w) (hz : addK s x = 0) :
    Calls Tryz.prog 8 #[.pointer (some ⟨cb, 0, none⟩), .agg #[.int .i64 x.s1, .int .i64 x.s2, .int .i64 x.s3, .slice x.a1 x.n1 x.c1, .slice x.a2 x.n2 x.c2, .slice x.a3 x.n3 x.c3]] w fun e w' => e = .returned (.tuple #[.int .i64 (s.la + 1), .int .i64 0]) ∧ ∃ c, KSt w0 cb (addC s c) w' := by
 refine (h.add x hx).mono ?_
 rintro e w' (⟨_, rfl, q⟩ | ⟨y, _⟩)
 ·exact ⟨rfl, q⟩
 ·exact absurd hz y
theorem OwnR.at {base : Nat} {w : World} {v : Value} {L : List (Int × Int × Int)} (h : OwnR base w v L) (i : Nat) (hi : i < L.length) : ∃ g cap, v = .slice (some ⟨g, 0, none⟩) L.length cap ∧ w.cell? ⟨g, i * 3, none⟩ = some (.int .i64 L[i].1) ∧ w.cell? ⟨g, i * 3 + 1, none⟩ = some (.int .i64 L[i].2.1) ∧ w.cell? ⟨g, i * 3 + 2, none⟩ = some (.int .i64 L[i].2.2) := by
 have h2 : w.ownsRow base 51 3 v L.length (rcs L) := h
 rcases h2.2 with ⟨_, e⟩ | ⟨g, cap, cur, rfl, hb, hg, hnc, hcm, hcs, htk⟩
 ·omega
 ·have H : ∀ j, j < 3 → w.cell? ⟨g, i * 3 + j, none⟩ = (rc L[i])[j]? := fun j hj => by
    rw [h2.cellAt (i * 3 + j) (by omega)]; exact flat_get rc 3 (fun _ => rfl) L i j hi hj
  exact ⟨g, cap, rfl, H 0 (by omega), H 1 (by omega), H 2 (by omega)⟩
set_option maxHeartbeats 4000000 in
theorem alive_any (w : World) : Calls Tryz.prog 7 #[] w fun e w' => e = .returned (.bool true) ∧ Old w w' := by
 go_enter Tryz.func7, Tryz.ntmps7
 go_upto_region 4 with (go_at_call 6; refine (KSt.new 1 _ 3 exF w _ ((Old.refl w).alloc _) (exF_row w)).mono ?_; rintro e w1 ⟨cb, rfl, k, u⟩; have K1 := hid (show KSt w cb ex0 w1 from k); clear k u)
 go_upto_region 5 with (go_at_call 8; refine ((K1.out.old ((Old.refl w1).alloc _)).add0 (oneW w1.heap.size 4607182418800017408) (oneW_ok w1 _ (by unfold Fl.W; omega)) (ex1_zero _)).mono ?_; rintro e w2 ⟨rfl, c1, k⟩; have K2 := hid k; clear k)
 go_upto_region 6 with (go_at_call 8; refine ((K2.out.old ((Old.refl w2).alloc _)).add0 (oneW w2.heap.size 4611686018427387904) (oneW_ok w2 _ (by unfold Fl.W; omega)) (ex2_zero _ _)).mono ?_; rintro e w3 ⟨rfl, c2, k⟩; have K3 := hid k; clear k)
 clear K1 K2
 go_upto_region 7 with (go_at_call 11; refine (K3.out.heard 1 0 5 0 0 (by unfold N64; omega)).mono ?_; rintro e w4 ⟨k4, rfl, _, k⟩; rw [ex3_eq] at k; have K4 := hid k; clear k)
 clear K3
 go_upto_region 8 with (go_at_call 11; refine (K4.out.heard 2 0 0 180 3 (by unfold N64; omega)).mono ?_; rintro e w5 ⟨k5, rfl, y, k⟩; obtain rfl := ex4_k _ y; rw [ex4_eq] at k; have K5 := hid k; clear k y)
 clear K4
 have HCk := hid (K5.out.1.ck (2, c2) (by simp))
 go_upto_region 9 with (go_at_call 9; refine K5.out.next.mono ?_; rintro e w6 ⟨v6, rfl, o6, u6⟩; obtain ⟨va, vc, rfl⟩ := OwnL.slice' o6; have U6 := hid u6; clear o6 u6)
 obtain ⟨nb, hnb⟩ : ∃ nb, c2.enc.length = nb := ⟨_, rfl⟩
 have hpos : 0 < nb := by rw [← hnb]; exact c2.enc_pos HCk.out
 rw [hnb]
 clear hnb HCk
 have K6 := hid (K5.out.old U6.out)
 clear K5 U6
 go_upto_region 10 with (go_at_call 13; refine K6.out.results.mono ?_; rintro e w7 ⟨v7, rfl, o7, u7⟩; obtain ⟨g7, cap7, rfl, y0, y1, y2⟩ := o7.at 0 (by simp); have HY := hid y2; have K7 := hid (K6.out.old u7); clear o7 u7 y0 y1 y2)
 clear K6
 have d1 : decide ((nb : Int) > 0) = true := by simp; omega
 have d2 : decide (0 < (nb : Int)) = true := by simp; omega
 have y2 := HY.out
 go_wp2_with (first | (go_at_call 20; refine (sameNums_eq _ _ [2] _ (OwnN.nrow (HO8.out.up ((Old.refl w8).alloc _)) (by simp)) (NRow.one w8 2 _ rfl _ rfl).1).mono ?_; rintro e w9 ⟨rfl, u9⟩; have K9 := hid (K8.out.old (((Old.refl w8).alloc _).trans u9)); clear u9) | (go_at_call 14; refine K7.out.open.mono ?_; rintro e w8 ⟨v8, rfl, o8, u8⟩; have HO8 := hid o8; have K8 := hid (K7.out.old u8); clear o8 u8) | (go_at_call 12; refine K9.out.target.mono ?_; rintro e w10 ⟨rfl, u10⟩; have K10 := hid (K9.out.old u10); clear u10))
 go_ret
 exact ⟨rfl, K10.out.2.2.1⟩
end Go.Proofs.YthjfkmjeppdcnaaGreat
namespace Go.Proofs.YthjfkmjeppdcnaaGreat
open Go.RowKit Go.Lib
set_option linter.unusedVariables false
set_option linter.unusedSimpArgs false
set_option maxRecDepth 20000
def fbl (cb mb : Nat) (mv rv : Value) (s : Cs) : List Nat := cb :: mb :: (mv.ownBlock.toList ++ (rv.ownBlock.toList ++ s.op.flatMap fun p => p.2.bl))
theorem mem_fbl {cb mb : Nat} {mv rv : Value} {s : Cs} {g : Nat} : g ∈ fbl cb mb mv rv s ↔ g = cb ∨ g = mb ∨ mv.ownBlock = some g ∨ rv.ownBlock = some g ∨ ∃ p ∈ s.op, g ∈ p.2.bl := by
 simp [fbl, Option.mem_toList]
def KSx (w0 : World) (cb : Nat) (FB : List Nat) (s : Cs) (w : World) : Prop := CsOk s ∧ Each s ∧ Old w0 w ∧ ∃ base mb mv rv, w0.heap.size ≤ base ∧ ClAt base cb mb mv rv s w ∧ FB = fbl cb mb mv rv s
theorem KSx.st {w0 : World} {cb : Nat} {FB : List Nat} {s : Cs} {w : World} (h : KSx w0 cb FB s w) : KSt w0 cb s w := by
 obtain ⟨a, b, c, base, mb, mv, rv, d, e, -⟩ := h
 exact ⟨a, b, c, base, mb, mv, rv, d, e⟩
theorem KSx.old {w0 : World} {cb : Nat} {FB : List Nat} {s : Cs} {w w' : World} (h : KSx w0 cb FB s w) (u : Old w w') : KSx w0 cb FB s w' := by
 obtain ⟨a, b, c, base, mb, mv, rv, d, e, f⟩ := h
 exact ⟨a, b, c.trans u, base, mb, mv, rv, d, e.old u, f⟩
theorem KSx.lt {w0 : World} {cb : Nat} {FB : List Nat} {s : Cs} {w : World} (h : KSx w0 cb FB s w) : ∀ g ∈ FB, w0.heap.size ≤ g ∧ g < w.heap.size := by
 obtain ⟨a, b, c, base, mb, mv, rv, d, e, rfl⟩ := h
 intro g q
 have k : base ≤ g ∧ g < w.heap.size := by
  rcases mem_fbl.1 q with rfl | rfl | z | z | ⟨p, hp, z⟩
  ·exact ⟨e.lo.1, heap_lt e.blk⟩
  ·exact ⟨e.lo.2, e.map.lt⟩
  ·exact World.ownsRow.lt (show w.ownsRow base 3 1 mv s.ms.length (Ci.ils s.ms) from e.mem) g z
  ·exact World.ownsRow.lt e.res g z
  ·exact (e.sub p hp).lt g z
 exact ⟨Nat.le_trans d k.1, k.2⟩
theorem KSx.chg {w0 : World} {cb : Nat} {FB : List Nat} {s : Cs} {w w' : World} {S : List Nat} (h : KSx w0 cb FB s w) (u : Chg S w w') (hn : ∀ g ∈ FB, g ∉ S) (hw : Old w0 w') : KSx w0 cb FB s w' := by
 obtain ⟨a, b, c, base, mb, mv, rv, d, e, rfl⟩ := h
 exact ⟨a, b, hw, base, mb, mv, rv, d, e.chg u (hn _ (mem_fbl.2 (.inl rfl))) (hn _ (mem_fbl.2 (.inr (.inl rfl)))) (fun g z => hn g (mem_fbl.2 (.inr (.inr (.inl z))))) (fun g z => hn g (mem_fbl.2 (.inr (.inr (.inr (.inl z)))))) (fun p hp g z => hn g (mem_fbl.2 (.inr (.inr (.inr (.inr ⟨p, hp, z⟩)))))), rfl⟩
structure FMv (FB : List Nat) (w : World) (FB' : List Nat) (w' : World) : Prop where
 c : Chg FB w w'
 r : ∀ g ∈ FB', g ∈ FB ∨ w.heap.size ≤ g
theorem blk3_fbl {cb mb : Nat} {mv rv : Value} {s : Cs} {g : Nat} (h : g ∈ blk3 cb mb rv) : g ∈ fbl cb mb mv rv s := by
 rcases mem_blk3.1 h with z | z | z
 ·exact mem_fbl.2 (.inl z)
 ·exact mem_fbl.2 (.inr (.inl z))
 ·exact mem_fbl.2 (.inr (.inr (.inr (.inl z))))
theorem CMv.fmv {cb mb : Nat} {mv rv rv' : Value} {s s' : Cs} {w w' : World} (m : CMv cb mb rv w rv' w') (hs : ∀ p ∈ s'.op, p ∈ s.op ∨ ∀ g ∈ p.2.bl, w.heap.size ≤ g) : FMv (fbl cb mb mv rv s) w (fbl cb mb mv rv' s') w' := by
 refine ⟨m.c.mono fun k q _ => blk3_fbl q, fun g q => ?_⟩
 rcases mem_fbl.1 q with z | z | z | z | ⟨p, hp, z⟩
 ·exact .inl (mem_fbl.2 (.inl z))
 ·exact .inl (mem_fbl.2 (.inr (.inl z)))
 ·exact .inl (mem_fbl.2 (.inr (.inr (.inl z))))
 ·rcases m.r g z with y | y
  ·exact .inl (mem_fbl.2 (.inr (.inr (.inr (.inl y)))))
  ·exact .inr y
 ·rcases hs p hp with y | y
  ·exact .inl (mem_fbl.2 (.inr (.inr (.inr (.inr ⟨p, y, z⟩)))))
  ·exact .inr (y g z)
theorem heardC_op (s : Cs) (q vc vn e : Int) (k : Nat) : ∀ p ∈ (heardC s q vc vn e k).op, p ∈ s.op := by
 intro p hp
 unfold heardC at hp
 split at hp
 ·exact hp
 ·split at hp
  ·exact (List.mem_filter.1 hp).1
  ·split at hp
   ·exact hp
   ·split at hp <;> exact hp
theorem KSx.heard {w0 : World} {cb : Nat} {FB : List Nat} {s : Cs} {w : World} (h : KSx w0 cb FB s w) (q vc vn e lead : Int) (hq : N64 q) :
    Calls Tryz.prog 11 #[.pointer (some ⟨cb, 0, none⟩), .int .i64 q, .agg #[.int .i64 vc, .int .i64 vn], .int .i64 e, .int .i64 lead] w fun x w' => ∃ k FB', x = .returned (.tuple #[]) ∧ LdAt s lead k ∧ KSx w0 cb FB' (heardC s q vc vn e k) w' ∧ FMv FB w FB' w' := by
 obtain ⟨hok, he, u, base, mb, mv, rv, hb, hc, rfl⟩ := h
 refine (heard_any base cb mb mv rv s q vc vn e lead w hc hok hq).mono ?_
 rintro x w' ⟨k, rv', rfl, hk, a, m⟩
 exact ⟨k, _, rfl, hk, ⟨heardC_ok hok q vc vn e k, he.heard hok q vc vn e k, m.keep hc u hb, base, mb, mv, rv', hb, a, rfl⟩, m.fmv fun p hp => .inl (heardC_op s q vc vn e k p hp)⟩
theorem KSx.add {w0 : World} {cb : Nat} {FB : List Nat} {s : Cs} {w : World} (h : KSx w0 cb FB s w) (x : Sb) (hx : x.Ok w) :
    Calls Tryz.prog 8 #[.pointer (some ⟨cb, 0, none⟩), .agg #[.int .i64 x.s1, .int .i64 x.s2, .int .i64 x.s3, .slice x.a1 x.n1 x.c1, .slice x.a2 x.n2 x.c2, .slice x.a3 x.n3 x.c3]] w fun e w' => (addK s x = 0 ∧ e = .returned (.tuple #[.int .i64 (s.la + 1), .int .i64 0]) ∧ ∃ p1 p2 p3 q1 q2 q3 FB', KSx w0 cb FB' (addC s (mkC (aSb s x) p1 p2 p3 q1 q2 q3)) w' ∧ FMv FB w FB' w') ∨ (addK s x ≠ 0 ∧ e = .returned (.tuple #[.int .i64 0, .int .i64 (addK s x)]) ∧ KSx w0 cb FB s w' ∧ FMv FB w FB w') := by
 obtain ⟨hok, he, u, base, mb, mv, rv, hb, hc, rfl⟩ := h
 refine (add_any base cb mb mv rv s x w hc hok hx).mono ?_
 rintro e w' (⟨hz, p1, p2, p3, q1, q2, q3, rfl, a, m, n⟩ | ⟨hz, rfl, a, m⟩)
 ·refine .inl ⟨hz, rfl, p1, p2, p3, q1, q2, q3, _, ⟨addC_ok hok hx.ws' hz p1 p2 p3 q1 q2 q3, he.add hok.la.1 _, m.keep hc u hb, base, mb, mv, rv, hb, a, rfl⟩, m.fmv fun p hp => ?_⟩
  rcases List.mem_append.1 (show p ∈ s.op ++ [(s.la + 1, mkC (aSb s x) p1 p2 p3 q1 q2 q3)] from hp) with z | z
  ·exact .inl z
  ·simp only [List.mem_singleton] at z; subst z
   exact .inr n
 ·exact .inr ⟨hz, rfl, ⟨hok, he, m.keep hc u hb, base, mb, mv, rv, hb, a, rfl⟩, m.fmv fun p hp => .inl hp⟩
theorem KSx.new (ss : Int) (v : Value) (n : Nat) (f : Nat → Int) (w0 w : World) (u : Old w0 w) (h : Ci.NRowL w v n f) : Calls Tryz.prog 6 #[.int .i64 ss, v] w fun e w' => ∃ cb FB, e = .returned (.pointer (some ⟨cb, 0, none⟩)) ∧ KSx w0 cb FB (newC ss f n) w' ∧ Old w w' := by
 refine (newK_any ss v n f w h).mono ?_
 rintro e w' ⟨cb, mb, mv, rfl, a, b⟩
 exact ⟨cb, _, rfl, ⟨newC_ok ss f n, Each.new ss f n, u.trans b, w.heap.size, mb, mv, _, u.size, a, rfl⟩, b⟩
end Go.Proofs.YthjfkmjeppdcnaaGreat
namespace Go.Proofs.YthjfkmjeppdcnaaGreat
open Go.RowKit Go.Lib
set_option linter.unusedVariables false
set_option linter.unusedSimpArgs false
set_option maxRecDepth 20000
attribute [local go_sem] run_bits run_frombits run_store_float eqF
theorem and_mask (a : Int) (m : Nat) (hm : m < 9223372036854775808) : ∃ M : Nat, M ≤ m ∧ bits .and .i64 a (m : Int) = (M : Int) := by
 refine ⟨(BitVec.ofInt 64 a &&& BitVec.ofInt 64 (m : Int)).toNat, ?_, ?_⟩
 ·rw [BitVec.toNat_and, BitVec.ofInt_natCast, BitVec.toNat_ofNat, Nat.mod_eq_of_lt (by omega)]
  exact Nat.and_le_right
 ·have h : (BitVec.ofInt 64 a &&& BitVec.ofInt 64 (m : Int)).toNat ≤ m := by
    rw [BitVec.toNat_and, BitVec.ofInt_natCast, BitVec.toNat_ofNat, Nat.mod_eq_of_lt (by omega)]
    exact Nat.and_le_right
  show IntKind.i64.wrap ((BitVec.ofInt 64 a &&& BitVec.ofInt 64 (m : Int)).toNat : Int) = _
  generalize (BitVec.ofInt 64 a &&& BitVec.ofInt 64 (m : Int)).toNat = r at *
  simp [IntKind.wrap, IntKind.bits, IntKind.signed]
  omega
def RoundIs (f : Nat → Int) (n : Nat) (r : Int) : Prop := (r = 0 ∧ ∀ j, 1 ≤ j → j < n → f j ≠ f 0) ∨ ∃ j : Nat, 1 ≤ j ∧ j < n ∧ r = j ∧ f j = f 0 ∧ ∀ i, 1 ≤ i → i < j → f i ≠ f 0
set_option maxHeartbeats 2000000 in
theorem round_any (v : Value) (n : Nat) (f : Nat → Int) (w : World) (h : Ci.NRowL w v n f) :
    Calls Tryz.prog 10 #[v] w fun e w' => ∃ r : Int, e = .returned (.int .i64 r) ∧ RoundIs f n r ∧ Old w w' := by
 obtain ⟨hn, p, c, rfl, h1, h2, hc⟩ := h
 have HX := hid hc
 have hmm : (n : Int) ≤ 17592186044000 := by omega
 clear hc
 go_enter Tryz.func10, Tryz.ntmps10
 go_wp2
 go_loopw [3] (fun i wx => ∃ k : Nat, 1 ≤ k ∧ (k ≤ n ∨ k = 1) ∧ i = .int .i64 (k : Nat) ∧ Hid (∀ j, 1 ≤ j → j < k → f j ≠ f 0) ∧ Old w wx) (fun i _ => n + 2 - (intOf i).toNat)
 case atStart => exact ⟨1, Nat.le_refl _, .inr rfl, rfl, hid (fun j a b => by omega), Old.refl _⟩
 case round =>
  obtain ⟨k, hk1, hk, rfl, hz, hup⟩ := hrel
  by_cases hlt : k < n
  ·obtain ⟨b1, o1, e1, cx0⟩ := HX.out k hlt
   obtain ⟨b2, o2, e2, cy0⟩ := HX.out 0 (by omega)
   subst e1
   cases e2
   have cx := hup.keep cx0
   have cy := hup.keep cy0
   rw [Nat.add_zero] at cy
   have l1 : (0 : Int) ≤ (k : Int) := by omega
   have l2 : (k : Int) < (n : Int) := by omega
   have l3 : (0 : Int) < (n : Int) := by omega
   obtain ⟨x, hx⟩ : ∃ x, f k = x := ⟨_, rfl⟩
   obtain ⟨y, hy⟩ : ∃ y, f 0 = y := ⟨_, rfl⟩
   rw [hx] at cx
   rw [hy] at cy
   have HF := hid (And.intro hx hy)
   clear cx0 cy0 hx hy
   by_cases hxy : x = y
   ·have HE := hid hxy
    subst hxy
    have t : (x == x) = true := by simp
    go_upto_region 4 with fail
    go_quiet (fail)
    go_wp2
    go_ret
    exact ⟨_, rfl, .inr ⟨k, hk1, hlt, rfl, by rw [HF.out.1, HF.out.2], hz.out⟩, hup.drewN _⟩
   ·have t : (x == y) = false := by simp [hxy]
    have HE := hid hxy
    clear hxy
    go_upto_region 4 with fail
    go_quiet (fail)
    go_wp2
    exact ⟨⟨k + 1, by omega, .inl (by omega), by go_num, hid (fun i hi hj => by
     by_cases e : i = k
     ·subst e; rw [HF.out.1, HF.out.2]; exact HE.out
     ·exact hz.out i hi (by omega)), hup.drewN _⟩, by simp [intOf]; omega⟩
  ·have d : decide ((k : Int) < (n : Int)) = false := by simp; omega
   have HK := hid hk
   have HL := hid hlt
   clear hk hlt
   go_wp2
   go_ret
   exact ⟨_, rfl, .inl ⟨rfl, fun j a b => hz.out j a (by have := HK.out; have := HL.out; omega)⟩, hup⟩
theorem up_get {L : List Int} (h : L.Pairwise (· < ·)) {a b : Nat} (ha : a < L.length) (hb : b < L.length) (e : L.getD a 0 = L.getD b 0) : a = b := by
 rw [List.getD_eq_getElem?_getD, List.getD_eq_getElem?_getD, List.getElem?_eq_getElem ha, List.getElem?_eq_getElem hb] at e
 simp only [Option.getD_some] at e
 have p := List.pairwise_iff_getElem.1 h
 rcases Nat.lt_trichotomy a b with q | q | q
 ·have := p a b ha hb q; omega
 ·exact q
 ·have := p b a hb ha q; omega
def ringF (L : List Int) (j : Nat) : Int := L.getD (j % L.length) 0
def ringL (L : List Int) (i : Nat) : List Int := (List.range i).map (ringF L)
theorem ringL_len (L : List Int) (i : Nat) : (ringL L i).length = i := by simp [ringL]
theorem ringL_succ (L : List Int) (i : Nat) : ringL L (i + 1) = ringL L i ++ [ringF L i] := by simp [ringL, List.range_succ]
theorem ringL_get (L : List Int) (i k : Nat) (h : k < i) : (ringL L i).getD k 0 = ringF L k := by
 rw [List.getD_eq_getElem?_getD]
 simp [ringL, h]
theorem ring_eq {L : List Int} (hl : 0 < L.length) (hu : L.Pairwise (· < ·)) {a b : Nat} (e : ringF L a = ringF L b) : a % L.length = b % L.length :=
 up_get hu (Nat.mod_lt _ hl) (Nat.mod_lt _ hl) e
theorem ring_turn {L : List Int} (hl : 0 < L.length) (hu : L.Pairwise (· < ·)) {i k : Nat} {f : Nat → Int} (hf : ∀ j, j < i → f j = ringF L j) (hk : k < i) (he : f k = ringF L i) {r : Int} (hr : RoundIs f i r) : ((i : Int) - (k : Int)).tmod (max r 1) = 0 := by
 rw [hf k hk] at he
 have hm := ring_eq hl hu he
 have h0 : f 0 = ringF L 0 := hf 0 (by omega)
 have key : ∀ M : Nat, (i - k) % M = 0 → ((i : Int) - (k : Int)).tmod (M : Int) = 0 := fun M h => by
  rw [show (i : Int) - (k : Int) = ((i - k : Nat) : Int) by omega, Int.tmod_eq_emod_of_nonneg (by omega)]
  exact_mod_cast h
 have one : ∀ {j : Nat}, 1 ≤ j → j < i → f j = f 0 → L.length ≤ j := fun h1 h2 e => by
  rw [hf _ h2, h0] at e
  have := ring_eq hl hu e
  rw [Nat.zero_mod] at this
  exact Nat.le_of_dvd (by omega) (Nat.dvd_of_mod_eq_zero this)
 have again : ∀ {j : Nat}, j < i → j % L.length = 0 → f j = f 0 := fun h2 e => by
  rw [hf _ h2, h0]
  unfold ringF
  rw [e, Nat.zero_mod]
 rcases hr with ⟨rfl, hr⟩ | ⟨j, h1, h2, rfl, h3, h4⟩
 ·have : i ≤ L.length := by
    apply Nat.le_of_not_lt
    intro q
    exact hr L.length hl q (again q (Nat.mod_self _))
  have := key 1 (Nat.mod_one _)
  rw [show max (0 : Int) 1 = ((1 : Nat) : Int) from rfl]
  exact this
 ·have := one h1 h2 h3
  have : ¬ L.length < j := fun q => h4 L.length hl q (again (by omega) (Nat.mod_self _))
  have hj : j = L.length := by omega
  subst hj
  rw [show max ((L.length : Nat) : Int) 1 = ((L.length : Nat) : Int) by omega]
  exact key _ (Nat.sub_mod_eq_zero_of_mod_eq hm.symm)
theorem ring_div {f : Nat → Int} {n : Nat} {r : Int} (hr : RoundIs f n r) (hn : n ≤ 40) : max r 1 ≠ 0 ∧ 0 ≤ max r 1 ∧ max r 1 ≤ 40 := by
 rcases hr with ⟨rfl, _⟩ | ⟨j, h1, h2, rfl, _⟩ <;> omega
theorem amL_mem (f : Nat → Int) (n : Nat) (x : Int) (hx : Ci.hasK f x n = true) : ∀ k : Nat, 1 ≤ x → x ≤ k → x ∈ amL f n k
 | 0, h1, h2 => by omega
 | k + 1, h1, h2 => by
  show x ∈ amL f n k ++ (if Ci.hasK f ((k : Int) + 1) n = true then [(k : Int) + 1] else [])
  by_cases e : x = (k : Int) + 1
  ·rw [← e, if_pos hx]
   exact List.mem_append_right _ (List.mem_singleton.2 rfl)
  ·exact List.mem_append_left _ (amL_mem f n x hx k h1 (by omega))
theorem msL_mem (f : Nat → Int) (n : Nat) (x : Int) (hx : Ci.hasK f x n = true) (h1 : 1 ≤ x) (h2 : x ≤ 7) : x ∈ msL f n := by
 have := amL_mem f n x hx 7 h1 h2
 unfold msL
 rw [if_neg (fun e => by rw [e] at this; cases this)]
 exact this
def oneR (b k : Nat) : Sb := ⟨0, 0, 0, some ⟨b, 0, none⟩, none, none, 1, 0, 0, 1, 0, 0, fun _ => k, fun _ => 0, fun _ => ⟨0, 0, false, false⟩⟩
theorem oneR_ok (w : World) (k : Nat) (hk : Fl.W k) : (oneR w.heap.size k).Ok (w.alloc (.cells #[.float .f64 k] 29)) := by
 refine ⟨⟨by show 1 ≤ _; omega, _, _, rfl, fun i hi => ⟨w.heap.size, 0, rfl, hk, ?_⟩⟩, ⟨by show 0 ≤ _; omega, _, _, rfl, fun i hi => by have : i < 0 := hi; omega⟩, ⟨by show 0 ≤ _; omega, _, _, rfl, fun i hi => by have : i < 0 := hi; omega⟩, by show 1 ≤ _; omega, by show 0 ≤ _; omega, by show 0 ≤ _; omega⟩
 obtain rfl : i = 0 := by have : i < 1 := hi; omega
 rw [Go.Joins.cell_of_block (alloc_at w _)]; rfl
theorem exR_zero (f : Nat → Int) (n b : Nat) : addK (newC 1 f n) (oneR b 4607182418800017408) = 0 := by kernel_rfl
def tuC (L : List Int) (t : Nat) (c : Sb) : Cs := ⟨1, L, t, 1, [(1, c)], []⟩
theorem tuC_new (f : Nat → Int) (n : Nat) (c : Sb) : addC (newC 1 f n) c = tuC (msL f n) 0 c := rfl
theorem tuC_down (L : List Int) (t : Nat) (c : Sb) (k : Nat) : heardC (tuC L t c) 1 0 0 50 k = tuC L ((t + 1) % L.length) c := by
 unfold heardC
 rw [if_neg (by simp [tuC]), if_neg (by decide), if_neg (by omega), if_neg (by decide)]
 rfl
theorem tuC_lead (L : List Int) (t : Nat) (c : Sb) (k : Nat) : heardC (tuC L t c) 1 0 0 180 k = tuC L (if k < L.length then k else (t + 1) % L.length) c := by
 unfold heardC
 rw [if_neg (by simp [tuC]), if_neg (by decide)]
 by_cases h : k < L.length
 ·rw [if_pos ⟨rfl, h⟩, if_pos h]
  rfl
 ·rw [if_neg (fun q => h q.2), if_neg (by decide), if_neg h]
  rfl
theorem tuC_tgt (L : List Int) (i : Nat) (c : Sb) : tgt (tuC L (i % L.length) c) = ringF L i := rfl
end Go.Proofs.YthjfkmjeppdcnaaGreat
