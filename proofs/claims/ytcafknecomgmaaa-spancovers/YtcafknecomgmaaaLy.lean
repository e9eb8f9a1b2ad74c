/- The law SpanCovers at every row of spans; conditions: the lengths fit. -/
import Derived.Test.YtcafknecomgmaaaLw
namespace Go.Proofs.Ytcafknecomgmaaa
open Go.RowKit
set_option linter.unusedVariables false
attribute [local go_sem] run_bits run_frombits run_store_float eqF
namespace Fl
theorem dfold_mem (S T : List (Nat × Nat)) (hS : ∀ r ∈ S, RV r) (hT : ∀ r, r ∈ T ↔ r ∈ S) : dfold T = dfold S := by
  have a := dfold_ok _ S rfl hS
  have b := dfold_ok _ T rfl fun r hr => hS r ((hT r).1 hr)
  refine nl_unique _ _ b.1 a.1 fun c hc => ?_
  rw [a.2.1 c hc, b.2.1 c hc]
  unfold Cov
  exact ⟨fun ⟨r, h, k⟩ => ⟨r, (hT r).1 h, k⟩, fun ⟨r, h, k⟩ => ⟨r, (hT r).2 h, k⟩⟩
theorem dfold_self (L : List (Nat × Nat)) (h : NL L) : dfold L = L := by
  have a := dfold_ok _ L rfl h.2
  exact nl_unique _ _ a.1 h fun c hc => a.2.1 c hc
theorem hasS_cov (s : Sp) (k : Nat) : hasS s k = true ↔ Cov (cd s) (code k) := by
  unfold hasS hasF cd
  cases h : csE s.a s.b s.p s.q
  · simp [cov_cons, cov_nil]
  · simp [cov_nil]
theorem anyG_cov (f : Nat → Sp) (k : Nat) : ∀ n, anyG (fun i => hasS (f i) k) n = true ↔ Cov (cdl f n) (code k)
  | 0 => by simp [anyG, cdl, cov_nil]
  | n + 1 => by
    show (anyG (fun i => hasS (f i) k) n || hasS (f n) k) = true ↔ Cov (cdl f n ++ cd (f n)) (code k)
    rw [cov_app, Bool.or_eq_true, anyG_cov f k n, hasS_cov]
theorem cov_zero (L : List (Nat × Nat)) (h : ∀ r ∈ L, RV r) : ¬ Cov L 0 := by
  rintro ⟨r, hr, h1, _⟩
  have := (h r hr).1
  unfold V at this; omega
/-- What covers a key, told by the list that is as few as may be. -/
theorem anyG_norm (f : Nat → Sp) (n k : Nat) (hk : W k) (hR : ∀ r ∈ cdl f n, RV r) : anyG (fun i => hasS (atS ((dfold (cdl f n)).map spo) i) k) (dfold (cdl f n)).length = anyG (fun i => hasS (f i) k) n := by
  have a := dfold_ok _ (cdl f n) rfl hR
  rw [Bool.eq_iff_iff, anyG_cov, anyG_cov, cdl_spo _ a.1.2]
  cases hn : nan k
  · exact a.2.1 _ (V_code hk hn)
  · rw [code_nan k hn]
    exact iff_of_false (cov_zero _ a.1.2) (cov_zero _ hR)
theorem cdl_rev (M : List Sp) (r : Nat × Nat) : r ∈ cdl (atS M.reverse) M.reverse.length ↔ r ∈ cdl (atS M) M.length := by
  rw [cdl_mem, cdl_mem]
  constructor
  · rintro ⟨i, hi, h⟩
    have hi' : i < M.length := by simpa using hi
    rw [atS_get _ i hi, List.getElem_reverse] at h
    exact ⟨M.length - 1 - i, by omega, by rw [atS_get _ _ (by omega)]; exact h⟩
  · rintro ⟨i, hi, h⟩
    rw [atS_get _ i hi] at h
    refine ⟨M.length - 1 - i, by simp; omega, ?_⟩
    rw [atS_get _ _ (by simp; omega), List.getElem_reverse]
    have e : M.length - 1 - (M.length - 1 - i) = i := by omega
    simp only [e]; exact h
theorem rev_snoc (M : List Sp) (k : Nat) (h : k < M.length) : M.reverse.take (k + 1) = M.reverse.take k ++ [M[M.length - 1 - k]'(by omega)] := by
  rw [List.take_succ_eq_append_getElem (by simpa using h), List.getElem_reverse]
end Fl
/-- The example's span. -/
def ex1 : List Sp := [⟨4607182418800017408, 4611686018427387904, false, false⟩]
theorem ex1_row (w : World) (g : Nat) (hg : w.heap.size = g) : SRow (w.alloc (.cells #[.float .f64 4607182418800017408, .float .f64 4611686018427387904, .bool false, .bool false] 26)) (.slice (some ⟨g, 0, none⟩) 1 1) 1 (atS ex1) := by
  subst hg
  refine ⟨by omega, _, _, rfl, fun i hi => ⟨w.heap.size, 0, rfl, ?_⟩⟩
  match i, hi with
  | 0, _ => exact ⟨by show (_ : Nat) < _; decide, by show (_ : Nat) < _; decide, by simp [SpIn, atS, ex1]⟩
theorem covers_ex (w : World) (g : Nat) (hg : w.heap.size = g) :
    Calls Try.prog 10 #[.slice (some ⟨g, 0, none⟩) 1 1, .float .f64 4607182418800017408] (w.alloc (.cells #[.float .f64 4607182418800017408, .float .f64 4611686018427387904, .bool false, .bool false] 26)) fun e w' => e = .returned (.bool true) ∧ Old w w' := by
  refine (covers_any _ 1 (atS ex1) _ (by show (_ : Nat) < _; decide) _ (ex1_row w g hg)).mono ?_
  rintro e w' ⟨rfl, hu⟩
  rw [show Fl.anyG (fun i => Fl.hasS (atS ex1 i) 4607182418800017408) 1 = true by decide +kernel]
  exact ⟨rfl, ((Old.refl w).alloc _).trans hu⟩
set_option maxHeartbeats 4000000 in
set_option maxRecDepth 20000 in
theorem coversLaw (v : Value) (M : List Sp) (key : Nat) (hkey : Fl.W key) (hM : M.length ≤ 5864062014805) (w : World) (hv : SRow w v M.length (atS M)) :
    Calls Try.prog 4 #[v, .float .f64 key] w fun e w' => e = .returned (.bool true) ∧ Old w w' := by
  have HV := hid hv
  have HM := hid hM
  have hrv := Fl.cdl_RV (atS M) M.length (fun i hi => by obtain ⟨_, _, _, hc⟩ := hv.2; obtain ⟨_, _, _, h1, h2, _⟩ := hc i hi; exact ⟨h1, h2⟩)
  have hdf := Fl.dfold_ok _ (Fl.cdl (atS M) M.length) rfl hrv
  have hdl : (Fl.dfold (Fl.cdl (atS M) M.length)).length ≤ M.length := by have := hdf.2.2; have := Fl.cdl_len (atS M) M.length; omega
  have HWm := hid (show ∀ s ∈ M, Fl.W s.a ∧ Fl.W s.b from fun s hs => by obtain ⟨i, hi, rfl⟩ := List.getElem_of_mem hs; obtain ⟨_, _, _, hc⟩ := hv.2; obtain ⟨_, _, _, h1, h2, _⟩ := hc i hi; rw [atS_get M i hi] at h1 h2; exact And.intro h1 h2)
  have HN := hid (fun W (hW : Old w W) => norm_any v M.length (atS M) hM W (hv.old hW))
  have HCv := hid (fun W (hW : Old w W) => covers_any v M.length (atS M) key hkey W (hv.old hW))
  have HBk := hid (show ∀ v' W, SRow W v' M.reverse.length (atS M.reverse) → Calls Try.prog 5 #[v'] W fun e w' => ∃ v'' : Value, e = .returned v'' ∧ OwnS W.heap.size w' v'' ((Fl.dfold (Fl.cdl (atS M) M.length)).map Fl.spo) ∧ Old W w' from fun v' W h => by
    have q := norm_any v' M.reverse.length (atS M.reverse) (by simpa using hM) W h
    rw [Fl.dfold_mem _ _ hrv (Fl.cdl_rev M)] at q; exact q)
  have HSelf := hid (show ∀ v' W, SRow W v' (Fl.dfold (Fl.cdl (atS M) M.length)).length (atS ((Fl.dfold (Fl.cdl (atS M) M.length)).map Fl.spo)) → Calls Try.prog 5 #[v'] W fun e w' => ∃ v'' : Value, e = .returned v'' ∧ OwnS W.heap.size w' v'' ((Fl.dfold (Fl.cdl (atS M) M.length)).map Fl.spo) ∧ Old W w' from fun v' W h => by
    have q := norm_any v' _ _ (by omega) W h
    rw [Fl.cdl_spo _ hdf.1.2, Fl.dfold_self _ hdf.1] at q; exact q)
  have HCn := hid (show ∀ v' W, SRow W v' (Fl.dfold (Fl.cdl (atS M) M.length)).length (atS ((Fl.dfold (Fl.cdl (atS M) M.length)).map Fl.spo)) → Calls Try.prog 10 #[v', .float .f64 key] W fun e w' => e = .returned (.bool (Fl.anyG (fun i => Fl.hasS (atS M i) key) M.length)) ∧ Old W w' from fun v' W h => by
    have q := covers_any v' _ _ key hkey W h
    rw [Fl.anyG_norm _ _ key hkey hrv] at q; exact q)
  have HR := hid hdf.1.2
  clear hrv hdf
  generalize Fl.dfold (Fl.cdl (atS M) M.length) = D at *
  have HRow := hid (show ∀ base W v, OwnS base W v (D.map Fl.spo) → SRow W v D.length (atS (D.map Fl.spo)) from fun base W v h => by have q := h.row (spo_rows HR.out) (by rw [List.length_map]; omega); rw [List.length_map] at q; exact q)
  have HLen := hid (show ∀ base W v, OwnS base W v (D.map Fl.spo) → ∃ a c, v = .slice a D.length c from fun base W v h => by have q := h.len; rw [List.length_map] at q; exact q)
  have hw := hv.2
  obtain ⟨a, c, rfl, hc⟩ := hw
  have HC := hid hc
  have HG : Hid (∃ G : Nat → Bool, G = fun i => Fl.hasS (atS M i) key) := ⟨_, rfl⟩
  obtain ⟨G, hG⟩ := HG.out
  rw [← hG] at HCv HCn
  have HGe := hid hG
  clear hv hdl hc HG hG
  go_enter Try.func4, Try.ntmps4
  go_wp2_with (first | (go_at_call 6; refine (at_any _ _ _).mono ?_; rintro e wA ⟨rfl, hA⟩; have UA := hid hA.old; clear hA) | (go_at_call 10; refine (covers_ex _ _ rfl).mono ?_; rintro e w1 ⟨rfl, hu1⟩; have U1 := hid (UA.out.trans hu1); clear hu1))
  have z1 := U1.out.size
  go_loopw [5, 6, 16] (fun s o i wr => ∃ k : Nat, k ≤ M.length ∧ i = .int .i64 (k : Nat) ∧ s = .bool (Fl.anyG G k) ∧ OwnS w.heap.size wr o (M.reverse.take k) ∧ Old w wr) (fun _ _ i _ => M.length - (intOf i).toNat)
  case atStart => exact ⟨0, Nat.zero_le _, rfl, rfl, OwnS.empty z1 rfl, U1.out.alloc _⟩
  case round =>
    obtain ⟨k, hk, rfl, rfl, ho, hu⟩ := hrel
    have HO := hid ho
    have HU := hid hu
    clear ho hu
    by_cases hlt : k < M.length
    · obtain ⟨b, off, ha, hW1, hW2, c0⟩ := HC.out k hlt
      obtain ⟨b', off', ha', hW1', hW2', c0'⟩ := HC.out (M.length - 1 - k) (by omega)
      subst ha
      obtain ⟨rfl, rfl⟩ : b = b' ∧ off = off' := by cases ha'; exact ⟨rfl, rfl⟩
      rw [atS_get M _ (by omega)] at c0' hW1' hW2'
      obtain ⟨x0, x1, x2, x3⟩ := c0.old HU.out
      obtain ⟨y0, y1, y2, y3⟩ := c0'.old HU.out
      have HY := hid c0'
      have HH0 := fun W => has_any (atS M k).a (atS M k).b key hW1 hW2 hkey (atS M k).p (atS M k).q W
      have hgk : Fl.hasF (Fl.csU (atS M k).a (atS M k).b (atS M k).p (atS M k).q) (Fl.csV (atS M k).a (atS M k).b (atS M k).p (atS M k).q) (Fl.csE (atS M k).a (atS M k).b (atS M k).p (atS M k).q) key = G k := by rw [HGe.out]; rfl
      rw [hgk] at HH0
      have HH := hid HH0
      have HGs : Hid (Fl.anyG G (k + 1) = (Fl.anyG G k || G k)) := rfl
      have HRs := hid (Fl.rev_snoc M k hlt)
      have hrl : (M.reverse.take k).length = k := by simp; omega
      have hmm := HM.out
      have l1 : (0 : Int) ≤ (k : Int) := by omega
      have l2 : (k : Int) < (M.length : Int) := by omega
      have l3 : (M.length : Int) - 1 - (k : Int) = ((M.length - 1 - k : Nat) : Int) := by omega
      have l4 : IntKind.i64.wrap ((M.length : Int) - 1) = (M.length : Int) - 1 := IntWalk.i64_in _ (by omega)
      have l5 : IntKind.i64.wrap ((M.length : Int) - 1 - (k : Int)) = ((M.length - 1 - k : Nat) : Int) := by rw [l3]; exact IntWalk.i64_in _ (by omega)
      have l6 : (0 : Int) ≤ ((M.length - 1 - k : Nat) : Int) := by omega
      have l7 : ((M.length - 1 - k : Nat) : Int) < (M.length : Int) := by omega
      clear c0 c0' HH0 hgk hW1 hW2 ha' l3
      generalize (atS M k).a = a1 at *
      generalize (atS M k).b = b1 at *
      generalize (atS M k).p = p1 at *
      generalize (atS M k).q = q1 at *
      generalize M[M.length - 1 - k]'(by omega) = s at *
      obtain ⟨sa, sb, sp, sq⟩ := s
      dsimp only at *
      generalize M.length - 1 - k = r at *
      cases hg : Fl.anyG G k
      · rw [hg] at HGs
        go_wp2_with (first | (go_at_call 11; refine (HH.out _).mono ?_; rintro o w5 ⟨rfl, u5⟩; have U5 := hid u5.old; have z5 := u5.old.size; have z6 := HU.out.size; obtain ⟨t0, t1, t2, t3⟩ := (HY.out.old HU.out).old u5.old; clear u5) | (at_builtin; refine wp_appS rfl (.tmp 28) (.tmp 37) rfl w.heap.size _ (M.reverse.take k) [⟨sa, sb, sp, sq⟩] _ 0 1 rfl rfl (OwnS.old HO.out (U5.out.alloc _)) (spIn_new _ ⟨sa, sb, sp, sq⟩ _ (by simp)) (by rw [hrl]; simp; omega) (by simp; omega) ?_; intro v8 w8 o8 u8; have O8 := hid o8; have V8 := hid (Old.below ((HU.out.trans U5.out).alloc _) u8); clear o8 u8))
        go_roundw
        case rel => exact ⟨k + 1, hlt, by go_num, by rw [HGs.out]; simp, by rw [HRs.out]; exact O8.out, V8.out⟩
        case measure => simp [intOf]; omega
      · rw [hg] at HGs
        have z6 := HU.out.size
        go_wp2_with (first | (at_builtin; refine wp_appS rfl (.tmp 28) (.tmp 37) rfl w.heap.size _ (M.reverse.take k) [⟨sa, sb, sp, sq⟩] _ 0 1 rfl rfl (OwnS.old HO.out ((Old.refl _).alloc _)) (spIn_new _ ⟨sa, sb, sp, sq⟩ _ (by simp)) (by rw [hrl]; simp; omega) (by simp; omega) ?_; intro v8 w8 o8 u8; have O8 := hid o8; have V8 := hid (Old.below (HU.out.alloc _) u8); clear o8 u8))
        go_roundw
        case rel => exact ⟨k + 1, hlt, by go_num, by rw [HGs.out]; simp, by rw [HRs.out]; exact O8.out, V8.out⟩
        case measure => simp [intOf]; omega
    · obtain rfl : k = M.length := by omega
      have hrt : M.reverse.take M.length = M.reverse := by rw [List.take_of_length_le (by simp)]
      have hO := HO.out
      rw [hrt] at hO
      have HOr := hid hO
      have HBr := hid (hO.row (fun s hs => HWm.out s (List.mem_reverse.1 hs)) (by simp; have := HM.out; omega))
      obtain ⟨a2, c2, hv2⟩ := hO.len
      rw [List.length_reverse] at hv2
      subst hv2
      clear hO HO hrt
      go_upto_region 12 with (first | (go_at_call 5; refine (HN.out _ HU.out).mono ?_; rintro e w4 ⟨v4, rfl, o4, u4⟩; have O4 := hid o4; have V4 := hid u4; clear o4 u4))
      obtain ⟨a4, c4, hv4⟩ := HLen.out _ _ _ O4.out
      subst hv4
      have R4 := hid (HRow.out _ _ _ O4.out)
      have U4 := hid (HU.out.trans V4.out)
      have HC4 := hid (HCv.out _ U4.out)
      generalize Fl.anyG G M.length = S at *
      have HB4 := hid (fun W (hW : Old w4 W) => HBk.out _ W (HBr.out.old (V4.out.trans hW)))
      have HS4 := hid (fun W (hW : Old w4 W) => HSelf.out _ W (R4.out.old hW))
      have HC5 := hid (fun W (hW : Old w4 W) => HCn.out _ W (R4.out.old hW))
      clear HBk HSelf HCn HCv HN HC HWm HGe HBr HOr
      cases S
      all_goals
        go_wp2_with (first | (go_at_call_of 10 (Value.slice a M.length c); refine HC4.out.mono ?_; rintro e w5 ⟨rfl, u5⟩; have U5 := hid u5; clear u5) | (go_at_call_of 10 (Value.slice a4 D.length c4); refine (HC5.out _ U5.out).mono ?_; rintro e w6 ⟨rfl, u6⟩; have U6 := hid (U5.out.trans u6); clear u6) | (go_at_call_of 5 (Value.slice a2 M.length c2); refine (HB4.out _ U6.out).mono ?_; rintro e w7 ⟨v7, rfl, o7, u7⟩; have O7 := hid o7; have U7 := hid (U6.out.trans u7); clear o7 u7) | (go_at_call_of 7 v7; refine (same_rows _ _ D.length (atS (D.map Fl.spo)) _ (HRow.out _ _ _ O7.out) (R4.out.old U7.out)).mono ?_; rintro e w8 ⟨rfl, u8⟩; have U8 := hid (U7.out.trans u8); clear u8) | (go_at_call_of 5 (Value.slice a4 D.length c4); refine (HS4.out _ U8.out).mono ?_; rintro e w9 ⟨v9, rfl, o9, u9⟩; have O9 := hid o9; have U9 := hid (U8.out.trans u9); clear o9 u9) | (go_at_call_of 7 v9; refine (same_rows _ _ D.length (atS (D.map Fl.spo)) _ (HRow.out _ _ _ O9.out) (R4.out.old U9.out)).mono ?_; rintro e w10 ⟨rfl, u10⟩; have U10 := hid (U9.out.trans u10); clear u10))
        go_ret
        exact ⟨rfl, U4.out.trans U10.out⟩
end Go.Proofs.Ytcafknecomgmaaa
