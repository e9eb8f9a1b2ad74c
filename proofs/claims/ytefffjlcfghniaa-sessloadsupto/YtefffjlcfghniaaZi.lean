/- The document's Sessions of layer 13: the sessions of its items, rising; conditions: the row lies in memory, no session's number is below 1. -/
import Derived.Test.YtefffjlcfghniaaZh
namespace Go.Proofs.Ytefffjlcfghniaa
open Go.RowKit Go.Lib
set_option linter.unusedVariables false
set_option linter.unusedSimpArgs false
set_option maxRecDepth 20000
def lenV : Value → Nat | .slice _ n _ => n | _ => 0
theorem nodup_len : ∀ (O M : List Int), O.Nodup → (∀ x ∈ O, x ∈ M) → O.length ≤ M.length
  | [], M, _, _ => Nat.zero_le _
  | x :: t, M, h, hs => by
    have h2 := List.nodup_cons.1 h
    have hx := hs x (List.mem_cons_self ..)
    have q := nodup_len t (M.erase x) h2.2 (fun y hy => (List.mem_erase_of_ne (fun e => h2.1 (by rw [← e]; exact hy))).2 (hs y (List.mem_cons_of_mem _ hy)))
    rw [List.length_erase_of_mem hx] at q
    have := List.length_pos_of_mem hx
    simp
    omega
/-- The last one, 0 of none. -/
def loS (O : List Int) : Int := if O.length = 0 then 0 else O.getD (O.length - 1) 0
/-- The least session above lo in the first k items, 0 of none. -/
def nxS (lo : Int) (T : List Opv) : Nat → Int
  | 0 => 0
  | k + 1 => if lo < (opA T k).s ∧ (nxS lo T k = 0 ∨ (opA T k).s < nxS lo T k) then (opA T k).s else nxS lo T k
theorem nxS_spec (lo : Int) (T : List Opv) (h1 : ∀ i, i < T.length → 1 ≤ (opA T i).s) (hlo : 0 ≤ lo) : ∀ k, k ≤ T.length → (nxS lo T k = 0 ∧ ∀ i, i < k → (opA T i).s ≤ lo) ∨ (lo < nxS lo T k ∧ (∃ i, i < k ∧ (opA T i).s = nxS lo T k) ∧ ∀ i, i < k → lo < (opA T i).s → nxS lo T k ≤ (opA T i).s)
  | 0, _ => Or.inl ⟨rfl, fun i hi => by omega⟩
  | k + 1, hk => by
    have ih := nxS_spec lo T h1 hlo k (by omega)
    have hs := h1 k (by omega)
    show (((if lo < (opA T k).s ∧ (nxS lo T k = 0 ∨ (opA T k).s < nxS lo T k) then (opA T k).s else nxS lo T k) = 0 ∧ _) ∨ _)
    have e : nxS lo T (k + 1) = if lo < (opA T k).s ∧ (nxS lo T k = 0 ∨ (opA T k).s < nxS lo T k) then (opA T k).s else nxS lo T k := rfl
    rw [← e]
    rcases ih with ⟨a, b⟩ | ⟨a, ⟨i0, i1, i2⟩, c⟩
    · by_cases q : lo < (opA T k).s
      · rw [if_pos ⟨q, Or.inl a⟩] at e
        rw [e]
        exact Or.inr ⟨q, ⟨k, by omega, rfl⟩, fun i hi hl => by
          by_cases z : i = k
          · rw [z]; exact Int.le_refl _
          · have := b i (by omega); omega⟩
      · rw [if_neg (fun z => q z.1)] at e
        rw [e]
        exact Or.inl ⟨a, fun i hi => by
          by_cases z : i = k
          · rw [z]; omega
          · exact b i (by omega)⟩
    · by_cases q : lo < (opA T k).s ∧ (opA T k).s < nxS lo T k
      · rw [if_pos ⟨q.1, Or.inr q.2⟩] at e
        rw [e]
        exact Or.inr ⟨q.1, ⟨k, by omega, rfl⟩, fun i hi hl => by
          by_cases z : i = k
          · rw [z]; exact Int.le_refl _
          · have := c i (by omega) hl; omega⟩
      · rw [if_neg (fun z => q ⟨z.1, z.2.resolve_left (by omega)⟩)] at e
        rw [e]
        exact Or.inr ⟨a, ⟨i0, by omega, i2⟩, fun i hi hl => by
          by_cases z : i = k
          · rw [z] at hl ⊢; exact Int.not_lt.1 (fun y => q ⟨hl, y⟩)
          · exact c i (by omega) hl⟩
/-- The sessions so far: they rise, each is an item's, and no item's that is not above the last one lacks. -/
structure Sofar (T : List Opv) (O : List Int) : Prop where
  rise : O.Pairwise (· < ·)
  of : ∀ x ∈ O, ∃ i, i < T.length ∧ (opA T i).s = x
  all : ∀ i, i < T.length → (opA T i).s ≤ loS O → (opA T i).s ∈ O
  lo : ∀ x ∈ O, x ≤ loS O
  pos : 0 ≤ loS O
theorem loS_app (O : List Int) (x : Int) : loS (O ++ [x]) = x := by simp [loS]
theorem Sofar.nil (T : List Opv) (h1 : ∀ i, i < T.length → 1 ≤ (opA T i).s) : Sofar T [] where
  rise := List.Pairwise.nil
  of := fun x h => by cases h
  all := fun i hi h => by have := h1 i hi; simp [loS] at h; omega
  lo := fun x h => by cases h
  pos := by simp [loS]
theorem Sofar.next {T : List Opv} {O : List Int} (h : Sofar T O) (h1 : ∀ i, i < T.length → 1 ≤ (opA T i).s) (hn : nxS (loS O) T T.length ≠ 0) : Sofar T (O ++ [nxS (loS O) T T.length]) := by
  obtain ⟨a, ⟨i0, i1, i2⟩, c⟩ := (nxS_spec (loS O) T h1 h.pos T.length (Nat.le_refl _)).resolve_left (fun z => hn z.1)
  refine ⟨List.pairwise_append.2 ⟨h.rise, by simp, fun x hx y hy => ?_⟩, fun x hx => ?_, fun i hi hl => ?_, fun x hx => ?_, by rw [loS_app]; have := h.pos; omega⟩
  · simp at hy; subst hy; have := h.lo x hx; omega
  · rcases List.mem_append.1 hx with q | q
    · exact h.of x q
    · simp at q; exact ⟨i0, i1, by rw [i2, q]⟩
  · rw [loS_app] at hl
    by_cases z : (opA T i).s ≤ loS O
    · exact List.mem_append_left _ (h.all i hi z)
    · have := c i hi (by omega)
      exact List.mem_append_right _ (by simp; omega)
  · rw [loS_app]
    rcases List.mem_append.1 hx with q | q
    · have := h.lo x q; omega
    · simp at q; omega
theorem Sofar.len {T : List Opv} {O : List Int} (h : Sofar T O) : O.length ≤ T.length := by
  have hnd : O.Nodup := h.rise.imp (fun q => by omega)
  have hsub : O ⊆ T.map (·.s) := fun x hx => by
    obtain ⟨i, hi, e⟩ := h.of x hx
    rw [List.mem_map]
    exact ⟨T[i], List.getElem_mem hi, by rw [← e]; simp [opA, List.getD_eq_getElem?_getD, List.getElem?_eq_getElem hi]⟩
  have := nodup_len O _ hnd hsub
  simpa using this
/-- All sessions of the items, rising. -/
structure SessR (T : List Opv) (O : List Int) : Prop where
  rise : O.Pairwise (· < ·)
  mem : ∀ x, x ∈ O ↔ ∃ i, i < T.length ∧ (opA T i).s = x
theorem Sofar.done {T : List Opv} {O : List Int} (h : Sofar T O) (h1 : ∀ i, i < T.length → 1 ≤ (opA T i).s) (hn : nxS (loS O) T T.length = 0) : SessR T O := by
  have q : ∀ i, i < T.length → (opA T i).s ≤ loS O := ((nxS_spec (loS O) T h1 h.pos T.length (Nat.le_refl _)).resolve_right (fun z => by have := h.pos; omega)).2
  exact ⟨h.rise, fun x => ⟨h.of x, fun ⟨i, hi, e⟩ => by rw [← e]; exact h.all i hi (q i hi)⟩⟩
set_option maxHeartbeats 4000000 in
set_option maxRecDepth 20000 in
theorem rSessions_any (v : Value) (T : List Opv) (w : World) (hv : RRow w v T) (h1 : ∀ i, i < T.length → 1 ≤ (opA T i).s) :
    Calls Try.prog 37 #[.agg #[v]] w fun e w' => ∃ v' O, e = .returned v' ∧ SessR T O ∧ O.length ≤ T.length ∧ OwnN w.heap.size w' v' O ∧ Old w w' := by
  obtain ⟨hm, p, c, rfl, hc⟩ := hv
  have HC := hid hc
  have H1 := hid h1
  clear hc h1
  go_enter Try.func37, Try.ntmps37
  go_upto_region 1 with fail
  generalize hw1 : w.alloc (.cells #[.slice p T.length c] 42) = w1 at *
  obtain ⟨hb1, hu1⟩ := rtab_new w (.slice p T.length c) w1 hw1 _ rfl
  have HSz := hid hu1.size
  obtain ⟨tb, htb⟩ : ∃ tb, w.heap.size = tb := ⟨_, rfl⟩
  rw [htb] at hb1
  simp only [htb]
  have B1 := hid hb1
  have U1 := hid hu1
  clear hw1 hb1 hu1 htb
  go_upto_region 2 with fail
  have O2 := hid (show OwnN w1.heap.size (w1.alloc (.cells #[] 2)) (.slice (some ⟨w1.heap.size, 0, none⟩) 0 0) [] from World.ownsRow_made w1 #[] 0 (Nat.le_refl _) (by unfold maxLen; omega) rfl)
  have U2 := hid ((Old.refl w1).alloc (.cells #[] 2))
  generalize w1.alloc (.cells #[] 2) = w2 at *
  obtain ⟨n, hn⟩ : ∃ n, T.length = n := ⟨_, rfl⟩
  simp only [hn]
  rw [hn] at B1 hm
  have HN := hid hn
  clear hn
  have ln : (n : Int) ≤ 1000 := by omega
  go_wp2
  go_loopw [3] (fun out wr => ∃ O : List Int, OwnN w1.heap.size wr out O ∧ Sofar T O ∧ Old w1 wr) (fun out _ => n + 1 - lenV out)
  case atStart => exact ⟨[], O2.out, Sofar.nil T H1.out, U2.out⟩
  case round =>
    obtain ⟨O, hO, hS, hu⟩ := hrel
    have HO := hid hO
    have HS := hid hS
    have U := hid hu
    have hle : O.length ≤ n := by have := hS.len; rw [HN.out] at this; exact this
    obtain ⟨_, pa, ca, rfl, hca⟩ := hO.nrow (by omega)
    have HCA := hid hca
    clear hO hS hu hca O2 U2
    have HLo : Hid (loS O = if O.length = 0 then 0 else O.getD (O.length - 1) 0) := hid rfl
    generalize hm' : O.length = m at *
    have HM := hid hm'
    clear hm'
    obtain ⟨lo, hlo⟩ : ∃ lo, loS O = lo := ⟨_, rfl⟩
    rw [hlo] at HLo
    have HL := hid hlo
    clear hlo
    generalize wr = W at *
    go_upto_region 3 with fail
    go_wp2
    go_loopw [4, 5] (fun z i wr => ∃ k : Nat, k ≤ n ∧ z = .int .i64 (nxS lo T k) ∧ i = .int .i64 (k : Nat) ∧ Old W wr) (fun _ i _ => n - (intOf i).toNat)
    case atStart => exact ⟨0, Nat.zero_le _, rfl, rfl, Old.refl _⟩
    case round =>
      obtain ⟨k, hk, rfl, rfl, hu⟩ := hrel
      have V := hid hu
      have t1 := V.out.keep (U.out.keep B1.out)
      clear hu
      by_cases hlt : k < n
      · obtain ⟨b, ea, hI⟩ := HC.out k (by rw [HN.out]; exact hlt)
        subst ea
        obtain ⟨z0, z1, z2, z3⟩ := hI.old (U1.out.trans (U.out.trans V.out))
        have hs1 := H1.out k (by rw [HN.out]; exact hlt)
        have l1 : (0 : Int) ≤ (k : Int) := by omega
        have l2 : (k : Int) < (n : Int) := by omega
        have HX : Hid (nxS lo T (k + 1) = if lo < (opA T k).s ∧ (nxS lo T k = 0 ∨ (opA T k).s < nxS lo T k) then (opA T k).s else nxS lo T k) := hid rfl
        clear hI HC z1 z2 z3
        generalize (opA T k).s = s at *
        generalize nxS lo T k = nx at *
        by_cases em : m = 0
        · subst em
          have hl0 : lo = 0 := HLo.out
          have q : lo < s := by omega
          clear HLo HCA
          by_cases e0 : nx = 0
          · have r0 : (nx == 0) = true := by rw [beq_iff_eq]; exact e0
            go_wp2
            go_roundw
            case rel => exact ⟨k + 1, hlt, by rw [HX.out, if_pos ⟨q, Or.inl e0⟩], by go_num, V.out⟩
            case measure => simp [intOf]; omega
          · have r0 : (nx == 0) = false := by rw [beq_eq_false_iff_ne]; exact e0
            by_cases e1 : s < nx
            · skip
              go_wp2
              go_roundw
              case rel => exact ⟨k + 1, hlt, by rw [HX.out, if_pos ⟨q, Or.inr e1⟩], by go_num, V.out⟩
              case measure => simp [intOf]; omega
            · skip
              go_wp2
              go_roundw
              case rel => exact ⟨k + 1, hlt, by rw [HX.out, if_neg (fun z => z.2.elim e0 e1)], by go_num, V.out⟩
              case measure => simp [intOf]; omega
        · have rm : ((m : Int) == 0) = false := by rw [beq_eq_false_iff_ne]; omega
          obtain ⟨g, go, e1, hy0⟩ := HCA.out (m - 1) (by omega)
          subst e1
          have hy := V.out.keep hy0
          have hlv := HLo.out
          rw [if_neg em] at hlv
          rw [← hlv] at hy
          clear hy0 HCA hlv HLo
          obtain ⟨m', rfl⟩ : ∃ m', m = m' + 1 := ⟨m - 1, by omega⟩
          rw [show m' + 1 - 1 = m' by omega] at hy
          have w1 : ((m' + 1 : Nat) : Int) - 1 = (m' : Int) := by omega
          have w2' : ((m' : Int) + 1) - 1 = (m' : Int) := by omega
          have w3 : (0 : Int) ≤ (m' : Int) := by omega
          have w4 : (m' : Int) < (m' : Int) + 1 := by omega
          have w5 : (m' : Int) ≤ 1000 := by omega
          by_cases q : lo < s
          · have q' : s > lo := q
            by_cases e0 : nx = 0
            · have r0 : (nx == 0) = true := by rw [beq_iff_eq]; exact e0
              go_wp2
              go_roundw
              case rel => exact ⟨k + 1, hlt, by rw [HX.out, if_pos ⟨q, Or.inl e0⟩], by go_num, V.out⟩
              case measure => simp [intOf]; omega
            · have r0 : (nx == 0) = false := by rw [beq_eq_false_iff_ne]; exact e0
              by_cases e1 : s < nx
              · skip
                go_wp2
                go_roundw
                case rel => exact ⟨k + 1, hlt, by rw [HX.out, if_pos ⟨q, Or.inr e1⟩], by go_num, V.out⟩
                case measure => simp [intOf]; omega
              · skip
                go_wp2
                go_roundw
                case rel => exact ⟨k + 1, hlt, by rw [HX.out, if_neg (fun z => z.2.elim e0 e1)], by go_num, V.out⟩
                case measure => simp [intOf]; omega
          · have q' : ¬ s > lo := q
            go_wp2
            go_roundw
            case rel => exact ⟨k + 1, hlt, by rw [HX.out, if_neg (fun z => q z.1)], by go_num, V.out⟩
            case measure => simp [intOf]; omega
      · obtain rfl : n = k := by omega
        clear HC HCA HLo
        have HDn := hid (fun (z : nxS lo T n = 0) => HS.out.done H1.out (by rw [HL.out, HN.out]; exact z))
        have HNx := hid (fun (z : nxS lo T n ≠ 0) => HS.out.next H1.out (by rw [HL.out, HN.out]; exact z))
        rw [HL.out, HN.out] at HNx
        generalize nxS lo T n = nx at *
        by_cases e0 : nx = 0
        · have r0 : (nx == 0) = true := by rw [beq_iff_eq]; exact e0
          go_wp2
          go_ret
          exact ⟨_, O, rfl, HDn.out e0, by rw [HM.out, HN.out]; exact hle, OwnN.mono (HO.out.up V.out) HSz.out, U1.out.trans (U.out.trans V.out)⟩
        · have r0 : (nx == 0) = false := by rw [beq_eq_false_iff_ne]; exact e0
          have hS2 := HNx.out e0
          have hle2 := hS2.len
          rw [HN.out] at hle2
          simp at hle2
          rw [HM.out] at hle2
          have HS2 := hid hS2
          clear hS2 HNx HDn
          go_wp2_with (at_builtin; refine wp_appN rfl (.tmp 47) (.tmp 49) rfl w1.heap.size _ O _ 1 nx rfl rfl (OwnN.up HO.out (V.out.alloc _)) (cell_oneN _ _ _ (by first | rfl | simp)) (by rw [HM.out]; omega) (by have := (U.out.trans V.out).size; simp; omega) ?_; intro v8 w8 o8 g8 lo8; have V8 := hid (show Old w1 w8 from Below.grown ((U.out.trans V.out).alloc _) g8 (by have := (U.out.trans V.out).size; simp; omega) (fun q e => (World.ownsRow.lt HO.out q e).1)); have O8 := hid o8; clear o8 g8 lo8)
          obtain ⟨a8, c8, e8⟩ := O8.out.len
          rw [List.length_append, HM.out] at e8
          subst e8
          go_roundw
          case rel => exact ⟨O ++ [nx], O8.out, HS2.out, V8.out⟩
          case measure => simp [lenV]; omega
end Go.Proofs.Ytefffjlcfghniaa
