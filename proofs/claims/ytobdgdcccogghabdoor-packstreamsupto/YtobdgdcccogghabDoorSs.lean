/- What the law PackStreams returns: true; conditions: the table lies where its initialiser lays it, and there are at most 1048576 payloads. -/
import Derived.Test.YtobdgdcccogghabDoorSr
namespace Go.Proofs.YtobdgdcccogghabDoor
open Go.RowKit
set_option linter.unusedVariables false
theorem OwnS.empty {base g : Nat} {w : World} (hb : base ≤ w.heap.size) (hg : w.heap.size = g) : OwnS base (w.alloc (.cells #[] 22)) (.slice (some ⟨g, 0, none⟩) 0 0) [] := by
  subst hg
  exact World.ownsRow_made w #[] 0 hb (by unfold maxLen; omega) rfl
theorem OwnS.grown {base : Nat} {w w' : World} {v : Value} {L : List Pay} {row : Option Nat} (h : OwnS base w v L) (g : w.grownBy w' row) (hne : v.ownBlock = none ∨ v.ownBlock ≠ row) : OwnS base w' v L := World.ownsRow.kept h g hne
theorem OwnS.alloc {base : Nat} {w : World} {v : Value} {L : List Pay} (h : OwnS base w v L) (o : Obj) : OwnS base (w.alloc o) v L := World.ownsRow.alloc h o
theorem ByRow.pre {w : World} {b off n c : Nat} {x : Nat → Nat} (h : ByRow w (.slice (some ⟨b, off, none⟩) n c) n x) (k : Nat) (hk : k ≤ n) : ByRow w (.slice (some ⟨b, off, none⟩) k c) k x := by
  by_cases hz : k = 0
  · subst hz; exact .inl ⟨rfl, _, _, rfl, fun h => by cases h⟩
  · obtain ⟨b', off', cap', hv, hc, h1, h2⟩ := h.cells (by omega)
    cases hv
    exact .inr ⟨by omega, by omega, b, off, c, rfl, fun i hi => hc i (by omega), by omega, h2⟩
theorem own_next {base : Nat} {w : World} {v : Value} {L : List Nat} {p : Pay} (h : OwnB base w v (L.length + (8 + p.n)) (cat L.length (gd L) (frm p.n (Crc.sum p.x p.n) p.x))) : OwnL base w v (L ++ fr p) := by
  apply OwnL.app
  rw [fr_len]
  refine h.congr (fun i hi => ?_)
  unfold cat
  by_cases hi2 : i < L.length
  · rw [if_pos hi2, if_pos hi2]
  · rw [if_neg hi2, if_neg hi2, fr_get p _ (by omega)]
theorem kp_mem (P : Nat → Pay) : ∀ i, ∀ p ∈ kp P i, ∃ k, k < i ∧ p = P k
  | 0, p, h => by simp [kp] at h
  | i + 1, p, h => by
    rw [show kp P (i + 1) = if (P i).n ≤ 4096 then kp P i ++ [P i] else kp P i from rfl] at h
    split at h
    · simp at h; rcases h with h | h
      · obtain ⟨k, hk, e⟩ := kp_mem P i p h; exact ⟨k, by omega, e⟩
      · exact ⟨i, by omega, h⟩
    · obtain ⟨k, hk, e⟩ := kp_mem P i p h; exact ⟨k, by omega, e⟩
theorem OwnS.shape {base : Nat} {w : World} {v : Value} {L : List Pay} (h : OwnS base w v L) : ∃ ak ck, v = .slice ak L.length ck ∧ ∀ t (ht : t < L.length), ∃ g, ak = some ⟨g, 0, none⟩ ∧ w.cell? ⟨g, t, none⟩ = some (L[t]).v := by
  have h0 := h
  rcases h.2 with ⟨rfl, e⟩ | ⟨g, cap, cur, rfl, _⟩
  · exact ⟨none, 0, by rw [e], fun t ht => by omega⟩
  · refine ⟨_, cap, rfl, fun t ht => ⟨g, rfl, ?_⟩⟩
    rw [World.ownsRow.cellAt h0 t (by omega)]
    simp [ht]
theorem ByRow.len {w : World} {v : Value} {n : Nat} {x : Nat → Nat} (h : ByRow w v n x) : ∃ a c, v = .slice a n c := by
  rcases h with ⟨e, a, c, hb, _⟩ | ⟨_, _, b, off, cap, hb, _⟩
  · exact ⟨a, c, by rw [hb, e]⟩
  · exact ⟨_, _, hb⟩
theorem ByRow.tail {w : World} {b off n cap : Nat} {x : Nat → Nat} (h : ByRow w (.slice (some ⟨b, off, none⟩) n cap) n x) (k o : Nat) (hk : k ≤ n) (ho : n - k = 0 ∨ o = off + k) : ByRow w (.slice (some ⟨b, o, none⟩) (n - k) (cap - k)) (n - k) (sh k x) := by
  by_cases hz : n - k = 0
  · rw [hz]; exact .inl ⟨rfl, _, _, rfl, fun h => by cases h⟩
  · obtain ⟨b', off', cap', hv, hc, h1, h2⟩ := h.cells (by omega)
    cases hv
    obtain rfl : o = off + k := by rcases ho with h | h; omega; exact h
    exact slice_row hc h2 k (n - k) (cap - k) (by omega) (by omega) (by omega) (by omega)
theorem cc_drop (L : List Pay) (t : Nat) (ht : t < L.length) : cc (L.drop t) = fr L[t] ++ cc (L.drop (t + 1)) := by
  rw [List.drop_eq_getElem_cons ht]; rfl
theorem rest_eq (A B : List Nat) (i : Nat) : sh A.length (gd (A ++ B)) i = gd B i := by
  unfold sh gd
  simp only [List.getD]
  rw [List.getElem?_append_right (by omega), Nat.add_sub_cancel_left]
theorem ByRow.congr {w : World} {v : Value} {n : Nat} {x y : Nat → Nat} (h : ByRow w v n x) (e : ∀ i, i < n → x i = y i) : ByRow w v n y := by
  rcases h with h | ⟨hn, hm, b, off, cap, hv, hc, hcp⟩
  · exact .inl h
  · exact .inr ⟨hn, hm, b, off, cap, hv, fun i hi => by rw [← e i hi]; exact hc i hi, hcp⟩
set_option maxHeartbeats 2000000 in
theorem streams1 (a0 : Option Addr) (m c0 : Nat) (P : Nat → Pay) (at_ : Int) (w : World) (ht : Tab w) (hm : m ≤ 1048576) (hc : ∀ i, i < m → ∃ b off, a0 = some ⟨b, off, none⟩ ∧ w.cell? ⟨b, off + i, none⟩ = some (P i).v ∧ ByRow w (P i).v (P i).n (P i).x) :
    Calls Tryd.prog 5 #[.slice a0 m c0, .int .i64 at_] w fun e w' => e = .returned (.bool true) ∧ Up w w' := by
  have HT := hid ht
  have HC := hid hc
  obtain ⟨M, hM, eM⟩ := and_mask at_ 8191 (by omega)
  rw [show ((8191 : Nat) : Int) = 8191 from rfl] at eM
  clear ht hc
  go_enter Tryd.func5, Tryd.ntmps5
  go_wp2_with (go_at_call 9; refine (framing_any w HT.out).mono ?_; rintro e W1 ⟨rfl, u1⟩; have U1 := hid u1; clear u1)
  go_loopw [5, 6, 26] (fun a k i wr => ∃ j : Nat, j ≤ m ∧ i = .int .i64 (j : Nat) ∧ OwnL w.heap.size wr a (cc (kp P j)) ∧ OwnS w.heap.size wr k (kp P j) ∧ Up w wr) (fun _ _ i _ => m - (intOf i).toNat)
  case atStart =>
    refine ⟨0, Nat.zero_le _, rfl, ?_, ?_, (U1.out.alloc _).alloc _⟩
    · exact (OwnB.empty (x := gd []) (Below.size U1.out) rfl).alloc _
    · exact OwnS.empty (by have := Below.size U1.out; simp; omega) (by simp)
  case round =>
    obtain ⟨j, hj, rfl, ho, hs, hu⟩ := hrel
    by_cases hlt : j < m
    · obtain ⟨b, off, rfl, hcell, hrow⟩ := HC.out j hlt
      have hcell2 := hu.keep hcell
      have HO := hid ho
      have HS := hid hs
      have HR := hid (hrow.up hu)
      have HTr := hid (HT.out.up hu)
      have hlen := hid (cc_len P j)
      have hkl := hid (kp_len P j)
      have hle := hid (Below.size hu)
      obtain ⟨ap, cp, hpv⟩ : ∃ ap cp, (P j).v = .slice ap (P j).n cp := by
        rcases hrow with ⟨e, a, c, hb, _⟩ | ⟨_, _, b, off, cap, hb, _⟩
        · exact ⟨a, c, by rw [hb, e]⟩
        · exact ⟨_, _, hb⟩
      rw [hpv] at hcell2 HR
      have HPV := hid hpv
      clear ho hs HC hrow hpv hcell
      by_cases hn : (P j).n ≤ 4096
      · have HK := hid (show kp P (j + 1) = kp P j ++ [P j] by show (if _ then _ else _) = _; rw [if_pos hn])
        have HF := hid (frame_ok _ (P j).n (P j).x _ HTr.out HR.out hn)
        have H1c := hid HR.out.one
        have HX := hid HR.out.lt
        obtain ⟨N, hN⟩ : ∃ N, 8 + (P j).n = N := ⟨_, rfl⟩
        rw [hN] at HF
        have h8 : 8 ≤ N := by omega
        have hN2 : N ≤ 4104 := by omega
        have hI : M % N < N := Nat.mod_lt _ (by omega)
        go_wp2_with (first | (go_at_call 10; refine HF.out.mono ?_; rintro e W2 ⟨f2, rfl, o2, u2⟩; obtain ⟨g2, cp2, rfl, hg2, hgl2, hcap2, hcm2, hcl2, _⟩ := o2.shape (by omega); have H2 := hid o2; have U2 := hid u2; have HO2 := hid (OwnB.up HO.out u2); have HS2 := hid (HS.out.up u2); have hcl := hid hcl2; clear o2 u2 hcl2) | (at_builtin; refine wp_app rfl (.tmp 37) (.tmp 38) rfl w.heap.size _ _ (cc (kp P j)).length N (gd (cc (kp P j))) (frm (P j).n (Crc.sum (P j).x (P j).n) (P j).x) rfl rfl HO2.out H2.out.row (by have := hlen.out; omega) (Nat.le_trans hle.out (Below.size U2.out)) ?_; intro va W3 o3 g3 b3; have HA3 := hid o3; have HB3 := hid b3; have HS3 := hid (HS2.out.grown g3.by_ (own_apart HO2.out HS2.out).2); have HF3 := hid (H2.out.row.grown g3.by_ (.inr (by intro e; have := (HO.out.own.lt g2 e.symm).2; omega))); clear o3 g3 b3) | (at_builtin; refine wp_keep rfl (.tmp 40) (.tmp 42) rfl w.heap.size _ (kp P j) (P j) _ _ rfl rfl (HS3.out.alloc _) (by rw [HPV.out]; exact cell_new _ _ _ _ _ _ rfl) (by rw [HPV.out]; rfl) (by have := hkl.out; omega) (by have := hle.out; have := Below.size U2.out; have := HB3.out.size; simp; omega) ?_; intro vk W4 o4 g4 b4; have HK4 := hid o4; have HA4 := hid ((HA3.out.alloc (.cells #[.slice ap (P j).n cp] 22)).grown g4 (own_apart (HA3.out.alloc (.cells #[.slice ap (P j).n cp] 22)) (HS3.out.alloc _)).1); have HF4 := hid ((HF3.out.up ((Up.refl W3).alloc (.cells #[.slice ap (P j).n cp] 22))).grown g4 (.inr (by intro e; have := (HS.out.lt g2 e.symm).2; omega))); have HU4 := hid (show Up w W4 from Below.trans (Below.trans (Up.trans hu U2.out) HB3.out) (Below.trans (((Up.refl W3).alloc _).mono (by have := hle.out; have := Below.size U2.out; have := HB3.out.size; omega)) b4)); clear o4 g4 b4))
        have hE := unf_cut (P j).n (Crc.sum (P j).x (P j).n) (M % N) (P j).x hn (by omega)
        obtain ⟨e1, e2⟩ := unf_no hE (by omega)
        have hun := unframe_any _ (M % N) _ W4 (HT.out.up HU4.out) (HF4.out.pre (M % N) (by omega))
        rw [hE, e1, e2] at hun
        refine hun.mono ?_
        rintro e W5 ⟨q5, rfl, o5, u5⟩
        have U5 := hid u5
        clear o5 u5 hun hE e1 e2
        go_wp2
        go_roundw
        case rel =>
          refine ⟨j + 1, hlt, by go_num, ?_, ?_, Up.trans HU4.out U5.out⟩
          · rw [HK.out, cc_app]
            exact own_next (by rw [hN]; exact HA4.out.up U5.out)
          · rw [HK.out]; exact HK4.out.up U5.out
        case measure => simp [intOf]; omega
      · have HK := hid (show kp P (j + 1) = kp P j by show (if _ then _ else _) = _; rw [if_neg hn])
        have HF := hid (frame_long _ (P j).n (P j).x _ HR.out (by omega))
        have t2 : ((2 : Int) != 0) = true := by decide
        go_wp2_with (go_at_call 10; refine HF.out.mono ?_; rintro e w' ⟨rfl, hw⟩; have hw2 := hw.symm; subst hw2)
        go_roundw
        case rel => exact ⟨j + 1, hlt, by go_num, by rw [HK.out]; exact HO.out, by rw [HK.out]; exact HS.out, hu⟩
        case measure => simp [intOf]; omega
    · obtain rfl : j = m := by omega
      have HPS := hid (show ∀ p ∈ kp P j, ByRow w p.v p.n p.x ∧ p.n ≤ 4096 from fun p hp => by
        obtain ⟨k, hk, rfl⟩ := kp_mem P j p hp
        obtain ⟨b, off, _, _, hr⟩ := HC.out k hk
        exact ⟨hr, kp_small P j _ hp⟩)
      have hrow := OwnB.row ho
      have hll := kp_len P j
      have hcl := cc_len P j
      clear HC ho
      generalize kp P j = L at *
      obtain ⟨ak, ck, rfl, hkc⟩ := hs.shape
      have HKC := hid hkc
      have HRow := hid hrow
      have hLl : L.length ≤ 1048576 := by omega
      have hHU := hid hu
      clear hs hkc hrow hll hcl hm hj hlt hu
      go_wp2
      go_loopw [5, 62] (fun a i w2 => ∃ t : Nat, t ≤ L.length ∧ i = .int .i64 (t : Nat) ∧ ByRow w2 a (cc (L.drop t)).length (gd (cc (L.drop t))) ∧ Up wr w2) (fun _ i _ => L.length - (intOf i).toNat)
      case atStart => exact ⟨0, Nat.zero_le _, rfl, by simpa using HRow.out, Up.refl _⟩
      case round =>
        obtain ⟨t, ht, rfl, hra, hu2⟩ := hrel
        by_cases hlt : t < L.length
        · obtain ⟨g, rfl, hkcell⟩ := HKC.out t hlt
          have hkc2 := hu2.keep hkcell
          obtain ⟨hpr, hpn⟩ := HPS.out L[t] (List.getElem_mem hlt)
          have hall := Up.trans hHU.out hu2
          have hpr2 := hpr.up hall
          have hcd := cc_drop L t hlt
          obtain ⟨ap, cp, hpv⟩ := hpr.len
          obtain ⟨hE, hw3, hs8⟩ := unf_head L[t] (gd (cc (L.drop t))) (cc (L.drop t)).length hpn (by rw [hcd, List.length_append, fr_len]; omega) (fun i hi => by
            rw [hcd, ← gd_cat _ _ i (by rw [List.length_append, fr_len]; omega)]
            unfold cat; rw [if_pos (by rw [fr_len]; exact hi)]; exact fr_get _ _ hi)
          obtain ⟨e1, e2⟩ := unf_ok hE
          have hlen : (cc (L.drop t)).length = 8 + (L[t]).n + (cc (L.drop (t + 1))).length := by rw [hcd, List.length_append, fr_len]
          have hrest : ∀ i, sh (8 + (L[t]).n) (gd (cc (L.drop t))) i = gd (cc (L.drop (t + 1))) i := fun i => by rw [hcd, ← fr_len]; exact rest_eq _ _ i
          have hun := unframe_any _ _ _ _ (HT.out.up hall) hra
          rw [hE, e1, e2, hw3] at hun
          obtain ⟨b2, off2, cap2, rfl, _, hcp1, hcp2⟩ := hra.cells (by omega)
          have htl := fun (o : Nat) (hq : (cc (L.drop t)).length - (8 + (L[t]).n) = 0 ∨ o = off2 + (8 + (L[t]).n)) => (hra.tail (8 + (L[t]).n) o (by omega) hq).congr (fun i _ => hrest i)
          have hd : (cc (L.drop t)).length - (8 + (L[t]).n) = (cc (L.drop (t + 1))).length := by omega
          rw [hpv] at hkc2 hpr2
          rw [hd] at htl
          have HUn := hid hun
          have HTl := hid htl
          have HPr := hid hpr2
          have HS8 := hid hs8
          clear hE e1 e2 hw3 hcd hra hun htl hrest hs8 hpr hpr2 hpv HKC HPS hkcell
          generalize (cc (L.drop t)).length = n1 at *
          generalize hn2 : (cc (L.drop (t + 1))).length = n2 at *
          generalize gd (cc (L.drop t)) = y1 at *
          generalize hy2 : gd (cc (L.drop (t + 1))) = y2 at *
          have HN2 := hid hn2
          have HY2 := hid hy2
          clear hn2 hy2
          generalize (L[t]).n = pn at *
          generalize (L[t]).x = px at *
          unfold maxLen at hcp2
          have hle1 : 8 + pn ≤ n1 := by omega
          have HD := hid hd
          clear hlen hd
          have tn : (((8 + pn : Nat) : Int) != (pn : Int) + 8) = false := by rw [bne_eq_false_iff_eq]; omega
          go_wp2_with (first | (go_at_call 13; refine HUn.out.mono ?_; rintro e W5 ⟨q5, rfl, o5, u5⟩; have H5 := hid o5; have U5 := hid u5; clear o5 u5) | (go_at_call 12; refine (sameBytes_eq _ _ pn px _ _ (HPr.out.up U5.out) H5.out.row (fun i hi => (HS8.out i hi).symm)).mono ?_; rintro e _ ⟨rfl, mm, rfl⟩))
          go_roundw
          case rel =>
            refine ⟨t + 1, hlt, by go_num, ?_, (Up.trans hu2 U5.out).drewN _⟩
            rw [HN2.out, HY2.out, HD.out]
            have hq := HD.out
            split
            · next h => exact (HTl.out off2 (.inl (by omega))).up (U5.out.drewN _)
            · exact (HTl.out _ (.inr rfl)).up (U5.out.drewN _)
          case measure => simp [intOf]; omega
        · obtain rfl : t = L.length := by omega
          rw [List.drop_length] at hra
          obtain ⟨a5, c5, rfl⟩ := hra.len
          have hfin := Up.trans hHU.out hu2
          clear hra
          go_wp2
          go_ret
          exact ⟨rfl, hfin⟩
end Go.Proofs.YtobdgdcccogghabDoor
