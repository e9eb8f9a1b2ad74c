/- The law ConfNext; no condition. -/
import Derived.Test.YtcicefpcledmgaaV18
import Derived.Test.YtcicefpcledmgaaV20
import Derived.Test.YtcicefpcledmgaaV27
import Derived.Test.YtcicefpcledmgaaV14
namespace Go.Proofs.Ytcicefpcledmgaa
open Go.RowKit Go.Lib
set_option linter.unusedVariables false
set_option linter.unusedSimpArgs false
set_option maxRecDepth 20000
theorem OwnI.empty {base g : Nat} {w : World} (hb : base ≤ w.heap.size) (hg : w.heap.size = g) : OwnI base (w.alloc (.cells #[] 3)) (.slice (some ⟨g, 0, none⟩) 0 0) [] := by
  subst hg
  have h := World.ownsRow_made (base := base) (e := 3) (size := 1) w #[] 0 hb (by unfold maxLen; omega) rfl
  exact h
theorem blk_there {w : World} {g : Nat} {t : TypeId} {s : Nat} (h : Blk w g t s) (i : Nat) (hi : i < s) : ∃ u, w.cell? ⟨g, i, none⟩ = some u ∧ w.frozen? ⟨g, i, none⟩ = false := by
  obtain ⟨u, hu⟩ := Option.isSome_iff_exists.1 (h.some i hi)
  exact ⟨u, hu, h.free i⟩
theorem blk_old {w w' : World} {g : Nat} {t : TypeId} {s : Nat} (h : Blk w g t s) (u : Old w w') : Blk w' g t s := by
  obtain ⟨cur, hg, hs⟩ := h
  exact ⟨cur, u.block hg, hs⟩
theorem next_uni {w w' : World} {F : Int} {V M : List Int} {e : Ending} (h : NxPost w F V M e w') : ∃ t1 z1 t2 z2, e = .returned (.tuple #[.agg #[.slice t1 (if F = 0 then V else []).length z1, .slice t2 (if F = 0 then M else []).length z2], .int .i64 F]) ∧ OwnI w.heap.size w' (.slice t1 (if F = 0 then V else []).length z1) (if F = 0 then V else []) ∧ OwnI w.heap.size w' (.slice t2 (if F = 0 then M else []).length z2) (if F = 0 then M else []) ∧ Old w w' := by
  obtain ⟨u, ⟨hF, rfl⟩ | ⟨hF, v1, v2, rfl, o1, o2⟩⟩ := h
  · rw [if_neg hF, if_neg hF]
    exact ⟨none, 0, none, 0, rfl, ⟨rfl, .inl ⟨rfl, rfl⟩⟩, ⟨rfl, .inl ⟨rfl, rfl⟩⟩, u⟩
  · rw [if_pos hF, if_pos hF]
    obtain ⟨t1, z1, rfl⟩ := o1.len
    obtain ⟨t2, z2, rfl⟩ := o2.len
    exact ⟨t1, z1, t2, z2, by rw [hF], o1, o2, u⟩
theorem own_where {base : Nat} {w : World} {t1 : Option Addr} {z1 : Nat} {L : List Int} (o : OwnI base w (.slice t1 L.length z1) L) : 0 < L.length → ∃ g, t1 = some ⟨g, 0, none⟩ ∧ base ≤ g ∧ g < w.heap.size ∧ L.length ≤ z1 ∧ Blk w g 3 z1 := by
  intro hl
  have o' := o
  unfold OwnI at o'
  rcases o'.2 with ⟨e, e0⟩ | ⟨g, cap, cur, e, _⟩
  · omega
  · cases e
    obtain ⟨b, hb, _, hc, _⟩ := o.blk
    exact ⟨g, rfl, hb, (World.ownsRow.lt o g rfl).2, hc, b⟩
set_option maxHeartbeats 8000000 in
set_option maxRecDepth 20000 in
theorem nextLaw (v0 : Value) (kd x : Int) (w : World) (h0 : CfB w v0) :
    Calls Try.prog 5 #[v0, .int .i64 kd, .int .i64 x] w fun e w' => e = .returned (.bool true) ∧ Old w w' := by
  obtain ⟨a1, a2, n, m, f, g, rfl, r1, r2, s1, s2⟩ := h0
  have R1 := hid r1
  have R2 := hid r2
  have S12 := hid (And.intro s1 s2)
  have hn := r1.1
  obtain ⟨_, p1, c1, rfl, _, _, _⟩ := r1
  obtain ⟨_, p2, c2, rfl, _, _, _⟩ := r2
  clear s1 s2
  go_enter Try.func5, Try.ntmps5
  go_upto_region 3 with (go_at_call 8; refine (alive_any _).mono ?_; rintro e w1 ⟨rfl, o1⟩; have O1 := hid (((Old.refl w).alloc _).trans o1); have x0 : w1.cell? ⟨w.heap.size, 0, none⟩ = some (.slice p1 n c1) := o1.keep (by simp); have x1 : w1.cell? ⟨w.heap.size, 1, none⟩ = some (.slice p2 m c2) := o1.keep (by simp); clear o1)
  generalize w.heap.size = B at *
  have xa : (w1.alloc (.cells #[] 3)).cell? ⟨B, 0, none⟩ = some (.slice p1 n c1) := ((Old.refl _).alloc _).keep x0
  go_upto_region 4 with (at_builtin; refine wp_appIs rfl (.tmp 15) (.tmp 17) rfl w1.heap.size _ _ [] n f rfl rfl (OwnI.empty (Nat.le_refl _) rfl) (R1.out.old (O1.out.alloc _)) S12.out.1 (by simp; omega) (by simp) ?_; intro vw w2 ow bw; have OW := hid ow; have U2 := hid (show Old w1 w2 from ((Old.refl w1).alloc _).below bw); clear ow bw)
  have HWas := hid (OW.out.rowL (n := n) (f := f) (by rw [List.nil_append, lsI_len]; exact hn) (by rw [List.nil_append, lsI_len]) (fun i hi => by rw [List.nil_append]; exact lsI_get f n i hi))
  obtain ⟨pw, cw, evw⟩ := OW.out.len
  rw [List.nil_append, lsI_len] at evw
  subst evw
  have y0 := U2.out.keep x0
  have y1 := U2.out.keep x1
  have O2 := hid (O1.out.trans U2.out)
  have HY0 := hid y0
  clear x0 x1 xa OW U2 O1
  have HNx := hid (fun (W : World) (u : Old w W) => (next_any _ _ n m f g kd x W (R1.out.old u) (R2.out.old u) S12.out.1 S12.out.2).mono fun e w' h => next_uni h)
  have HRx := hid (fun (W : World) (u : Old w W) => (rNext_any _ _ n m f g kd x W (R1.out.old u) (R2.out.old u)).mono fun e w' h => next_uni h)
  have HSm := hid (show (if fltC n f m g kd x = 0 then nxV kd x (lsI f n) else []).length ≤ 7 ∧ (if fltC n f m g kd x = 0 then nxL kd x (lsI g m) else []).length ≤ 7 from by
    by_cases h : fltC n f m g kd x = 0
    · rw [if_pos h, if_pos h]
      have rr := rightB_parts (rightG (next_right h))
      exact ⟨riK_few _ _ rr.2.1, riK_few _ _ rr.2.2.1⟩
    · rw [if_neg h, if_neg h]
      simp)
  generalize (if fltC n f m g kd x = 0 then nxV kd x (lsI f n) else []) = V at *
  generalize (if fltC n f m g kd x = 0 then nxL kd x (lsI g m) else []) = M at *
  generalize fltC n f m g kd x = F at *
  go_upto_region 5 with (go_at_call 10; refine (HNx.out _ O2.out).mono ?_; rintro e w3 ⟨t1, z1, t2, z2, rfl, o1, o2, u3⟩; have V1 := hid o1; have V2 := hid o2; have U3 := hid u3; clear o1 o2 u3)
  have D0 : (w3.alloc (.cells #[.slice t1 V.length z1, .slice t2 M.length z2] 24)).cell? ⟨w3.heap.size, 0, none⟩ = some (.slice t1 V.length z1) := by simp
  have D1 : (w3.alloc (.cells #[.slice t1 V.length z1, .slice t2 M.length z2] 24)).cell? ⟨w3.heap.size, 1, none⟩ = some (.slice t2 M.length z2) := by simp
  have HU4 := hid (U3.out.alloc (.cells #[.slice t1 V.length z1, .slice t2 M.length z2] 24))
  have W1 := hid (V1.out.up ((Old.refl w3).alloc (.cells #[.slice t1 V.length z1, .slice t2 M.length z2] 24)))
  have W2 := hid (V2.out.up ((Old.refl w3).alloc (.cells #[.slice t1 V.length z1, .slice t2 M.length z2] 24)))
  have HDb := hid (fun g e => (World.ownsRow.lt V1.out g e).2)
  have z0 := HU4.out.keep y0
  have z1' := HU4.out.keep y1
  generalize w3.alloc (.cells #[.slice t1 V.length z1, .slice t2 M.length z2] 24) = w4 at *
  generalize w3.heap.size = db at *
  clear HNx V1 V2 U3 y0 y1
  go_upto_region 6 with (go_at_call 15; refine (HRx.out _ (O2.out.trans HU4.out)).mono ?_; rintro e w5 ⟨t3, z3, t4, z4, rfl, o1, o2, u5⟩; have V1 := hid o1; have V2 := hid o2; have U5 := hid u5; clear o1 o2 u5)
  have E0 : (w5.alloc (.cells #[.slice t3 V.length z3, .slice t4 M.length z4] 24)).cell? ⟨w5.heap.size, 0, none⟩ = some (.slice t3 V.length z3) := by simp
  have E1 : (w5.alloc (.cells #[.slice t3 V.length z3, .slice t4 M.length z4] 24)).cell? ⟨w5.heap.size, 1, none⟩ = some (.slice t4 M.length z4) := by simp
  have HU6 := hid (U5.out.alloc (.cells #[.slice t3 V.length z3, .slice t4 M.length z4] 24))
  have Q1 := hid ((W1.out.up HU6.out).rowG (by have := HSm.out.1; omega))
  have Q2 := hid ((W2.out.up HU6.out).rowG (by have := HSm.out.2; omega))
  have Q3 := hid ((V1.out.up ((Old.refl w5).alloc (.cells #[.slice t3 V.length z3, .slice t4 M.length z4] 24))).rowG (by have := HSm.out.1; omega))
  have Q4 := hid ((V2.out.up ((Old.refl w5).alloc (.cells #[.slice t3 V.length z3, .slice t4 M.length z4] 24))).rowG (by have := HSm.out.2; omega))
  have HSa := hid (same_eq (.slice t1 V.length z1) (.slice t2 M.length z2) (.slice t3 V.length z3) (.slice t4 M.length z4) V.length M.length (gI V) (gI M) _ Q1.out Q2.out Q3.out Q4.out)
  have D2 := HU6.out.keep D0
  have D3 := HU6.out.keep D1
  have U46 := hid (HU4.out.trans HU6.out)
  have WW := hid (own_where (W1.out.up HU6.out))
  have HD6 := hid (fun g (e : t1 = some ⟨g, 0, none⟩) => HDb.out g (by subst e; rfl))
  generalize w5.alloc (.cells #[.slice t3 V.length z3, .slice t4 M.length z4] 24) = w6 at *
  generalize w5.heap.size = eb at *
  clear HRx V1 V2 U5 Q1 Q2 Q3 Q4 D0 D1 W1 W2 z0 z1' HDb HU4 HU6
  have hFF : (F != F) = false := by simp
  go_upto_region 9 with (go_at_call 16; refine HSa.out.mono ?_; rintro e w7 ⟨rfl, u7⟩; have U7 := hid u7; have D4 := u7.keep D2; clear u7)
  have HL7 := hid HSm.out.1
  have W7 := hid (fun h => by
    obtain ⟨g, e, h1, h2, h3, h4⟩ := WW.out h
    exact (⟨g, e, h1, HD6.out g e, h3, blk_old h4 U7.out⟩ : ∃ g, t1 = some ⟨g, 0, none⟩ ∧ w2.heap.size ≤ g ∧ g < db ∧ V.length ≤ z1 ∧ Blk w7 g 3 z1))
  have U27 := hid (U46.out.trans U7.out)
  generalize V.length = len at *
  have hl7 := HL7.out
  have hl7' : (len : Int) ≤ 7 := by omega
  clear WW HD6 U7 U46 HSm hFF D2 D3 E0 E1 HSa HL7
  go_loopw [45] (fun i wr => ∃ j : Nat, j ≤ len ∧ i = .int .i64 (j : Nat) ∧ Old w2 wr ∧ wr.cell? ⟨db, 0, none⟩ = some (.slice t1 len z1) ∧ (∀ g, t1 = some ⟨g, 0, none⟩ → Blk w7 g 3 z1 → Blk wr g 3 z1)) (fun i _ => len - (intOf i).toNat)
  case atStart => exact ⟨0, Nat.zero_le _, rfl, U27.out, D4, fun _ _ h => h⟩
  case round =>
    obtain ⟨j, hj, rfl, hu, hd, hb⟩ := hrel
    have HU := hid hu
    have HB := hid hb
    clear hu hb
    by_cases hlt : j < len
    · obtain ⟨g, rfl, h1, h2, h3, h4⟩ := W7.out (by omega)
      have hb := HB.out g rfl h4
      obtain ⟨u, hc, hf⟩ := blk_there hb j (by omega)
      have l1 : (0 : Int) ≤ (j : Int) := by omega
      have l2 : (j : Int) < (len : Int) := by omega
      have HB' := hid hb
      have HH1 := hid h1
      have HH2 := hid h2
      clear hb h1 h2 h3 h4
      go_wp2
      go_roundw
      case rel =>
        refine ⟨j + 1, hlt, by go_num, HU.out.setCell HH1.out _, ?_, fun g' e _ => ?_⟩
        · rw [World.cell?_setCell_other _ _ _ _ (by intro q; cases q; have := HH2.out; omega)]
          exact hd
        · cases e
          exact HB'.out.setCell _ _ _
      case measure => simp [intOf]; omega
    · obtain rfl : j = len := by omega
      have HSi := hid (sameInts_eq (.slice pw n cw) (.slice p1 n c1) n f wr (HWas.out.old HU.out) (R1.out.old (O2.out.trans HU.out)))
      have b0 := HU.out.keep HY0.out
      go_wp2_with (go_at_call 17; refine HSi.out.mono ?_; rintro e w8 ⟨rfl, u8⟩; have U8 := hid u8; clear u8)
      go_ret
      exact ⟨rfl, (O2.out.trans HU.out).trans U8.out⟩
end Go.Proofs.Ytcicefpcledmgaa
