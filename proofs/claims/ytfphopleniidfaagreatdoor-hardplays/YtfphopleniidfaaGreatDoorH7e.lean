/- The document's Save of layer 7, walked; conditions: the rows lie in memory. -/
import Derived.Test.YtfphopleniidfaaGreatDoorH7d
namespace Go.Proofs.YtfphopleniidfaaGreatDoor
open Go.RowKit Go.Lib
set_option linter.unusedVariables false
set_option linter.unusedSimpArgs false
set_option maxRecDepth 20000
theorem S8.old {a b i0 i1 i2 j0 j1 j2 j3 j4 : Nat} {x0 x1 x2 y0 y1 y2 y3 y4 : Value} {w w' : World} (o : Old w w') (h : (w.cell? ⟨a, i0, none⟩ = some x0 ∧ w.cell? ⟨a, i1, none⟩ = some x1 ∧ w.cell? ⟨a, i2, none⟩ = some x2) ∧ w.cell? ⟨b, j0, none⟩ = some y0 ∧ w.cell? ⟨b, j1, none⟩ = some y1 ∧ w.cell? ⟨b, j2, none⟩ = some y2 ∧ w.cell? ⟨b, j3, none⟩ = some y3 ∧ w.cell? ⟨b, j4, none⟩ = some y4) : (w'.cell? ⟨a, i0, none⟩ = some x0 ∧ w'.cell? ⟨a, i1, none⟩ = some x1 ∧ w'.cell? ⟨a, i2, none⟩ = some x2) ∧ w'.cell? ⟨b, j0, none⟩ = some y0 ∧ w'.cell? ⟨b, j1, none⟩ = some y1 ∧ w'.cell? ⟨b, j2, none⟩ = some y2 ∧ w'.cell? ⟨b, j3, none⟩ = some y3 ∧ w'.cell? ⟨b, j4, none⟩ = some y4 := ⟨⟨o.keep h.1.1, o.keep h.1.2.1, o.keep h.1.2.2⟩, o.keep h.2.1, o.keep h.2.2.1, o.keep h.2.2.2.1, o.keep h.2.2.2.2.1, o.keep h.2.2.2.2.2⟩
set_option maxHeartbeats 80000000 in
set_option maxRecDepth 20000 in
theorem rsave_any (W : World) (ya : Option Addr) (yc : Nat) (Y : List Fi) (dn : Bool) (fu t0 v0 t v : Int) (h : DocAt W (.slice ya Y.length yc) Y) (hG : ∀ vb, Good vb (frB (payL t v)) ⟨Y.map Fi.p, dn, fu⟩) (h1 : -9223372036854775808 ≤ t ∧ t ≤ 9223372036854775807) (h2 : -9223372036854775808 ≤ v ∧ v ≤ 9223372036854775807) : Calls Tryz.prog 9 #[.agg #[.slice ya Y.length yc, .bool dn, .int .i64 fu, .int .i64 t0, .int .i64 v0], .int .i64 t, .int .i64 v] W (RvPost W (docB (.slice ya Y.length yc) Y) (Y.map Fi.p) dn fu t0 v0 t v) := by
  have HD := hid h
  have HG := hid hG
  obtain ⟨BB, hBB⟩ : ∃ BB, docB (.slice ya Y.length yc) Y = BB := ⟨_, rfl⟩
  have HBB := hid (show ∀ g ∈ docB (.slice ya Y.length yc) Y, g ∈ BB ∨ W.heap.size ≤ g from fun g hg => .inl (by rw [← hBB]; exact hg))
  have HBy := hid (fun (W' : World) => rbytes_any t v W' h1 h2)
  rw [hBB]
  clear h hG h1 h2 hBB
  obtain ⟨n, hn⟩ : ∃ n, n = Y.length := ⟨_, rfl⟩
  have HN := hid hn
  rw [← hn] at HD HBB ⊢
  clear hn
  cases hr : rgt t v with
  | false =>
    have HRt := hid (fun (W' : World) => show Calls Tryz.prog 26 #[.int .i64 t, .int .i64 v] W' fun e w' => e = .returned (.bool false) ∧ Old W' w' from by have q := rright_any t v W'; rw [hr] at q; exact q)
    have HR := hid hr
    clear hr
    go_enter Tryz.func9, Tryz.ntmps9
    go_upto_region 1 with (fail)
    have HA := hid (al2 W (.cells #[.slice ya n yc, .bool dn, .int .i64 fu, .int .i64 t0, .int .i64 v0] 34) (.cells #[.slice none 0 0, .bool false, .int .i64 0, .int .i64 0, .int .i64 0] 34))
    have HU := hid (show Old W ((W.alloc (.cells #[.slice ya n yc, .bool dn, .int .i64 fu, .int .i64 t0, .int .i64 v0] 34)).alloc (.cells #[.slice none 0 0, .bool false, .int .i64 0, .int .i64 0, .int .i64 0] 34)) from ((Old.refl W).alloc _).alloc _)
    generalize (W.alloc (.cells #[.slice ya n yc, .bool dn, .int .i64 fu, .int .i64 t0, .int .i64 v0] 34)).alloc (.cells #[.slice none 0 0, .bool false, .int .i64 0, .int .i64 0, .int .i64 0] 34) = w0 at *
    obtain ⟨g3, hg3⟩ : ∃ g3, g3 = W.heap.size := ⟨_, rfl⟩
    obtain ⟨g6, hg6⟩ : ∃ g6, g6 = W.heap.size + 1 := ⟨_, rfl⟩
    have HLt := hid (show W.heap.size ≤ g3 ∧ g3 < g6 from by omega)
    have n36 : g3 ≠ g6 := by omega
    have n63 : g6 ≠ g3 := by omega
    rw [← hg6, ← hg3] at HA
    rw [← hg6, ← hg3]
    clear hg3 hg6
    have C3 := hid HA.out.1
    have C6 := hid HA.out.2
    clear HA
    have HF := hid (show ∀ (w6 : World) (a : Option Addr) (zn c : Nat) (Z : List Fi) (P' : PFs) (d : Bool) (f tt vv code : Int) (cs : Array Value), Old W w6 → w6.heap[g6]? = some (.cells cs 34 (0, 0)) → DocAt w6 (.slice a zn c) Z → zn = Z.length → (∀ g ∈ docB (.slice a zn c) Z, g ∈ BB ∨ W.heap.size ≤ g) → Z.map Fi.p = P' → OP W BB P' d f tt vv code (.returned (.tuple #[.agg #[.slice a zn c, .bool d, .int .i64 f, .int .i64 tt, .int .i64 vv], .int .i64 code])) (set5 w6 g6 (.slice a zn c) (.bool d) (.int .i64 f) (.int .i64 tt) (.int .i64 vv)) from fun w6 a zn c Z P' d f tt vv code cs u h2 hD hz hB hP => by
      subst hz
      exact ⟨a, c, Z, rfl, hD.chgH (chg5 w6 g6 _ _ _ _ _) h2, hP, (chg5 w6 g6 _ _ _ _ _).oldOf u (fun k hk => by rw [List.mem_singleton.1 hk]; have := HLt.out; omega), hB⟩)
    go_upto_region 2 with (go_at_call 26; refine (HRt.out _).mono ?_; rintro e w1 ⟨rfl, u1⟩; have U1 := hid u1; clear u1)
    have C3 := hid (U1.out.block C3.out)
    have C6 := hid (U1.out.block C6.out)
    have HFin := hid (HF.out w1 ya n yc Y _ dn fu t0 v0 1 _ (HU.out.trans U1.out) C6.out (HD.out.old (HU.out.trans U1.out)) HN.out HBB.out rfl)
    obtain ⟨F0, F1, F2, F3, F4⟩ := box5 (box5_set C6.out (.slice ya n yc) (.bool dn) (.int .i64 fu) (.int .i64 t0) (.int .i64 v0))
    unfold set5 at HFin F0 F1 F2 F3 F4
    obtain ⟨r0, r1, r2, r3, r4⟩ := box5 C6.out
    obtain ⟨rf0, rf1, rf2, rf3, rf4⟩ := box5f C6.out
    obtain ⟨y0, y1, y2, y3, y4⟩ := box5 C3.out
    go_wp2
    refine bodyPost_ret (v := .tuple #[.agg #[.slice ya n yc, .bool dn, .int .i64 fu, .int .i64 t0, .int .i64 v0], .int .i64 1]) (by simp [results, Tryz.results9, go_sem, F0, F1, F2, F3, F4]) rfl ?_
    exact .inl ⟨HR.out, HFin.out⟩
  | true =>
    by_cases hs : t = t0 ∧ v = v0
    · skip
      obtain ⟨e1, e2⟩ := hs
      subst e1 e2
      have HRt := hid (fun (W' : World) => show Calls Tryz.prog 26 #[.int .i64 t, .int .i64 v] W' fun e w' => e = .returned (.bool true) ∧ Old W' w' from by have q := rright_any t v W'; rw [hr] at q; exact q)
      have HR := hid hr
      clear hr
      go_enter Tryz.func9, Tryz.ntmps9
      go_upto_region 1 with (fail)
      have HA := hid (al2 W (.cells #[.slice ya n yc, .bool dn, .int .i64 fu, .int .i64 t, .int .i64 v] 34) (.cells #[.slice none 0 0, .bool false, .int .i64 0, .int .i64 0, .int .i64 0] 34))
      have HU := hid (show Old W ((W.alloc (.cells #[.slice ya n yc, .bool dn, .int .i64 fu, .int .i64 t, .int .i64 v] 34)).alloc (.cells #[.slice none 0 0, .bool false, .int .i64 0, .int .i64 0, .int .i64 0] 34)) from ((Old.refl W).alloc _).alloc _)
      generalize (W.alloc (.cells #[.slice ya n yc, .bool dn, .int .i64 fu, .int .i64 t, .int .i64 v] 34)).alloc (.cells #[.slice none 0 0, .bool false, .int .i64 0, .int .i64 0, .int .i64 0] 34) = w0 at *
      obtain ⟨g3, hg3⟩ : ∃ g3, g3 = W.heap.size := ⟨_, rfl⟩
      obtain ⟨g6, hg6⟩ : ∃ g6, g6 = W.heap.size + 1 := ⟨_, rfl⟩
      have HLt := hid (show W.heap.size ≤ g3 ∧ g3 < g6 from by omega)
      have n36 : g3 ≠ g6 := by omega
      have n63 : g6 ≠ g3 := by omega
      rw [← hg6, ← hg3] at HA
      rw [← hg6, ← hg3]
      clear hg3 hg6
      have C3 := hid HA.out.1
      have C6 := hid HA.out.2
      clear HA
      have HF := hid (show ∀ (w6 : World) (a : Option Addr) (zn c : Nat) (Z : List Fi) (P' : PFs) (d : Bool) (f tt vv code : Int) (cs : Array Value), Old W w6 → w6.heap[g6]? = some (.cells cs 34 (0, 0)) → DocAt w6 (.slice a zn c) Z → zn = Z.length → (∀ g ∈ docB (.slice a zn c) Z, g ∈ BB ∨ W.heap.size ≤ g) → Z.map Fi.p = P' → OP W BB P' d f tt vv code (.returned (.tuple #[.agg #[.slice a zn c, .bool d, .int .i64 f, .int .i64 tt, .int .i64 vv], .int .i64 code])) (set5 w6 g6 (.slice a zn c) (.bool d) (.int .i64 f) (.int .i64 tt) (.int .i64 vv)) from fun w6 a zn c Z P' d f tt vv code cs u h2 hD hz hB hP => by
        subst hz
        exact ⟨a, c, Z, rfl, hD.chgH (chg5 w6 g6 _ _ _ _ _) h2, hP, (chg5 w6 g6 _ _ _ _ _).oldOf u (fun k hk => by rw [List.mem_singleton.1 hk]; have := HLt.out; omega), hB⟩)
      obtain ⟨y0, y1, y2, y3, y4⟩ := box5 C3.out
      go_upto_region 4 with (go_at_call 26; refine (HRt.out _).mono ?_; rintro e w1 ⟨rfl, u1⟩; have U1 := hid u1; have k3 := u1.keep y3; have k4 := u1.keep y4; clear u1)
      clear k3 k4 y0 y1 y2 y3 y4
      have C3 := hid (U1.out.block C3.out)
      have C6 := hid (U1.out.block C6.out)
      have HFin := hid (HF.out w1 ya n yc Y _ dn fu t v 0 _ (HU.out.trans U1.out) C6.out (HD.out.old (HU.out.trans U1.out)) HN.out HBB.out rfl)
      obtain ⟨F0, F1, F2, F3, F4⟩ := box5 (box5_set C6.out (.slice ya n yc) (.bool dn) (.int .i64 fu) (.int .i64 t) (.int .i64 v))
      unfold set5 at HFin F0 F1 F2 F3 F4
      obtain ⟨r0, r1, r2, r3, r4⟩ := box5 C6.out
      obtain ⟨rf0, rf1, rf2, rf3, rf4⟩ := box5f C6.out
      obtain ⟨y0, y1, y2, y3, y4⟩ := box5 C3.out
      go_wp2
      refine bodyPost_ret (v := .tuple #[.agg #[.slice ya n yc, .bool dn, .int .i64 fu, .int .i64 t, .int .i64 v], .int .i64 0]) (by simp [results, Tryz.results9, go_sem, F0, F1, F2, F3, F4]) rfl ?_
      exact .inr (.inl ⟨HR.out, rfl, rfl, HFin.out⟩)
    have HNs := hid hs
    by_cases z1 : t = t0
    · skip
      subst z1
      have d2 : (v0 == v) = false := by rw [beq_eq_false_iff_ne]; exact fun e => HNs.out ⟨rfl, e.symm⟩
      clear hs
      have HRt := hid (fun (W' : World) => show Calls Tryz.prog 26 #[.int .i64 t, .int .i64 v] W' fun e w' => e = .returned (.bool true) ∧ Old W' w' from by have q := rright_any t v W'; rw [hr] at q; exact q)
      have HR := hid hr
      clear hr
      go_enter Tryz.func9, Tryz.ntmps9
      go_upto_region 1 with (fail)
      have HA := hid (al2 W (.cells #[.slice ya n yc, .bool dn, .int .i64 fu, .int .i64 t, .int .i64 v0] 34) (.cells #[.slice none 0 0, .bool false, .int .i64 0, .int .i64 0, .int .i64 0] 34))
      have HU := hid (show Old W ((W.alloc (.cells #[.slice ya n yc, .bool dn, .int .i64 fu, .int .i64 t, .int .i64 v0] 34)).alloc (.cells #[.slice none 0 0, .bool false, .int .i64 0, .int .i64 0, .int .i64 0] 34)) from ((Old.refl W).alloc _).alloc _)
      generalize (W.alloc (.cells #[.slice ya n yc, .bool dn, .int .i64 fu, .int .i64 t, .int .i64 v0] 34)).alloc (.cells #[.slice none 0 0, .bool false, .int .i64 0, .int .i64 0, .int .i64 0] 34) = w0 at *
      obtain ⟨g3, hg3⟩ : ∃ g3, g3 = W.heap.size := ⟨_, rfl⟩
      obtain ⟨g6, hg6⟩ : ∃ g6, g6 = W.heap.size + 1 := ⟨_, rfl⟩
      have HLt := hid (show W.heap.size ≤ g3 ∧ g3 < g6 from by omega)
      have n36 : g3 ≠ g6 := by omega
      have n63 : g6 ≠ g3 := by omega
      rw [← hg6, ← hg3] at HA
      rw [← hg6, ← hg3]
      clear hg3 hg6
      have C3 := hid HA.out.1
      have C6 := hid HA.out.2
      clear HA
      have HF := hid (show ∀ (w6 : World) (a : Option Addr) (zn c : Nat) (Z : List Fi) (P' : PFs) (d : Bool) (f tt vv code : Int) (cs : Array Value), Old W w6 → w6.heap[g6]? = some (.cells cs 34 (0, 0)) → DocAt w6 (.slice a zn c) Z → zn = Z.length → (∀ g ∈ docB (.slice a zn c) Z, g ∈ BB ∨ W.heap.size ≤ g) → Z.map Fi.p = P' → OP W BB P' d f tt vv code (.returned (.tuple #[.agg #[.slice a zn c, .bool d, .int .i64 f, .int .i64 tt, .int .i64 vv], .int .i64 code])) (set5 w6 g6 (.slice a zn c) (.bool d) (.int .i64 f) (.int .i64 tt) (.int .i64 vv)) from fun w6 a zn c Z P' d f tt vv code cs u h2 hD hz hB hP => by
        subst hz
        exact ⟨a, c, Z, rfl, hD.chgH (chg5 w6 g6 _ _ _ _ _) h2, hP, (chg5 w6 g6 _ _ _ _ _).oldOf u (fun k hk => by rw [List.mem_singleton.1 hk]; have := HLt.out; omega), hB⟩)
      obtain ⟨y0, y1, y2, y3, y4⟩ := box5 C3.out
      go_upto_region 5 with (go_at_call 26; refine (HRt.out _).mono ?_; rintro e w1 ⟨rfl, u1⟩; have U1 := hid u1; have k3 := u1.keep y3; have k4 := u1.keep y4; clear u1)
      clear k3 k4 y0 y1 y2 y3 y4 HRt
      have C3 := hid (U1.out.block C3.out)
      have C6 := hid (U1.out.block C6.out)
      have HV := hid (HU.out.trans U1.out)
      clear U1 HU
      obtain ⟨B, hB⟩ : ∃ B, frB (payL t v) = B := ⟨_, rfl⟩
      rw [hB] at HBy HG
      have HBe := hid hB
      obtain ⟨bl, hbl⟩ : ∃ bl, B.length = bl := ⟨_, rfl⟩
      rw [hbl] at HBy
      clear hB
      go_upto_region 6 with (go_at_call 29; refine (HBy.out _).mono ?_; rintro e w2 ⟨a1, c1, rfl, o2, u2, f2⟩; have O2 := hid o2; have U2 := hid u2; clear o2 u2 f2)
      have B8 := hid (show (w2.alloc (.cells #[.int .i64 1, .string ⟨#[104, 97, 114, 100, 46, 116, 109, 112]⟩, .string ⟨#[]⟩, .int .i64 0, .slice none 0 0, .int .i64 4, .string ⟨#[104, 97, 114, 100, 46, 116, 109, 112]⟩, .string ⟨#[]⟩, .int .i64 0, .slice a1 bl c1, .int .i64 6, .string ⟨#[104, 97, 114, 100, 46, 116, 109, 112]⟩, .string ⟨#[]⟩, .int .i64 0, .slice none 0 0, .int .i64 3, .string ⟨#[104, 97, 114, 100, 46, 116, 109, 112]⟩, .string ⟨#[104, 97, 114, 100]⟩, .int .i64 0, .slice none 0 0] 70)).heap[w2.heap.size]? = some (.cells #[.int .i64 1, .string ⟨#[104, 97, 114, 100, 46, 116, 109, 112]⟩, .string ⟨#[]⟩, .int .i64 0, .slice none 0 0, .int .i64 4, .string ⟨#[104, 97, 114, 100, 46, 116, 109, 112]⟩, .string ⟨#[]⟩, .int .i64 0, .slice a1 bl c1, .int .i64 6, .string ⟨#[104, 97, 114, 100, 46, 116, 109, 112]⟩, .string ⟨#[]⟩, .int .i64 0, .slice none 0 0, .int .i64 3, .string ⟨#[104, 97, 114, 100, 46, 116, 109, 112]⟩, .string ⟨#[104, 97, 114, 100]⟩, .int .i64 0, .slice none 0 0] 70 (0, 0)) from alloc_at w2 _)
      have U3 := hid (show Old w2 (w2.alloc (.cells #[.int .i64 1, .string ⟨#[104, 97, 114, 100, 46, 116, 109, 112]⟩, .string ⟨#[]⟩, .int .i64 0, .slice none 0 0, .int .i64 4, .string ⟨#[104, 97, 114, 100, 46, 116, 109, 112]⟩, .string ⟨#[]⟩, .int .i64 0, .slice a1 bl c1, .int .i64 6, .string ⟨#[104, 97, 114, 100, 46, 116, 109, 112]⟩, .string ⟨#[]⟩, .int .i64 0, .slice none 0 0, .int .i64 3, .string ⟨#[104, 97, 114, 100, 46, 116, 109, 112]⟩, .string ⟨#[104, 97, 114, 100]⟩, .int .i64 0, .slice none 0 0] 70)) from (Old.refl w2).alloc _)
      generalize (w2.alloc (.cells #[.int .i64 1, .string ⟨#[104, 97, 114, 100, 46, 116, 109, 112]⟩, .string ⟨#[]⟩, .int .i64 0, .slice none 0 0, .int .i64 4, .string ⟨#[104, 97, 114, 100, 46, 116, 109, 112]⟩, .string ⟨#[]⟩, .int .i64 0, .slice a1 bl c1, .int .i64 6, .string ⟨#[104, 97, 114, 100, 46, 116, 109, 112]⟩, .string ⟨#[]⟩, .int .i64 0, .slice none 0 0, .int .i64 3, .string ⟨#[104, 97, 114, 100, 46, 116, 109, 112]⟩, .string ⟨#[104, 97, 114, 100]⟩, .int .i64 0, .slice none 0 0] 70)) = w3 at *
      obtain ⟨g8, hg8⟩ : ∃ g8, g8 = w2.heap.size := ⟨_, rfl⟩
      rw [← hg8] at B8 ⊢
      clear hg8
      have B8 := hid (show w3.heap[g8]? = some (.cells #[.int .i64 1, .string sT, .string ByteArray.empty, .int .i64 0, .slice none 0 0, .int .i64 4, .string sT, .string ByteArray.empty, .int .i64 0, .slice a1 bl c1, .int .i64 6, .string sT, .string ByteArray.empty, .int .i64 0, .slice none 0 0, .int .i64 3, .string sT, .string sH, .int .i64 0, .slice none 0 0] 70 (0, 0)) from B8.out)
      have HV := hid ((HV.out.trans U2.out).trans U3.out)
      have C3 := hid (U3.out.block (U2.out.block C3.out))
      have C6 := hid (U3.out.block (U2.out.block C6.out))
      have HZ := hid (HD.out.old HV.out)
      have HRw := hid (show Own w3 (.slice a1 bl c1) B from O2.out.old U3.out)
      have HG := hid (HG.out (.slice a1 bl c1))
      obtain ⟨s0, hs0⟩ : ∃ s0 : DS, s0 = ⟨Y.map Fi.p, dn, fu⟩ := ⟨_, rfl⟩
      have HS0 := hid hs0
      rw [← hs0] at HG
      clear hs0 HBy O2 U2 U3 HD
      go_wp2
      go_loopw [9] (fun i wr => ∃ (k : Nat) (za : Option Addr) (zn zc : Nat) (Z : List Fi) (d : Bool) (f : Int), k ≤ 4 ∧ i = .int .i64 (k : Nat) ∧ zn = Z.length ∧ Old W wr ∧ wr.heap[g3]? = some (.cells #[.slice za zn zc, .bool d, .int .i64 f, .int .i64 t, .int .i64 v0] 34 (0, 0)) ∧ wr.heap[g6]? = some (.cells #[.slice none 0 0, .bool false, .int .i64 0, .int .i64 0, .int .i64 0] 34 (0, 0)) ∧ wr.heap[g8]? = some (.cells #[.int .i64 1, .string sT, .string ByteArray.empty, .int .i64 0, .slice none 0 0, .int .i64 4, .string sT, .string ByteArray.empty, .int .i64 0, .slice a1 bl c1, .int .i64 6, .string sT, .string ByteArray.empty, .int .i64 0, .slice none 0 0, .int .i64 3, .string sT, .string sH, .int .i64 0, .slice none 0 0] 70 (0, 0)) ∧ DocAt wr (.slice za zn zc) Z ∧ (∀ g ∈ docB (.slice za zn zc) Z, g ∈ BB ∨ W.heap.size ≤ g) ∧ Own wr (.slice a1 bl c1) B ∧ dS (.slice a1 bl c1) B s0 k = ⟨Z.map Fi.p, d, f⟩ ∧ ∀ j, j < k → dC (.slice a1 bl c1) B s0 j = 0) (fun i _ => 4 - (intOf i).toNat)
      case atStart => exact ⟨0, ya, n, yc, Y, dn, fu, by omega, rfl, HN.out, HV.out, C3.out, C6.out, B8.out, HZ.out, HBB.out, HRw.out, HS0.out, fun j hj => by omega⟩
      case round =>
        obtain ⟨k, za, zn, zc, Z, d, f, hk, rfl, hzn, hv, c3, c6, c8, hz, hb, hr, hS, hC⟩ := hrel
        clear C3 C6 B8 HZ HBB HRw HV HN
        have HZn := hid hzn
        have HV := hid hv
        have C3 := hid c3
        have C6 := hid c6
        have C8 := hid c8
        have HZ := hid hz
        have HZB := hid hb
        have HRw := hid hr
        have HS := hid hS
        have HC := hid hC
        clear hzn hv c3 c6 c8 hz hb hr hS hC
        by_cases hlt : k < 4
        rotate_left
        · skip
          obtain rfl : k = 4 := by omega
          obtain ⟨y0, y1, y2, y3, y4⟩ := box5 C3.out
          obtain ⟨yf0, yf1, yf2, yf3, yf4⟩ := box5f C3.out
          go_upto_region 15 with (fail)
          have D6 := hid (show ((wr.setCell ⟨g3, 3, none⟩ (.int .i64 t)).setCell ⟨g3, 4, none⟩ (.int .i64 v)).heap[g6]? = _ from set_other (set_other C6.out n63) n63)
          have D3 := hid (show ((wr.setCell ⟨g3, 3, none⟩ (.int .i64 t)).setCell ⟨g3, 4, none⟩ (.int .i64 v)).heap[g3]? = some (.cells #[.slice za zn zc, .bool d, .int .i64 f, .int .i64 t, .int .i64 v] 34 (0, 0)) from Go.Joins.block_setCell (Go.Joins.block_setCell C3.out (.int .i64 t) (i := 3)) (.int .i64 v) (i := 4))
          have CH := hid (show Chg [g3] wr ((wr.setCell ⟨g3, 3, none⟩ (.int .i64 t)).setCell ⟨g3, 4, none⟩ (.int .i64 v)) from (Chg.set (S := [g3]) wr ⟨g3, 3, none⟩ _ (by simp)).trans (Chg.set (S := [g3]) _ ⟨g3, 4, none⟩ _ (by simp)))
          have HZ := hid (HZ.out.chgH CH.out C3.out)
          have HV := hid (CH.out.oldOf HV.out (fun k hk => by rw [List.mem_singleton.1 hk]; have := HLt.out; omega))
          clear y0 y1 y2 y3 y4 yf0 yf1 yf2 yf3 yf4 C3 C6 CH
          generalize ((wr.setCell ⟨g3, 3, none⟩ (.int .i64 t)).setCell ⟨g3, 4, none⟩ (.int .i64 v)) = w9 at *
          have C3 := hid D3.out
          have C6 := hid D6.out
          clear D3 D6
          have HFin := hid (HF.out w9 za zn zc Z _ d f t v 0 _ HV.out C6.out HZ.out HZn.out HZB.out rfl)
          obtain ⟨F0, F1, F2, F3, F4⟩ := box5 (box5_set C6.out (.slice za zn zc) (.bool d) (.int .i64 f) (.int .i64 t) (.int .i64 v))
          unfold set5 at HFin F0 F1 F2 F3 F4
          obtain ⟨r0, r1, r2, r3, r4⟩ := box5 C6.out
          obtain ⟨rf0, rf1, rf2, rf3, rf4⟩ := box5f C6.out
          obtain ⟨y0, y1, y2, y3, y4⟩ := box5 C3.out
          go_wp2
          refine bodyPost_ret (v := .tuple #[.agg #[.slice za zn zc, .bool d, .int .i64 f, .int .i64 t, .int .i64 v], .int .i64 0]) (by simp [results, Tryz.results9, go_sem, F0, F1, F2, F3, F4]) rfl ?_
          unfold RvPost; rw [HBe.out, ← HS0.out]; exact .inr (.inr ⟨HR.out, (by simpa using HNs.out), .slice a1 bl c1, .inr ⟨HC.out, by rw [HS.out]; exact HFin.out⟩⟩)
        have l2 : (0 : Int) ≤ (k : Int) := by omega
        have l3 : (k : Int) < 4 := by omega
        have HGd := hid (HG.out k (by omega) HC.out)
        rw [HS.out] at HGd
        have HDo := hid (fun (W' : World) (u : Old wr W') => show Calls Tryz.prog 22 #[.agg #[.slice za zn zc, .bool d, .int .i64 f], .agg #[.int .i64 (sop (.slice a1 bl c1) B k).k, .string (sop (.slice a1 bl c1) B k).a, .string (sop (.slice a1 bl c1) B k).z, .int .i64 (sop (.slice a1 bl c1) B k).n, (sop (.slice a1 bl c1) B k).vb]] W' (RP W' (docB (.slice za zn zc) Z) (dS (.slice a1 bl c1) B s0 (k + 1)).F (dS (.slice a1 bl c1) B s0 (k + 1)).d (dS (.slice a1 bl c1) B s0 (k + 1)).f (dC (.slice a1 bl c1) B s0 k)) from by
          have q := rdo_any W' za zc Z d f (sop (.slice a1 bl c1) B k) (by rw [← HZn.out]; exact HZ.out.old u) (by simpa using HGd.out.1) HGd.out.2.1 HGd.out.2.2 (sop_row (HRw.out.row.old u) k) (sop_k _ _ k)
          rw [← HZn.out] at q
          have e : dS (.slice a1 bl c1) B s0 (k + 1) = ⟨doF (Z.map Fi.p) (stD d f) (sop (.slice a1 bl c1) B k), stD d f, stF d f⟩ := by
            show (⟨doF (dS (.slice a1 bl c1) B s0 k).F (stD (dS (.slice a1 bl c1) B s0 k).d (dS (.slice a1 bl c1) B s0 k).f) (sop (.slice a1 bl c1) B k), stD (dS (.slice a1 bl c1) B s0 k).d (dS (.slice a1 bl c1) B s0 k).f, stF (dS (.slice a1 bl c1) B s0 k).d (dS (.slice a1 bl c1) B s0 k).f⟩ : DS) = _
            rw [HS.out]
          rw [e]
          unfold dC
          rw [HS.out]
          exact q)
        obtain ⟨F1, d1', f1, hS1⟩ : ∃ F1 d1' f1, dS (.slice a1 bl c1) B s0 (k + 1) = ⟨F1, d1', f1⟩ := ⟨_, _, _, rfl⟩
        have HS1 := hid hS1
        obtain ⟨cc, hcc⟩ : ∃ cc, dC (.slice a1 bl c1) B s0 k = cc := ⟨_, rfl⟩
        have HCc := hid hcc
        rw [hS1, hcc] at HDo
        clear hS1 hcc HGd HG
        obtain ⟨q0, q1, q2, q3, q4⟩ := sop_at B C8.out k hlt
        generalize (sop (.slice a1 bl c1) B k).k = ok at *
        generalize (sop (.slice a1 bl c1) B k).a = oa at *
        generalize (sop (.slice a1 bl c1) B k).z = oz at *
        generalize (sop (.slice a1 bl c1) B k).n = on at *
        generalize (sop (.slice a1 bl c1) B k).vb = ov at *
        obtain ⟨y0, y1, y2, y3, y4⟩ := box5 C3.out
        have HSS := hid (And.intro (And.intro y0 (And.intro y1 y2)) (And.intro q0 (And.intro q1 (And.intro q2 (And.intro q3 q4)))))
        clear y0 y1 y2 y3 y4 q0 q1 q2 q3 q4
        go_upto_region 9 with (fail)
        refine wp_region_noPanic ?_
        refine wp_region_held_drew (S := fun wz => (wz.cell? ⟨g3, 0, none⟩ = some (.slice za zn zc) ∧ wz.cell? ⟨g3, 1, none⟩ = some (.bool d) ∧ wz.cell? ⟨g3, 2, none⟩ = some (.int .i64 f)) ∧ wz.cell? ⟨g8, k * 5, none⟩ = some (.int .i64 ok) ∧ wz.cell? ⟨g8, k * 5 + 1, none⟩ = some (.string oa) ∧ wz.cell? ⟨g8, k * 5 + 2, none⟩ = some (.string oz) ∧ wz.cell? ⟨g8, k * 5 + 3, none⟩ = some (.int .i64 on) ∧ wz.cell? ⟨g8, k * 5 + 4, none⟩ = some ov) (by kernel_rfl) ?_ (fun hHeld => ?_)
        · exact (S8.old ((Old.refl wr).drew) HSS.out)
        (try simp only [Act.put]); (try simp only [List.setIfInBounds_toArray]); (try simp only [List.set_cons_succ]); (try simp only [List.set_cons_zero])
        clear hHeld
        refine wpAnyH_take (i := 0) (oi := { dst := some 43, op := Op.fieldAddr 34 (Operand.tmp 3) 0, type := 0, pos := "ref.go:68", after := #[], guard := none }) (v := ?vk1) rfl (by kernel_rfl) (by kernel_rfl) (by kernel_rfl) (fun _ _ _ h => h) (Or.inl ⟨by rfl, ?hk1⟩) (S8.old ((Old.refl wr).drew) HSS.out) ?rk1
        case hk1 => (intro wz hSw; (try dsimp only at hSw); go_simp; try with_reducible rfl)
        (try simp only [Act.put]); (try simp only [List.setIfInBounds_toArray]); (try simp only [List.set_cons_succ]); (try simp only [List.set_cons_zero])
        refine wpAnyH_take (i := 1) (oi := { dst := some 44, op := Op.load 32 (Operand.tmp 43), type := 32, pos := "ref.go:68", after := #[{ on := 0, ground := Ground.data }], guard := none }) (v := ?vk2) rfl (by kernel_rfl) (by kernel_rfl) (by kernel_rfl) (fun _ _ _ h => h) (Or.inl ⟨by rfl, ?hk2⟩) (S8.old ((Old.refl wr).drew) HSS.out) ?rk2
        case hk2 => (intro wz hSw; (try dsimp only at hSw); go_simp; try with_reducible rfl)
        (try simp only [Act.put]); (try simp only [List.setIfInBounds_toArray]); (try simp only [List.set_cons_succ]); (try simp only [List.set_cons_zero])
        refine wpAnyH_take (i := 2) (oi := { dst := some 45, op := Op.move (Operand.tmp 8), type := 87, pos := "ref.go:68", after := #[], guard := none }) (v := ?vk3) rfl (by kernel_rfl) (by kernel_rfl) (by kernel_rfl) (fun _ _ _ h => h) (Or.inl ⟨by rfl, ?hk3⟩) (S8.old ((Old.refl wr).drew) HSS.out) ?rk3
        case hk3 => (intro wz hSw; (try dsimp only at hSw); go_simp; try with_reducible rfl)
        (try simp only [Act.put]); (try simp only [List.setIfInBounds_toArray]); (try simp only [List.set_cons_succ]); (try simp only [List.set_cons_zero])
        refine wpAnyH_take (i := 3) (oi := { dst := some 46, op := Op.move (Operand.tmp 9), type := 3, pos := "ref.go:68", after := #[], guard := none }) (v := ?vk4) rfl (by kernel_rfl) (by kernel_rfl) (by kernel_rfl) (fun _ _ _ h => h) (Or.inl ⟨by rfl, ?hk4⟩) (S8.old ((Old.refl wr).drew) HSS.out) ?rk4
        case hk4 => (intro wz hSw; (try dsimp only at hSw); go_simp; try with_reducible rfl)
        (try simp only [Act.put]); (try simp only [List.setIfInBounds_toArray]); (try simp only [List.set_cons_succ]); (try simp only [List.set_cons_zero])
        refine wpAnyH_take (i := 4) (oi := { dst := some 47, op := Op.indexAddr 87 (Operand.tmp 45) (Operand.tmp 46), type := 0, pos := "ref.go:68", after := #[{ on := 2, ground := Ground.data }, { on := 3, ground := Ground.data }], guard := none }) (v := ?vk5) rfl (by kernel_rfl) (by kernel_rfl) (by kernel_rfl) (fun _ _ _ h => h) (Or.inl ⟨by rfl, ?hk5⟩) (S8.old ((Old.refl wr).drew) HSS.out) ?rk5
        case hk5 => (intro wz hSw; (try dsimp only at hSw); go_simp; try with_reducible rfl)
        (try simp only [Act.put]); (try simp only [List.setIfInBounds_toArray]); (try simp only [List.set_cons_succ]); (try simp only [List.set_cons_zero])
        refine wpAnyH_take (i := 5) (oi := { dst := some 48, op := Op.load 70 (Operand.tmp 47), type := 70, pos := "ref.go:68", after := #[{ on := 4, ground := Ground.data }], guard := none }) (v := ?vk6) rfl (by kernel_rfl) (by kernel_rfl) (by kernel_rfl) (fun _ _ _ h => h) (Or.inl ⟨by rfl, ?hk6⟩) (S8.old ((Old.refl wr).drew) HSS.out) ?rk6
        case hk6 => (intro wz hSw; (try dsimp only at hSw); go_simp; try with_reducible rfl)
        (try simp only [Act.put]); (try simp only [List.setIfInBounds_toArray]); (try simp only [List.set_cons_succ]); (try simp only [List.set_cons_zero])
        refine wpAnyH_ready (rs := [6, 10]) (by kernel_rfl) (by simp) ?_
        refine AllReadyH.cons (o := { dst := some 49, op := Op.call { callee := Callee.value (Operand.func 22), args := #[Operand.tmp 44, Operand.tmp 48], argTypes := #[32, 70] }, type := 67, pos := "ref.go:68", after := #[{ on := 1, ground := Ground.data }, { on := 5, ground := Ground.data }], guard := none }) rfl (fun K hK => ?_) (AllReadyH.cons (o := { dst := some 10, op := Op.alloc 32, type := 0, pos := "ref.go:68", after := #[], guard := none }) rfl (fun K hK => ?_) AllReadyH.nil)
        · skip
          refine wantCall2 ?_ 22 (.tmp 44) (.tmp 48) #[32, 70] ?_ (.agg #[.slice za zn zc, .bool d, .int .i64 f]) (.agg #[.int .i64 ok, .string oa, .string oz, .int .i64 on, ov]) ?_ ?_ ?_ ((enters_of Tryz.func22 (by kernel_rfl) rfl) _ _) ?_
          · rfl
          · rfl
          · rfl
          · rfl
          · rfl
          refine (HDo.out _ ((Old.refl wr).drew)).mono ?_
          rintro o x7 ⟨a7, c7, Z7, rfl, dz7, pz7, uz7, bz7⟩
          refine ⟨_, rfl, ?_⟩
          have PZ := hid pz7
          have BZ := hid (show ∀ g ∈ docB (.slice a7 Z7.length c7) Z7, g ∈ BB ∨ W.heap.size ≤ g from fun g hg => by rcases bz7 g hg with q | q; exact HZB.out g q; exact .inr (by have := (HV.out.trans ((Old.refl wr).drew)).size; omega))
          have DZ := hid dz7
          have U7 := (((Old.refl wr).drew)).trans uz7
          clear pz7 bz7 dz7
          refine hK.out _ _ (S8.old U7 HSS.out) (fun _ => ?_)
          clear hK K
          (try simp only [Act.put]); (try simp only [List.setIfInBounds_toArray]); (try simp only [List.set_cons_succ]); (try simp only [List.set_cons_zero])
          refine wpAnyH_take (i := 7) (oi := { dst := some 42, op := Op.move (Operand.tmp 49), type := 67, pos := "ref.go:68", after := #[{ on := 6, ground := Ground.data }], guard := none }) (v := ?vk8) rfl (by kernel_rfl) (by kernel_rfl) (by kernel_rfl) (fun _ _ _ h => h) (Or.inl ⟨by rfl, ?hk8⟩) (S8.old U7 HSS.out) ?rk8
          case hk8 => (intro wz hSw; (try dsimp only at hSw); go_simp; try with_reducible rfl)
          (try simp only [Act.put]); (try simp only [List.setIfInBounds_toArray]); (try simp only [List.set_cons_succ]); (try simp only [List.set_cons_zero])
          refine wpAnyH_take (i := 8) (oi := { dst := some 50, op := Op.extract (Operand.tmp 42) 0, type := 32, pos := "ref.go:68", after := #[{ on := 7, ground := Ground.data }], guard := none }) (v := ?vk9) rfl (by kernel_rfl) (by kernel_rfl) (by kernel_rfl) (fun _ _ _ h => h) (Or.inl ⟨by rfl, ?hk9⟩) (S8.old U7 HSS.out) ?rk9
          case hk9 => (intro wz hSw; (try dsimp only at hSw); go_simp; try with_reducible rfl)
          (try simp only [Act.put]); (try simp only [List.setIfInBounds_toArray]); (try simp only [List.set_cons_succ]); (try simp only [List.set_cons_zero])
          refine wpAnyH_take (i := 9) (oi := { dst := some 51, op := Op.extract (Operand.tmp 42) 1, type := 3, pos := "ref.go:68", after := #[{ on := 7, ground := Ground.data }, { on := 11, ground := Ground.gcOnly Departure.lateStores }], guard := none }) (v := ?vk10) rfl (by kernel_rfl) (by kernel_rfl) (by kernel_rfl) (fun _ _ _ h => h) (Or.inl ⟨by rfl, ?hk10⟩) (S8.old U7 HSS.out) ?rk10
          case hk10 => (intro wz hSw; (try dsimp only at hSw); go_simp; try with_reducible rfl)
          (try simp only [Act.put]); (try simp only [List.setIfInBounds_toArray]); (try simp only [List.set_cons_succ]); (try simp only [List.set_cons_zero])
          refine wpAnyH_ready (rs := [10]) (by kernel_rfl) (by simp) ?_
          refine AllReadyH.cons (o := { dst := some 10, op := Op.alloc 32, type := 0, pos := "ref.go:68", after := #[], guard := none }) rfl (fun K hK => ?_) AllReadyH.nil
          · skip
            refine stepAllocK ?_ ?_ ?_
            · rfl
            · rfl
            intro m11 x11 hm11 hy11
            have nn11 : x11.heap[m11]? = some (.cells #[.slice none 0 0, .bool false, .int .i64 0] 32 (0, 0)) := by rw [hy11, hm11]; exact alloc_at _ _
            have b11 : Old x7 x11 := by rw [hy11]; exact (Old.refl _).alloc _
            have Z11 : wr.heap.size ≤ m11 := by rw [hm11]; exact (U7).size
            have DZ := hid (DZ.out.old b11)
            have U11 := (U7).trans b11
            clear hm11 hy11
            refine hK.out _ _ (S8.old U11 HSS.out) (fun _ => ?_)
            clear hK K
            (try simp only [Act.put]); (try simp only [List.setIfInBounds_toArray]); (try simp only [List.set_cons_succ]); (try simp only [List.set_cons_zero])
            refine wpAnyH_ready (rs := [11]) (by kernel_rfl) (by simp) ?_
            refine AllReadyH.cons (o := { dst := none, op := Op.store 32 (Operand.tmp 10) (Operand.tmp 50), type := 0, pos := "ref.go:68", after := #[{ on := 10, ground := Ground.data }, { on := 8, ground := Ground.data }, { on := 6, ground := Ground.chain }, { on := 0, ground := Ground.phase }, { on := 1, ground := Ground.phase }, { on := 2, ground := Ground.phase }, { on := 3, ground := Ground.phase }, { on := 4, ground := Ground.phase }, { on := 5, ground := Ground.phase }, { on := 6, ground := Ground.phase }, { on := 7, ground := Ground.phase }, { on := 8, ground := Ground.phase }, { on := 9, ground := Ground.textOnly Departure.lateStores }, { on := 10, ground := Ground.phase }], guard := none }) rfl (fun K hK => ?_) AllReadyH.nil
            · skip
              refine stepStoreK ?_ (.tmp 10) (.tmp 50) ?_ m11 (.slice a7 Z7.length c7) (.bool d1') (.int .i64 f1) ?_ ?_ (there3 nn11) ⟨rfl, rfl, rfl⟩ ?_
              · rfl
              · rfl
              · rfl
              · rfl
              have V12 := (((U11).setCell (p := ⟨m11, 0, none⟩) Z11 (.slice a7 Z7.length c7)).setCell (p := ⟨m11, 1, none⟩) Z11 (.bool d1')).setCell (p := ⟨m11, 2, none⟩) Z11 (.int .i64 f1)
              refine hK.out _ _ (S8.old V12 HSS.out) (fun _ => ?_)
              clear hK K
              (try simp only [Act.put]); (try simp only [List.setIfInBounds_toArray]); (try simp only [List.set_cons_succ]); (try simp only [List.set_cons_zero])
              refine wpAnyH_ready (rs := [12]) (by kernel_rfl) (by simp) ?_
              refine AllReadyH.cons (o := { dst := some 11, op := Op.assign (Operand.tmp 51), type := 3, pos := "ref.go:68", after := #[{ on := 9, ground := Ground.data }, { on := 11, ground := Ground.chain }, { on := 0, ground := Ground.phase }, { on := 1, ground := Ground.phase }, { on := 2, ground := Ground.phase }, { on := 3, ground := Ground.phase }, { on := 4, ground := Ground.phase }, { on := 5, ground := Ground.phase }, { on := 6, ground := Ground.phase }, { on := 7, ground := Ground.phase }, { on := 8, ground := Ground.phase }, { on := 9, ground := Ground.phase }, { on := 10, ground := Ground.phase }, { on := 11, ground := Ground.phase }], guard := none }) rfl (fun K hK => ?_) AllReadyH.nil
              · skip
                go_simp
                refine hK.out _ _ (S8.old V12 HSS.out) (fun _ => ?_)
                clear hK K
                (try simp only [Act.put]); (try simp only [List.setIfInBounds_toArray]); (try simp only [List.set_cons_succ]); (try simp only [List.set_cons_zero])
                refine wpAnyH_done (by kernel_rfl) ?_ _
                refine NoPanic.normal ?_
                have NM := hid (show (((x11.setCell ⟨m11, 0, none⟩ (.slice a7 Z7.length c7)).setCell ⟨m11, 1, none⟩ (.bool d1')).setCell ⟨m11, 2, none⟩ (.int .i64 f1)).heap[m11]? = some (.cells #[.slice a7 Z7.length c7, .bool d1', .int .i64 f1] 32 (0, 0)) from box3_set nn11)
                have DZ := hid (show DocAt (((x11.setCell ⟨m11, 0, none⟩ (.slice a7 Z7.length c7)).setCell ⟨m11, 1, none⟩ (.bool d1')).setCell ⟨m11, 2, none⟩ (.int .i64 f1)) (.slice a7 Z7.length c7) Z7 from DZ.out.chgT (chg3 x11 m11 _ _ _) nn11)
                have UU := hid (show Old wr (((x11.setCell ⟨m11, 0, none⟩ (.slice a7 Z7.length c7)).setCell ⟨m11, 1, none⟩ (.bool d1')).setCell ⟨m11, 2, none⟩ (.int .i64 f1)) from V12)
                clear nn11 V12 Z11
                generalize (((x11.setCell ⟨m11, 0, none⟩ (.slice a7 Z7.length c7)).setCell ⟨m11, 1, none⟩ (.bool d1')).setCell ⟨m11, 2, none⟩ (.int .i64 f1)) = w5 at *
                generalize m11 = b5 at *
                obtain ⟨zl, hzl⟩ : ∃ zl, zl = Z7.length := ⟨_, rfl⟩
                have HZl := hid hzl
                rw [← hzl] at NM DZ BZ ⊢
                clear hzl HDo HSS
                have HV := hid (HV.out.trans UU.out)
                have C3 := hid (UU.out.block C3.out)
                have C6 := hid (UU.out.block C6.out)
                have C8 := hid (UU.out.block C8.out)
                have HRw := hid (HRw.out.old UU.out)
                clear UU
                have n83 : g8 ≠ g3 := fun e => by have q := C8.out; rw [e, C3.out] at q; simp at q
                obtain ⟨x0, x1, x2, -, -, -⟩ := box3 NM.out
                obtain ⟨y0, y1, y2, y3, y4⟩ := box5 C3.out
                obtain ⟨yf0, yf1, yf2, yf3, yf4⟩ := box5f C3.out
                go_upto_region 11 with (fail)
                have D6 := hid (show (((w5.setCell ⟨g3, 0, none⟩ (.slice a7 zl c7)).setCell ⟨g3, 1, none⟩ (.bool d1')).setCell ⟨g3, 2, none⟩ (.int .i64 f1)).heap[g6]? = _ from set_other (set_other (set_other C6.out n63) n63) n63)
                have D8 := hid (show (((w5.setCell ⟨g3, 0, none⟩ (.slice a7 zl c7)).setCell ⟨g3, 1, none⟩ (.bool d1')).setCell ⟨g3, 2, none⟩ (.int .i64 f1)).heap[g8]? = _ from set_other (set_other (set_other C8.out n83) n83) n83)
                have D3 := hid (show (((w5.setCell ⟨g3, 0, none⟩ (.slice a7 zl c7)).setCell ⟨g3, 1, none⟩ (.bool d1')).setCell ⟨g3, 2, none⟩ (.int .i64 f1)).heap[g3]? = some (.cells #[.slice a7 zl c7, .bool d1', .int .i64 f1, .int .i64 t, .int .i64 v0] 34 (0, 0)) from Go.Joins.block_setCell (Go.Joins.block_setCell (Go.Joins.block_setCell C3.out (.slice a7 zl c7) (i := 0)) (.bool d1') (i := 1)) (.int .i64 f1) (i := 2))
                have CH := hid (show Chg [g3] w5 (((w5.setCell ⟨g3, 0, none⟩ (.slice a7 zl c7)).setCell ⟨g3, 1, none⟩ (.bool d1')).setCell ⟨g3, 2, none⟩ (.int .i64 f1)) from chg3 w5 g3 _ _ _)
                have HZ7 := hid (DZ.out.chgH CH.out C3.out)
                have HRw := hid (HRw.out.chg CH.out (HRw.out.offT C3.out (by decide)))
                have HV := hid (CH.out.oldOf HV.out (fun k hk => by rw [List.mem_singleton.1 hk]; have := HLt.out; omega))
                clear x0 x1 x2 y0 y1 y2 y3 y4 yf0 yf1 yf2 yf3 yf4 C3 C6 C8 CH DZ NM n83
                generalize (((w5.setCell ⟨g3, 0, none⟩ (.slice a7 zl c7)).setCell ⟨g3, 1, none⟩ (.bool d1')).setCell ⟨g3, 2, none⟩ (.int .i64 f1)) = w6 at *
                have C3 := hid D3.out
                have C6 := hid D6.out
                have C8 := hid D8.out
                clear D3 D6 D8
                by_cases cz : cc = 0
                · subst cz
                  go_wp2
                  go_roundw
                  case rel => exact ⟨k + 1, a7, zl, c7, Z7, d1', f1, by omega, by go_num, HZl.out, HV.out, C3.out, C6.out, C8.out, HZ7.out, BZ.out, HRw.out, by rw [HS1.out, PZ.out], fun j hj => by rcases Nat.lt_succ_iff_lt_or_eq.1 hj with q | q; exact HC.out j q; rw [q]; exact HCc.out⟩
                  case measure => simp [intOf]; omega
                · have d5 : (cc == 0) = false := by rw [beq_eq_false_iff_ne]; exact cz
                  have HNz := hid cz
                  go_upto_region 12 with (fail)
                  clear d5 cz
                  have HFin := hid (HF.out w6 a7 zl c7 Z7 _ d1' f1 t v0 cc _ HV.out C6.out HZ7.out HZl.out BZ.out rfl)
                  obtain ⟨F0, F1, F2, F3, F4⟩ := box5 (box5_set C6.out (.slice a7 zl c7) (.bool d1') (.int .i64 f1) (.int .i64 t) (.int .i64 v0))
                  unfold set5 at HFin F0 F1 F2 F3 F4
                  obtain ⟨r0, r1, r2, r3, r4⟩ := box5 C6.out
                  obtain ⟨rf0, rf1, rf2, rf3, rf4⟩ := box5f C6.out
                  obtain ⟨y0, y1, y2, y3, y4⟩ := box5 C3.out
                  go_wp2
                  refine bodyPost_ret (v := .tuple #[.agg #[.slice a7 zl c7, .bool d1', .int .i64 f1, .int .i64 t, .int .i64 v0], .int .i64 cc]) (by simp [results, Tryz.results9, go_sem, F0, F1, F2, F3, F4]) rfl ?_
                  unfold RvPost; rw [HBe.out, ← HS0.out]; exact .inr (.inr ⟨HR.out, (by simpa using HNs.out), .slice a1 bl c1, .inl ⟨k, by omega, HC.out, by rw [HCc.out]; exact HNz.out, by rw [HS1.out, HCc.out, ← PZ.out]; exact HFin.out⟩⟩)
        · skip
          refine stepAllocK ?_ ?_ ?_
          · rfl
          · rfl
          intro m13 x13 hm13 hy13
          have nn13 : x13.heap[m13]? = some (.cells #[.slice none 0 0, .bool false, .int .i64 0] 32 (0, 0)) := by rw [hy13, hm13]; exact alloc_at _ _
          have b13 : Old (World.drew wr) x13 := by rw [hy13]; exact (Old.refl _).alloc _
          have Z13 : wr.heap.size ≤ m13 := by rw [hm13]; exact (((Old.refl wr).drew)).size
          have U13 := (((Old.refl wr).drew)).trans b13
          clear hm13 hy13
          refine hK.out _ _ (S8.old U13 HSS.out) (fun _ => ?_)
          clear hK K
          (try simp only [Act.put]); (try simp only [List.setIfInBounds_toArray]); (try simp only [List.set_cons_succ]); (try simp only [List.set_cons_zero])
          refine wpAnyH_ready (rs := [6]) (by kernel_rfl) (by simp) ?_
          refine AllReadyH.cons (o := { dst := some 49, op := Op.call { callee := Callee.value (Operand.func 22), args := #[Operand.tmp 44, Operand.tmp 48], argTypes := #[32, 70] }, type := 67, pos := "ref.go:68", after := #[{ on := 1, ground := Ground.data }, { on := 5, ground := Ground.data }], guard := none }) rfl (fun K hK => ?_) AllReadyH.nil
          · skip
            refine wantCall2 ?_ 22 (.tmp 44) (.tmp 48) #[32, 70] ?_ (.agg #[.slice za zn zc, .bool d, .int .i64 f]) (.agg #[.int .i64 ok, .string oa, .string oz, .int .i64 on, ov]) ?_ ?_ ?_ ((enters_of Tryz.func22 (by kernel_rfl) rfl) _ _) ?_
            · rfl
            · rfl
            · rfl
            · rfl
            · rfl
            refine (HDo.out _ U13).mono ?_
            rintro o x14 ⟨a7, c7, Z7, rfl, dz14, pz14, uz14, bz14⟩
            refine ⟨_, rfl, ?_⟩
            have PZ := hid pz14
            have BZ := hid (show ∀ g ∈ docB (.slice a7 Z7.length c7) Z7, g ∈ BB ∨ W.heap.size ≤ g from fun g hg => by rcases bz14 g hg with q | q; exact HZB.out g q; exact .inr (by have := (HV.out.trans U13).size; omega))
            have DZ := hid dz14
            have nn14 := uz14.block nn13
            have U14 := (U13).trans uz14
            clear pz14 bz14 dz14
            refine hK.out _ _ (S8.old U14 HSS.out) (fun _ => ?_)
            clear hK K
            (try simp only [Act.put]); (try simp only [List.setIfInBounds_toArray]); (try simp only [List.set_cons_succ]); (try simp only [List.set_cons_zero])
            refine wpAnyH_take (i := 7) (oi := { dst := some 42, op := Op.move (Operand.tmp 49), type := 67, pos := "ref.go:68", after := #[{ on := 6, ground := Ground.data }], guard := none }) (v := ?vk15) rfl (by kernel_rfl) (by kernel_rfl) (by kernel_rfl) (fun _ _ _ h => h) (Or.inl ⟨by rfl, ?hk15⟩) (S8.old U14 HSS.out) ?rk15
            case hk15 => (intro wz hSw; (try dsimp only at hSw); go_simp; try with_reducible rfl)
            (try simp only [Act.put]); (try simp only [List.setIfInBounds_toArray]); (try simp only [List.set_cons_succ]); (try simp only [List.set_cons_zero])
            refine wpAnyH_take (i := 8) (oi := { dst := some 50, op := Op.extract (Operand.tmp 42) 0, type := 32, pos := "ref.go:68", after := #[{ on := 7, ground := Ground.data }], guard := none }) (v := ?vk16) rfl (by kernel_rfl) (by kernel_rfl) (by kernel_rfl) (fun _ _ _ h => h) (Or.inl ⟨by rfl, ?hk16⟩) (S8.old U14 HSS.out) ?rk16
            case hk16 => (intro wz hSw; (try dsimp only at hSw); go_simp; try with_reducible rfl)
            (try simp only [Act.put]); (try simp only [List.setIfInBounds_toArray]); (try simp only [List.set_cons_succ]); (try simp only [List.set_cons_zero])
            refine wpAnyH_take (i := 9) (oi := { dst := some 51, op := Op.extract (Operand.tmp 42) 1, type := 3, pos := "ref.go:68", after := #[{ on := 7, ground := Ground.data }, { on := 11, ground := Ground.gcOnly Departure.lateStores }], guard := none }) (v := ?vk17) rfl (by kernel_rfl) (by kernel_rfl) (by kernel_rfl) (fun _ _ _ h => h) (Or.inl ⟨by rfl, ?hk17⟩) (S8.old U14 HSS.out) ?rk17
            case hk17 => (intro wz hSw; (try dsimp only at hSw); go_simp; try with_reducible rfl)
            (try simp only [Act.put]); (try simp only [List.setIfInBounds_toArray]); (try simp only [List.set_cons_succ]); (try simp only [List.set_cons_zero])
            refine wpAnyH_ready (rs := [11]) (by kernel_rfl) (by simp) ?_
            refine AllReadyH.cons (o := { dst := none, op := Op.store 32 (Operand.tmp 10) (Operand.tmp 50), type := 0, pos := "ref.go:68", after := #[{ on := 10, ground := Ground.data }, { on := 8, ground := Ground.data }, { on := 6, ground := Ground.chain }, { on := 0, ground := Ground.phase }, { on := 1, ground := Ground.phase }, { on := 2, ground := Ground.phase }, { on := 3, ground := Ground.phase }, { on := 4, ground := Ground.phase }, { on := 5, ground := Ground.phase }, { on := 6, ground := Ground.phase }, { on := 7, ground := Ground.phase }, { on := 8, ground := Ground.phase }, { on := 9, ground := Ground.textOnly Departure.lateStores }, { on := 10, ground := Ground.phase }], guard := none }) rfl (fun K hK => ?_) AllReadyH.nil
            · skip
              refine stepStoreK ?_ (.tmp 10) (.tmp 50) ?_ m13 (.slice a7 Z7.length c7) (.bool d1') (.int .i64 f1) ?_ ?_ (there3 nn14) ⟨rfl, rfl, rfl⟩ ?_
              · rfl
              · rfl
              · rfl
              · rfl
              have V18 := (((U14).setCell (p := ⟨m13, 0, none⟩) Z13 (.slice a7 Z7.length c7)).setCell (p := ⟨m13, 1, none⟩) Z13 (.bool d1')).setCell (p := ⟨m13, 2, none⟩) Z13 (.int .i64 f1)
              refine hK.out _ _ (S8.old V18 HSS.out) (fun _ => ?_)
              clear hK K
              (try simp only [Act.put]); (try simp only [List.setIfInBounds_toArray]); (try simp only [List.set_cons_succ]); (try simp only [List.set_cons_zero])
              refine wpAnyH_ready (rs := [12]) (by kernel_rfl) (by simp) ?_
              refine AllReadyH.cons (o := { dst := some 11, op := Op.assign (Operand.tmp 51), type := 3, pos := "ref.go:68", after := #[{ on := 9, ground := Ground.data }, { on := 11, ground := Ground.chain }, { on := 0, ground := Ground.phase }, { on := 1, ground := Ground.phase }, { on := 2, ground := Ground.phase }, { on := 3, ground := Ground.phase }, { on := 4, ground := Ground.phase }, { on := 5, ground := Ground.phase }, { on := 6, ground := Ground.phase }, { on := 7, ground := Ground.phase }, { on := 8, ground := Ground.phase }, { on := 9, ground := Ground.phase }, { on := 10, ground := Ground.phase }, { on := 11, ground := Ground.phase }], guard := none }) rfl (fun K hK => ?_) AllReadyH.nil
              · skip
                go_simp
                refine hK.out _ _ (S8.old V18 HSS.out) (fun _ => ?_)
                clear hK K
                (try simp only [Act.put]); (try simp only [List.setIfInBounds_toArray]); (try simp only [List.set_cons_succ]); (try simp only [List.set_cons_zero])
                refine wpAnyH_done (by kernel_rfl) ?_ _
                refine NoPanic.normal ?_
                have NM := hid (show (((x14.setCell ⟨m13, 0, none⟩ (.slice a7 Z7.length c7)).setCell ⟨m13, 1, none⟩ (.bool d1')).setCell ⟨m13, 2, none⟩ (.int .i64 f1)).heap[m13]? = some (.cells #[.slice a7 Z7.length c7, .bool d1', .int .i64 f1] 32 (0, 0)) from box3_set nn14)
                have DZ := hid (show DocAt (((x14.setCell ⟨m13, 0, none⟩ (.slice a7 Z7.length c7)).setCell ⟨m13, 1, none⟩ (.bool d1')).setCell ⟨m13, 2, none⟩ (.int .i64 f1)) (.slice a7 Z7.length c7) Z7 from DZ.out.chgT (chg3 x14 m13 _ _ _) nn14)
                have UU := hid (show Old wr (((x14.setCell ⟨m13, 0, none⟩ (.slice a7 Z7.length c7)).setCell ⟨m13, 1, none⟩ (.bool d1')).setCell ⟨m13, 2, none⟩ (.int .i64 f1)) from V18)
                clear nn14 V18 Z13
                generalize (((x14.setCell ⟨m13, 0, none⟩ (.slice a7 Z7.length c7)).setCell ⟨m13, 1, none⟩ (.bool d1')).setCell ⟨m13, 2, none⟩ (.int .i64 f1)) = w5 at *
                generalize m13 = b5 at *
                obtain ⟨zl, hzl⟩ : ∃ zl, zl = Z7.length := ⟨_, rfl⟩
                have HZl := hid hzl
                rw [← hzl] at NM DZ BZ ⊢
                clear hzl HDo HSS
                have HV := hid (HV.out.trans UU.out)
                have C3 := hid (UU.out.block C3.out)
                have C6 := hid (UU.out.block C6.out)
                have C8 := hid (UU.out.block C8.out)
                have HRw := hid (HRw.out.old UU.out)
                clear UU
                have n83 : g8 ≠ g3 := fun e => by have q := C8.out; rw [e, C3.out] at q; simp at q
                obtain ⟨x0, x1, x2, -, -, -⟩ := box3 NM.out
                obtain ⟨y0, y1, y2, y3, y4⟩ := box5 C3.out
                obtain ⟨yf0, yf1, yf2, yf3, yf4⟩ := box5f C3.out
                go_upto_region 11 with (fail)
                have D6 := hid (show (((w5.setCell ⟨g3, 0, none⟩ (.slice a7 zl c7)).setCell ⟨g3, 1, none⟩ (.bool d1')).setCell ⟨g3, 2, none⟩ (.int .i64 f1)).heap[g6]? = _ from set_other (set_other (set_other C6.out n63) n63) n63)
                have D8 := hid (show (((w5.setCell ⟨g3, 0, none⟩ (.slice a7 zl c7)).setCell ⟨g3, 1, none⟩ (.bool d1')).setCell ⟨g3, 2, none⟩ (.int .i64 f1)).heap[g8]? = _ from set_other (set_other (set_other C8.out n83) n83) n83)
                have D3 := hid (show (((w5.setCell ⟨g3, 0, none⟩ (.slice a7 zl c7)).setCell ⟨g3, 1, none⟩ (.bool d1')).setCell ⟨g3, 2, none⟩ (.int .i64 f1)).heap[g3]? = some (.cells #[.slice a7 zl c7, .bool d1', .int .i64 f1, .int .i64 t, .int .i64 v0] 34 (0, 0)) from Go.Joins.block_setCell (Go.Joins.block_setCell (Go.Joins.block_setCell C3.out (.slice a7 zl c7) (i := 0)) (.bool d1') (i := 1)) (.int .i64 f1) (i := 2))
                have CH := hid (show Chg [g3] w5 (((w5.setCell ⟨g3, 0, none⟩ (.slice a7 zl c7)).setCell ⟨g3, 1, none⟩ (.bool d1')).setCell ⟨g3, 2, none⟩ (.int .i64 f1)) from chg3 w5 g3 _ _ _)
                have HZ7 := hid (DZ.out.chgH CH.out C3.out)
                have HRw := hid (HRw.out.chg CH.out (HRw.out.offT C3.out (by decide)))
                have HV := hid (CH.out.oldOf HV.out (fun k hk => by rw [List.mem_singleton.1 hk]; have := HLt.out; omega))
                clear x0 x1 x2 y0 y1 y2 y3 y4 yf0 yf1 yf2 yf3 yf4 C3 C6 C8 CH DZ NM n83
                generalize (((w5.setCell ⟨g3, 0, none⟩ (.slice a7 zl c7)).setCell ⟨g3, 1, none⟩ (.bool d1')).setCell ⟨g3, 2, none⟩ (.int .i64 f1)) = w6 at *
                have C3 := hid D3.out
                have C6 := hid D6.out
                have C8 := hid D8.out
                clear D3 D6 D8
                by_cases cz : cc = 0
                · subst cz
                  go_wp2
                  go_roundw
                  case rel => exact ⟨k + 1, a7, zl, c7, Z7, d1', f1, by omega, by go_num, HZl.out, HV.out, C3.out, C6.out, C8.out, HZ7.out, BZ.out, HRw.out, by rw [HS1.out, PZ.out], fun j hj => by rcases Nat.lt_succ_iff_lt_or_eq.1 hj with q | q; exact HC.out j q; rw [q]; exact HCc.out⟩
                  case measure => simp [intOf]; omega
                · have d5 : (cc == 0) = false := by rw [beq_eq_false_iff_ne]; exact cz
                  have HNz := hid cz
                  go_upto_region 12 with (fail)
                  clear d5 cz
                  have HFin := hid (HF.out w6 a7 zl c7 Z7 _ d1' f1 t v0 cc _ HV.out C6.out HZ7.out HZl.out BZ.out rfl)
                  obtain ⟨F0, F1, F2, F3, F4⟩ := box5 (box5_set C6.out (.slice a7 zl c7) (.bool d1') (.int .i64 f1) (.int .i64 t) (.int .i64 v0))
                  unfold set5 at HFin F0 F1 F2 F3 F4
                  obtain ⟨r0, r1, r2, r3, r4⟩ := box5 C6.out
                  obtain ⟨rf0, rf1, rf2, rf3, rf4⟩ := box5f C6.out
                  obtain ⟨y0, y1, y2, y3, y4⟩ := box5 C3.out
                  go_wp2
                  refine bodyPost_ret (v := .tuple #[.agg #[.slice a7 zl c7, .bool d1', .int .i64 f1, .int .i64 t, .int .i64 v0], .int .i64 cc]) (by simp [results, Tryz.results9, go_sem, F0, F1, F2, F3, F4]) rfl ?_
                  unfold RvPost; rw [HBe.out, ← HS0.out]; exact .inr (.inr ⟨HR.out, (by simpa using HNs.out), .slice a1 bl c1, .inl ⟨k, by omega, HC.out, by rw [HCc.out]; exact HNz.out, by rw [HS1.out, HCc.out, ← PZ.out]; exact HFin.out⟩⟩)
    have d1 : (t0 == t) = false := by rw [beq_eq_false_iff_ne]; exact fun e => z1 e.symm
    clear z1 hs
    have HRt := hid (fun (W' : World) => show Calls Tryz.prog 26 #[.int .i64 t, .int .i64 v] W' fun e w' => e = .returned (.bool true) ∧ Old W' w' from by have q := rright_any t v W'; rw [hr] at q; exact q)
    have HR := hid hr
    clear hr
    go_enter Tryz.func9, Tryz.ntmps9
    go_upto_region 1 with (fail)
    have HA := hid (al2 W (.cells #[.slice ya n yc, .bool dn, .int .i64 fu, .int .i64 t0, .int .i64 v0] 34) (.cells #[.slice none 0 0, .bool false, .int .i64 0, .int .i64 0, .int .i64 0] 34))
    have HU := hid (show Old W ((W.alloc (.cells #[.slice ya n yc, .bool dn, .int .i64 fu, .int .i64 t0, .int .i64 v0] 34)).alloc (.cells #[.slice none 0 0, .bool false, .int .i64 0, .int .i64 0, .int .i64 0] 34)) from ((Old.refl W).alloc _).alloc _)
    generalize (W.alloc (.cells #[.slice ya n yc, .bool dn, .int .i64 fu, .int .i64 t0, .int .i64 v0] 34)).alloc (.cells #[.slice none 0 0, .bool false, .int .i64 0, .int .i64 0, .int .i64 0] 34) = w0 at *
    obtain ⟨g3, hg3⟩ : ∃ g3, g3 = W.heap.size := ⟨_, rfl⟩
    obtain ⟨g6, hg6⟩ : ∃ g6, g6 = W.heap.size + 1 := ⟨_, rfl⟩
    have HLt := hid (show W.heap.size ≤ g3 ∧ g3 < g6 from by omega)
    have n36 : g3 ≠ g6 := by omega
    have n63 : g6 ≠ g3 := by omega
    rw [← hg6, ← hg3] at HA
    rw [← hg6, ← hg3]
    clear hg3 hg6
    have C3 := hid HA.out.1
    have C6 := hid HA.out.2
    clear HA
    have HF := hid (show ∀ (w6 : World) (a : Option Addr) (zn c : Nat) (Z : List Fi) (P' : PFs) (d : Bool) (f tt vv code : Int) (cs : Array Value), Old W w6 → w6.heap[g6]? = some (.cells cs 34 (0, 0)) → DocAt w6 (.slice a zn c) Z → zn = Z.length → (∀ g ∈ docB (.slice a zn c) Z, g ∈ BB ∨ W.heap.size ≤ g) → Z.map Fi.p = P' → OP W BB P' d f tt vv code (.returned (.tuple #[.agg #[.slice a zn c, .bool d, .int .i64 f, .int .i64 tt, .int .i64 vv], .int .i64 code])) (set5 w6 g6 (.slice a zn c) (.bool d) (.int .i64 f) (.int .i64 tt) (.int .i64 vv)) from fun w6 a zn c Z P' d f tt vv code cs u h2 hD hz hB hP => by
      subst hz
      exact ⟨a, c, Z, rfl, hD.chgH (chg5 w6 g6 _ _ _ _ _) h2, hP, (chg5 w6 g6 _ _ _ _ _).oldOf u (fun k hk => by rw [List.mem_singleton.1 hk]; have := HLt.out; omega), hB⟩)
    obtain ⟨y0, y1, y2, y3, y4⟩ := box5 C3.out
    go_upto_region 5 with (go_at_call 26; refine (HRt.out _).mono ?_; rintro e w1 ⟨rfl, u1⟩; have U1 := hid u1; have k3 := u1.keep y3; have k4 := u1.keep y4; clear u1)
    clear k3 k4 y0 y1 y2 y3 y4 HRt
    have C3 := hid (U1.out.block C3.out)
    have C6 := hid (U1.out.block C6.out)
    have HV := hid (HU.out.trans U1.out)
    clear U1 HU
    obtain ⟨B, hB⟩ : ∃ B, frB (payL t v) = B := ⟨_, rfl⟩
    rw [hB] at HBy HG
    have HBe := hid hB
    obtain ⟨bl, hbl⟩ : ∃ bl, B.length = bl := ⟨_, rfl⟩
    rw [hbl] at HBy
    clear hB
    go_upto_region 6 with (go_at_call 29; refine (HBy.out _).mono ?_; rintro e w2 ⟨a1, c1, rfl, o2, u2, f2⟩; have O2 := hid o2; have U2 := hid u2; clear o2 u2 f2)
    have B8 := hid (show (w2.alloc (.cells #[.int .i64 1, .string ⟨#[104, 97, 114, 100, 46, 116, 109, 112]⟩, .string ⟨#[]⟩, .int .i64 0, .slice none 0 0, .int .i64 4, .string ⟨#[104, 97, 114, 100, 46, 116, 109, 112]⟩, .string ⟨#[]⟩, .int .i64 0, .slice a1 bl c1, .int .i64 6, .string ⟨#[104, 97, 114, 100, 46, 116, 109, 112]⟩, .string ⟨#[]⟩, .int .i64 0, .slice none 0 0, .int .i64 3, .string ⟨#[104, 97, 114, 100, 46, 116, 109, 112]⟩, .string ⟨#[104, 97, 114, 100]⟩, .int .i64 0, .slice none 0 0] 70)).heap[w2.heap.size]? = some (.cells #[.int .i64 1, .string ⟨#[104, 97, 114, 100, 46, 116, 109, 112]⟩, .string ⟨#[]⟩, .int .i64 0, .slice none 0 0, .int .i64 4, .string ⟨#[104, 97, 114, 100, 46, 116, 109, 112]⟩, .string ⟨#[]⟩, .int .i64 0, .slice a1 bl c1, .int .i64 6, .string ⟨#[104, 97, 114, 100, 46, 116, 109, 112]⟩, .string ⟨#[]⟩, .int .i64 0, .slice none 0 0, .int .i64 3, .string ⟨#[104, 97, 114, 100, 46, 116, 109, 112]⟩, .string ⟨#[104, 97, 114, 100]⟩, .int .i64 0, .slice none 0 0] 70 (0, 0)) from alloc_at w2 _)
    have U3 := hid (show Old w2 (w2.alloc (.cells #[.int .i64 1, .string ⟨#[104, 97, 114, 100, 46, 116, 109, 112]⟩, .string ⟨#[]⟩, .int .i64 0, .slice none 0 0, .int .i64 4, .string ⟨#[104, 97, 114, 100, 46, 116, 109, 112]⟩, .string ⟨#[]⟩, .int .i64 0, .slice a1 bl c1, .int .i64 6, .string ⟨#[104, 97, 114, 100, 46, 116, 109, 112]⟩, .string ⟨#[]⟩, .int .i64 0, .slice none 0 0, .int .i64 3, .string ⟨#[104, 97, 114, 100, 46, 116, 109, 112]⟩, .string ⟨#[104, 97, 114, 100]⟩, .int .i64 0, .slice none 0 0] 70)) from (Old.refl w2).alloc _)
    generalize (w2.alloc (.cells #[.int .i64 1, .string ⟨#[104, 97, 114, 100, 46, 116, 109, 112]⟩, .string ⟨#[]⟩, .int .i64 0, .slice none 0 0, .int .i64 4, .string ⟨#[104, 97, 114, 100, 46, 116, 109, 112]⟩, .string ⟨#[]⟩, .int .i64 0, .slice a1 bl c1, .int .i64 6, .string ⟨#[104, 97, 114, 100, 46, 116, 109, 112]⟩, .string ⟨#[]⟩, .int .i64 0, .slice none 0 0, .int .i64 3, .string ⟨#[104, 97, 114, 100, 46, 116, 109, 112]⟩, .string ⟨#[104, 97, 114, 100]⟩, .int .i64 0, .slice none 0 0] 70)) = w3 at *
    obtain ⟨g8, hg8⟩ : ∃ g8, g8 = w2.heap.size := ⟨_, rfl⟩
    rw [← hg8] at B8 ⊢
    clear hg8
    have B8 := hid (show w3.heap[g8]? = some (.cells #[.int .i64 1, .string sT, .string ByteArray.empty, .int .i64 0, .slice none 0 0, .int .i64 4, .string sT, .string ByteArray.empty, .int .i64 0, .slice a1 bl c1, .int .i64 6, .string sT, .string ByteArray.empty, .int .i64 0, .slice none 0 0, .int .i64 3, .string sT, .string sH, .int .i64 0, .slice none 0 0] 70 (0, 0)) from B8.out)
    have HV := hid ((HV.out.trans U2.out).trans U3.out)
    have C3 := hid (U3.out.block (U2.out.block C3.out))
    have C6 := hid (U3.out.block (U2.out.block C6.out))
    have HZ := hid (HD.out.old HV.out)
    have HRw := hid (show Own w3 (.slice a1 bl c1) B from O2.out.old U3.out)
    have HG := hid (HG.out (.slice a1 bl c1))
    obtain ⟨s0, hs0⟩ : ∃ s0 : DS, s0 = ⟨Y.map Fi.p, dn, fu⟩ := ⟨_, rfl⟩
    have HS0 := hid hs0
    rw [← hs0] at HG
    clear hs0 HBy O2 U2 U3 HD
    go_wp2
    go_loopw [9] (fun i wr => ∃ (k : Nat) (za : Option Addr) (zn zc : Nat) (Z : List Fi) (d : Bool) (f : Int), k ≤ 4 ∧ i = .int .i64 (k : Nat) ∧ zn = Z.length ∧ Old W wr ∧ wr.heap[g3]? = some (.cells #[.slice za zn zc, .bool d, .int .i64 f, .int .i64 t0, .int .i64 v0] 34 (0, 0)) ∧ wr.heap[g6]? = some (.cells #[.slice none 0 0, .bool false, .int .i64 0, .int .i64 0, .int .i64 0] 34 (0, 0)) ∧ wr.heap[g8]? = some (.cells #[.int .i64 1, .string sT, .string ByteArray.empty, .int .i64 0, .slice none 0 0, .int .i64 4, .string sT, .string ByteArray.empty, .int .i64 0, .slice a1 bl c1, .int .i64 6, .string sT, .string ByteArray.empty, .int .i64 0, .slice none 0 0, .int .i64 3, .string sT, .string sH, .int .i64 0, .slice none 0 0] 70 (0, 0)) ∧ DocAt wr (.slice za zn zc) Z ∧ (∀ g ∈ docB (.slice za zn zc) Z, g ∈ BB ∨ W.heap.size ≤ g) ∧ Own wr (.slice a1 bl c1) B ∧ dS (.slice a1 bl c1) B s0 k = ⟨Z.map Fi.p, d, f⟩ ∧ ∀ j, j < k → dC (.slice a1 bl c1) B s0 j = 0) (fun i _ => 4 - (intOf i).toNat)
    case atStart => exact ⟨0, ya, n, yc, Y, dn, fu, by omega, rfl, HN.out, HV.out, C3.out, C6.out, B8.out, HZ.out, HBB.out, HRw.out, HS0.out, fun j hj => by omega⟩
    case round =>
      obtain ⟨k, za, zn, zc, Z, d, f, hk, rfl, hzn, hv, c3, c6, c8, hz, hb, hr, hS, hC⟩ := hrel
      clear C3 C6 B8 HZ HBB HRw HV HN
      have HZn := hid hzn
      have HV := hid hv
      have C3 := hid c3
      have C6 := hid c6
      have C8 := hid c8
      have HZ := hid hz
      have HZB := hid hb
      have HRw := hid hr
      have HS := hid hS
      have HC := hid hC
      clear hzn hv c3 c6 c8 hz hb hr hS hC
      by_cases hlt : k < 4
      rotate_left
      · skip
        obtain rfl : k = 4 := by omega
        obtain ⟨y0, y1, y2, y3, y4⟩ := box5 C3.out
        obtain ⟨yf0, yf1, yf2, yf3, yf4⟩ := box5f C3.out
        go_upto_region 15 with (fail)
        have D6 := hid (show ((wr.setCell ⟨g3, 3, none⟩ (.int .i64 t)).setCell ⟨g3, 4, none⟩ (.int .i64 v)).heap[g6]? = _ from set_other (set_other C6.out n63) n63)
        have D3 := hid (show ((wr.setCell ⟨g3, 3, none⟩ (.int .i64 t)).setCell ⟨g3, 4, none⟩ (.int .i64 v)).heap[g3]? = some (.cells #[.slice za zn zc, .bool d, .int .i64 f, .int .i64 t, .int .i64 v] 34 (0, 0)) from Go.Joins.block_setCell (Go.Joins.block_setCell C3.out (.int .i64 t) (i := 3)) (.int .i64 v) (i := 4))
        have CH := hid (show Chg [g3] wr ((wr.setCell ⟨g3, 3, none⟩ (.int .i64 t)).setCell ⟨g3, 4, none⟩ (.int .i64 v)) from (Chg.set (S := [g3]) wr ⟨g3, 3, none⟩ _ (by simp)).trans (Chg.set (S := [g3]) _ ⟨g3, 4, none⟩ _ (by simp)))
        have HZ := hid (HZ.out.chgH CH.out C3.out)
        have HV := hid (CH.out.oldOf HV.out (fun k hk => by rw [List.mem_singleton.1 hk]; have := HLt.out; omega))
        clear y0 y1 y2 y3 y4 yf0 yf1 yf2 yf3 yf4 C3 C6 CH
        generalize ((wr.setCell ⟨g3, 3, none⟩ (.int .i64 t)).setCell ⟨g3, 4, none⟩ (.int .i64 v)) = w9 at *
        have C3 := hid D3.out
        have C6 := hid D6.out
        clear D3 D6
        have HFin := hid (HF.out w9 za zn zc Z _ d f t v 0 _ HV.out C6.out HZ.out HZn.out HZB.out rfl)
        obtain ⟨F0, F1, F2, F3, F4⟩ := box5 (box5_set C6.out (.slice za zn zc) (.bool d) (.int .i64 f) (.int .i64 t) (.int .i64 v))
        unfold set5 at HFin F0 F1 F2 F3 F4
        obtain ⟨r0, r1, r2, r3, r4⟩ := box5 C6.out
        obtain ⟨rf0, rf1, rf2, rf3, rf4⟩ := box5f C6.out
        obtain ⟨y0, y1, y2, y3, y4⟩ := box5 C3.out
        go_wp2
        refine bodyPost_ret (v := .tuple #[.agg #[.slice za zn zc, .bool d, .int .i64 f, .int .i64 t, .int .i64 v], .int .i64 0]) (by simp [results, Tryz.results9, go_sem, F0, F1, F2, F3, F4]) rfl ?_
        unfold RvPost; rw [HBe.out, ← HS0.out]; exact .inr (.inr ⟨HR.out, (by simpa using HNs.out), .slice a1 bl c1, .inr ⟨HC.out, by rw [HS.out]; exact HFin.out⟩⟩)
      have l2 : (0 : Int) ≤ (k : Int) := by omega
      have l3 : (k : Int) < 4 := by omega
      have HGd := hid (HG.out k (by omega) HC.out)
      rw [HS.out] at HGd
      have HDo := hid (fun (W' : World) (u : Old wr W') => show Calls Tryz.prog 22 #[.agg #[.slice za zn zc, .bool d, .int .i64 f], .agg #[.int .i64 (sop (.slice a1 bl c1) B k).k, .string (sop (.slice a1 bl c1) B k).a, .string (sop (.slice a1 bl c1) B k).z, .int .i64 (sop (.slice a1 bl c1) B k).n, (sop (.slice a1 bl c1) B k).vb]] W' (RP W' (docB (.slice za zn zc) Z) (dS (.slice a1 bl c1) B s0 (k + 1)).F (dS (.slice a1 bl c1) B s0 (k + 1)).d (dS (.slice a1 bl c1) B s0 (k + 1)).f (dC (.slice a1 bl c1) B s0 k)) from by
        have q := rdo_any W' za zc Z d f (sop (.slice a1 bl c1) B k) (by rw [← HZn.out]; exact HZ.out.old u) (by simpa using HGd.out.1) HGd.out.2.1 HGd.out.2.2 (sop_row (HRw.out.row.old u) k) (sop_k _ _ k)
        rw [← HZn.out] at q
        have e : dS (.slice a1 bl c1) B s0 (k + 1) = ⟨doF (Z.map Fi.p) (stD d f) (sop (.slice a1 bl c1) B k), stD d f, stF d f⟩ := by
          show (⟨doF (dS (.slice a1 bl c1) B s0 k).F (stD (dS (.slice a1 bl c1) B s0 k).d (dS (.slice a1 bl c1) B s0 k).f) (sop (.slice a1 bl c1) B k), stD (dS (.slice a1 bl c1) B s0 k).d (dS (.slice a1 bl c1) B s0 k).f, stF (dS (.slice a1 bl c1) B s0 k).d (dS (.slice a1 bl c1) B s0 k).f⟩ : DS) = _
          rw [HS.out]
        rw [e]
        unfold dC
        rw [HS.out]
        exact q)
      obtain ⟨F1, d1', f1, hS1⟩ : ∃ F1 d1' f1, dS (.slice a1 bl c1) B s0 (k + 1) = ⟨F1, d1', f1⟩ := ⟨_, _, _, rfl⟩
      have HS1 := hid hS1
      obtain ⟨cc, hcc⟩ : ∃ cc, dC (.slice a1 bl c1) B s0 k = cc := ⟨_, rfl⟩
      have HCc := hid hcc
      rw [hS1, hcc] at HDo
      clear hS1 hcc HGd HG
      obtain ⟨q0, q1, q2, q3, q4⟩ := sop_at B C8.out k hlt
      generalize (sop (.slice a1 bl c1) B k).k = ok at *
      generalize (sop (.slice a1 bl c1) B k).a = oa at *
      generalize (sop (.slice a1 bl c1) B k).z = oz at *
      generalize (sop (.slice a1 bl c1) B k).n = on at *
      generalize (sop (.slice a1 bl c1) B k).vb = ov at *
      obtain ⟨y0, y1, y2, y3, y4⟩ := box5 C3.out
      have HSS := hid (And.intro (And.intro y0 (And.intro y1 y2)) (And.intro q0 (And.intro q1 (And.intro q2 (And.intro q3 q4)))))
      clear y0 y1 y2 y3 y4 q0 q1 q2 q3 q4
      go_upto_region 9 with (fail)
      refine wp_region_noPanic ?_
      refine wp_region_held_drew (S := fun wz => (wz.cell? ⟨g3, 0, none⟩ = some (.slice za zn zc) ∧ wz.cell? ⟨g3, 1, none⟩ = some (.bool d) ∧ wz.cell? ⟨g3, 2, none⟩ = some (.int .i64 f)) ∧ wz.cell? ⟨g8, k * 5, none⟩ = some (.int .i64 ok) ∧ wz.cell? ⟨g8, k * 5 + 1, none⟩ = some (.string oa) ∧ wz.cell? ⟨g8, k * 5 + 2, none⟩ = some (.string oz) ∧ wz.cell? ⟨g8, k * 5 + 3, none⟩ = some (.int .i64 on) ∧ wz.cell? ⟨g8, k * 5 + 4, none⟩ = some ov) (by kernel_rfl) ?_ (fun hHeld => ?_)
      · exact (S8.old ((Old.refl wr).drew) HSS.out)
      (try simp only [Act.put]); (try simp only [List.setIfInBounds_toArray]); (try simp only [List.set_cons_succ]); (try simp only [List.set_cons_zero])
      clear hHeld
      refine wpAnyH_take (i := 0) (oi := { dst := some 43, op := Op.fieldAddr 34 (Operand.tmp 3) 0, type := 0, pos := "ref.go:68", after := #[], guard := none }) (v := ?vk19) rfl (by kernel_rfl) (by kernel_rfl) (by kernel_rfl) (fun _ _ _ h => h) (Or.inl ⟨by rfl, ?hk19⟩) (S8.old ((Old.refl wr).drew) HSS.out) ?rk19
      case hk19 => (intro wz hSw; (try dsimp only at hSw); go_simp; try with_reducible rfl)
      (try simp only [Act.put]); (try simp only [List.setIfInBounds_toArray]); (try simp only [List.set_cons_succ]); (try simp only [List.set_cons_zero])
      refine wpAnyH_take (i := 1) (oi := { dst := some 44, op := Op.load 32 (Operand.tmp 43), type := 32, pos := "ref.go:68", after := #[{ on := 0, ground := Ground.data }], guard := none }) (v := ?vk20) rfl (by kernel_rfl) (by kernel_rfl) (by kernel_rfl) (fun _ _ _ h => h) (Or.inl ⟨by rfl, ?hk20⟩) (S8.old ((Old.refl wr).drew) HSS.out) ?rk20
      case hk20 => (intro wz hSw; (try dsimp only at hSw); go_simp; try with_reducible rfl)
      (try simp only [Act.put]); (try simp only [List.setIfInBounds_toArray]); (try simp only [List.set_cons_succ]); (try simp only [List.set_cons_zero])
      refine wpAnyH_take (i := 2) (oi := { dst := some 45, op := Op.move (Operand.tmp 8), type := 87, pos := "ref.go:68", after := #[], guard := none }) (v := ?vk21) rfl (by kernel_rfl) (by kernel_rfl) (by kernel_rfl) (fun _ _ _ h => h) (Or.inl ⟨by rfl, ?hk21⟩) (S8.old ((Old.refl wr).drew) HSS.out) ?rk21
      case hk21 => (intro wz hSw; (try dsimp only at hSw); go_simp; try with_reducible rfl)
      (try simp only [Act.put]); (try simp only [List.setIfInBounds_toArray]); (try simp only [List.set_cons_succ]); (try simp only [List.set_cons_zero])
      refine wpAnyH_take (i := 3) (oi := { dst := some 46, op := Op.move (Operand.tmp 9), type := 3, pos := "ref.go:68", after := #[], guard := none }) (v := ?vk22) rfl (by kernel_rfl) (by kernel_rfl) (by kernel_rfl) (fun _ _ _ h => h) (Or.inl ⟨by rfl, ?hk22⟩) (S8.old ((Old.refl wr).drew) HSS.out) ?rk22
      case hk22 => (intro wz hSw; (try dsimp only at hSw); go_simp; try with_reducible rfl)
      (try simp only [Act.put]); (try simp only [List.setIfInBounds_toArray]); (try simp only [List.set_cons_succ]); (try simp only [List.set_cons_zero])
      refine wpAnyH_take (i := 4) (oi := { dst := some 47, op := Op.indexAddr 87 (Operand.tmp 45) (Operand.tmp 46), type := 0, pos := "ref.go:68", after := #[{ on := 2, ground := Ground.data }, { on := 3, ground := Ground.data }], guard := none }) (v := ?vk23) rfl (by kernel_rfl) (by kernel_rfl) (by kernel_rfl) (fun _ _ _ h => h) (Or.inl ⟨by rfl, ?hk23⟩) (S8.old ((Old.refl wr).drew) HSS.out) ?rk23
      case hk23 => (intro wz hSw; (try dsimp only at hSw); go_simp; try with_reducible rfl)
      (try simp only [Act.put]); (try simp only [List.setIfInBounds_toArray]); (try simp only [List.set_cons_succ]); (try simp only [List.set_cons_zero])
      refine wpAnyH_take (i := 5) (oi := { dst := some 48, op := Op.load 70 (Operand.tmp 47), type := 70, pos := "ref.go:68", after := #[{ on := 4, ground := Ground.data }], guard := none }) (v := ?vk24) rfl (by kernel_rfl) (by kernel_rfl) (by kernel_rfl) (fun _ _ _ h => h) (Or.inl ⟨by rfl, ?hk24⟩) (S8.old ((Old.refl wr).drew) HSS.out) ?rk24
      case hk24 => (intro wz hSw; (try dsimp only at hSw); go_simp; try with_reducible rfl)
      (try simp only [Act.put]); (try simp only [List.setIfInBounds_toArray]); (try simp only [List.set_cons_succ]); (try simp only [List.set_cons_zero])
      refine wpAnyH_ready (rs := [6, 10]) (by kernel_rfl) (by simp) ?_
      refine AllReadyH.cons (o := { dst := some 49, op := Op.call { callee := Callee.value (Operand.func 22), args := #[Operand.tmp 44, Operand.tmp 48], argTypes := #[32, 70] }, type := 67, pos := "ref.go:68", after := #[{ on := 1, ground := Ground.data }, { on := 5, ground := Ground.data }], guard := none }) rfl (fun K hK => ?_) (AllReadyH.cons (o := { dst := some 10, op := Op.alloc 32, type := 0, pos := "ref.go:68", after := #[], guard := none }) rfl (fun K hK => ?_) AllReadyH.nil)
      · skip
        refine wantCall2 ?_ 22 (.tmp 44) (.tmp 48) #[32, 70] ?_ (.agg #[.slice za zn zc, .bool d, .int .i64 f]) (.agg #[.int .i64 ok, .string oa, .string oz, .int .i64 on, ov]) ?_ ?_ ?_ ((enters_of Tryz.func22 (by kernel_rfl) rfl) _ _) ?_
        · rfl
        · rfl
        · rfl
        · rfl
        · rfl
        refine (HDo.out _ ((Old.refl wr).drew)).mono ?_
        rintro o x25 ⟨a7, c7, Z7, rfl, dz25, pz25, uz25, bz25⟩
        refine ⟨_, rfl, ?_⟩
        have PZ := hid pz25
        have BZ := hid (show ∀ g ∈ docB (.slice a7 Z7.length c7) Z7, g ∈ BB ∨ W.heap.size ≤ g from fun g hg => by rcases bz25 g hg with q | q; exact HZB.out g q; exact .inr (by have := (HV.out.trans ((Old.refl wr).drew)).size; omega))
        have DZ := hid dz25
        have U25 := (((Old.refl wr).drew)).trans uz25
        clear pz25 bz25 dz25
        refine hK.out _ _ (S8.old U25 HSS.out) (fun _ => ?_)
        clear hK K
        (try simp only [Act.put]); (try simp only [List.setIfInBounds_toArray]); (try simp only [List.set_cons_succ]); (try simp only [List.set_cons_zero])
        refine wpAnyH_take (i := 7) (oi := { dst := some 42, op := Op.move (Operand.tmp 49), type := 67, pos := "ref.go:68", after := #[{ on := 6, ground := Ground.data }], guard := none }) (v := ?vk26) rfl (by kernel_rfl) (by kernel_rfl) (by kernel_rfl) (fun _ _ _ h => h) (Or.inl ⟨by rfl, ?hk26⟩) (S8.old U25 HSS.out) ?rk26
        case hk26 => (intro wz hSw; (try dsimp only at hSw); go_simp; try with_reducible rfl)
        (try simp only [Act.put]); (try simp only [List.setIfInBounds_toArray]); (try simp only [List.set_cons_succ]); (try simp only [List.set_cons_zero])
        refine wpAnyH_take (i := 8) (oi := { dst := some 50, op := Op.extract (Operand.tmp 42) 0, type := 32, pos := "ref.go:68", after := #[{ on := 7, ground := Ground.data }], guard := none }) (v := ?vk27) rfl (by kernel_rfl) (by kernel_rfl) (by kernel_rfl) (fun _ _ _ h => h) (Or.inl ⟨by rfl, ?hk27⟩) (S8.old U25 HSS.out) ?rk27
        case hk27 => (intro wz hSw; (try dsimp only at hSw); go_simp; try with_reducible rfl)
        (try simp only [Act.put]); (try simp only [List.setIfInBounds_toArray]); (try simp only [List.set_cons_succ]); (try simp only [List.set_cons_zero])
        refine wpAnyH_take (i := 9) (oi := { dst := some 51, op := Op.extract (Operand.tmp 42) 1, type := 3, pos := "ref.go:68", after := #[{ on := 7, ground := Ground.data }, { on := 11, ground := Ground.gcOnly Departure.lateStores }], guard := none }) (v := ?vk28) rfl (by kernel_rfl) (by kernel_rfl) (by kernel_rfl) (fun _ _ _ h => h) (Or.inl ⟨by rfl, ?hk28⟩) (S8.old U25 HSS.out) ?rk28
        case hk28 => (intro wz hSw; (try dsimp only at hSw); go_simp; try with_reducible rfl)
        (try simp only [Act.put]); (try simp only [List.setIfInBounds_toArray]); (try simp only [List.set_cons_succ]); (try simp only [List.set_cons_zero])
        refine wpAnyH_ready (rs := [10]) (by kernel_rfl) (by simp) ?_
        refine AllReadyH.cons (o := { dst := some 10, op := Op.alloc 32, type := 0, pos := "ref.go:68", after := #[], guard := none }) rfl (fun K hK => ?_) AllReadyH.nil
        · skip
          refine stepAllocK ?_ ?_ ?_
          · rfl
          · rfl
          intro m29 x29 hm29 hy29
          have nn29 : x29.heap[m29]? = some (.cells #[.slice none 0 0, .bool false, .int .i64 0] 32 (0, 0)) := by rw [hy29, hm29]; exact alloc_at _ _
          have b29 : Old x25 x29 := by rw [hy29]; exact (Old.refl _).alloc _
          have Z29 : wr.heap.size ≤ m29 := by rw [hm29]; exact (U25).size
          have DZ := hid (DZ.out.old b29)
          have U29 := (U25).trans b29
          clear hm29 hy29
          refine hK.out _ _ (S8.old U29 HSS.out) (fun _ => ?_)
          clear hK K
          (try simp only [Act.put]); (try simp only [List.setIfInBounds_toArray]); (try simp only [List.set_cons_succ]); (try simp only [List.set_cons_zero])
          refine wpAnyH_ready (rs := [11]) (by kernel_rfl) (by simp) ?_
          refine AllReadyH.cons (o := { dst := none, op := Op.store 32 (Operand.tmp 10) (Operand.tmp 50), type := 0, pos := "ref.go:68", after := #[{ on := 10, ground := Ground.data }, { on := 8, ground := Ground.data }, { on := 6, ground := Ground.chain }, { on := 0, ground := Ground.phase }, { on := 1, ground := Ground.phase }, { on := 2, ground := Ground.phase }, { on := 3, ground := Ground.phase }, { on := 4, ground := Ground.phase }, { on := 5, ground := Ground.phase }, { on := 6, ground := Ground.phase }, { on := 7, ground := Ground.phase }, { on := 8, ground := Ground.phase }, { on := 9, ground := Ground.textOnly Departure.lateStores }, { on := 10, ground := Ground.phase }], guard := none }) rfl (fun K hK => ?_) AllReadyH.nil
          · skip
            refine stepStoreK ?_ (.tmp 10) (.tmp 50) ?_ m29 (.slice a7 Z7.length c7) (.bool d1') (.int .i64 f1) ?_ ?_ (there3 nn29) ⟨rfl, rfl, rfl⟩ ?_
            · rfl
            · rfl
            · rfl
            · rfl
            have V30 := (((U29).setCell (p := ⟨m29, 0, none⟩) Z29 (.slice a7 Z7.length c7)).setCell (p := ⟨m29, 1, none⟩) Z29 (.bool d1')).setCell (p := ⟨m29, 2, none⟩) Z29 (.int .i64 f1)
            refine hK.out _ _ (S8.old V30 HSS.out) (fun _ => ?_)
            clear hK K
            (try simp only [Act.put]); (try simp only [List.setIfInBounds_toArray]); (try simp only [List.set_cons_succ]); (try simp only [List.set_cons_zero])
            refine wpAnyH_ready (rs := [12]) (by kernel_rfl) (by simp) ?_
            refine AllReadyH.cons (o := { dst := some 11, op := Op.assign (Operand.tmp 51), type := 3, pos := "ref.go:68", after := #[{ on := 9, ground := Ground.data }, { on := 11, ground := Ground.chain }, { on := 0, ground := Ground.phase }, { on := 1, ground := Ground.phase }, { on := 2, ground := Ground.phase }, { on := 3, ground := Ground.phase }, { on := 4, ground := Ground.phase }, { on := 5, ground := Ground.phase }, { on := 6, ground := Ground.phase }, { on := 7, ground := Ground.phase }, { on := 8, ground := Ground.phase }, { on := 9, ground := Ground.phase }, { on := 10, ground := Ground.phase }, { on := 11, ground := Ground.phase }], guard := none }) rfl (fun K hK => ?_) AllReadyH.nil
            · skip
              go_simp
              refine hK.out _ _ (S8.old V30 HSS.out) (fun _ => ?_)
              clear hK K
              (try simp only [Act.put]); (try simp only [List.setIfInBounds_toArray]); (try simp only [List.set_cons_succ]); (try simp only [List.set_cons_zero])
              refine wpAnyH_done (by kernel_rfl) ?_ _
              refine NoPanic.normal ?_
              have NM := hid (show (((x29.setCell ⟨m29, 0, none⟩ (.slice a7 Z7.length c7)).setCell ⟨m29, 1, none⟩ (.bool d1')).setCell ⟨m29, 2, none⟩ (.int .i64 f1)).heap[m29]? = some (.cells #[.slice a7 Z7.length c7, .bool d1', .int .i64 f1] 32 (0, 0)) from box3_set nn29)
              have DZ := hid (show DocAt (((x29.setCell ⟨m29, 0, none⟩ (.slice a7 Z7.length c7)).setCell ⟨m29, 1, none⟩ (.bool d1')).setCell ⟨m29, 2, none⟩ (.int .i64 f1)) (.slice a7 Z7.length c7) Z7 from DZ.out.chgT (chg3 x29 m29 _ _ _) nn29)
              have UU := hid (show Old wr (((x29.setCell ⟨m29, 0, none⟩ (.slice a7 Z7.length c7)).setCell ⟨m29, 1, none⟩ (.bool d1')).setCell ⟨m29, 2, none⟩ (.int .i64 f1)) from V30)
              clear nn29 V30 Z29
              generalize (((x29.setCell ⟨m29, 0, none⟩ (.slice a7 Z7.length c7)).setCell ⟨m29, 1, none⟩ (.bool d1')).setCell ⟨m29, 2, none⟩ (.int .i64 f1)) = w5 at *
              generalize m29 = b5 at *
              obtain ⟨zl, hzl⟩ : ∃ zl, zl = Z7.length := ⟨_, rfl⟩
              have HZl := hid hzl
              rw [← hzl] at NM DZ BZ ⊢
              clear hzl HDo HSS
              have HV := hid (HV.out.trans UU.out)
              have C3 := hid (UU.out.block C3.out)
              have C6 := hid (UU.out.block C6.out)
              have C8 := hid (UU.out.block C8.out)
              have HRw := hid (HRw.out.old UU.out)
              clear UU
              have n83 : g8 ≠ g3 := fun e => by have q := C8.out; rw [e, C3.out] at q; simp at q
              obtain ⟨x0, x1, x2, -, -, -⟩ := box3 NM.out
              obtain ⟨y0, y1, y2, y3, y4⟩ := box5 C3.out
              obtain ⟨yf0, yf1, yf2, yf3, yf4⟩ := box5f C3.out
              go_upto_region 11 with (fail)
              have D6 := hid (show (((w5.setCell ⟨g3, 0, none⟩ (.slice a7 zl c7)).setCell ⟨g3, 1, none⟩ (.bool d1')).setCell ⟨g3, 2, none⟩ (.int .i64 f1)).heap[g6]? = _ from set_other (set_other (set_other C6.out n63) n63) n63)
              have D8 := hid (show (((w5.setCell ⟨g3, 0, none⟩ (.slice a7 zl c7)).setCell ⟨g3, 1, none⟩ (.bool d1')).setCell ⟨g3, 2, none⟩ (.int .i64 f1)).heap[g8]? = _ from set_other (set_other (set_other C8.out n83) n83) n83)
              have D3 := hid (show (((w5.setCell ⟨g3, 0, none⟩ (.slice a7 zl c7)).setCell ⟨g3, 1, none⟩ (.bool d1')).setCell ⟨g3, 2, none⟩ (.int .i64 f1)).heap[g3]? = some (.cells #[.slice a7 zl c7, .bool d1', .int .i64 f1, .int .i64 t0, .int .i64 v0] 34 (0, 0)) from Go.Joins.block_setCell (Go.Joins.block_setCell (Go.Joins.block_setCell C3.out (.slice a7 zl c7) (i := 0)) (.bool d1') (i := 1)) (.int .i64 f1) (i := 2))
              have CH := hid (show Chg [g3] w5 (((w5.setCell ⟨g3, 0, none⟩ (.slice a7 zl c7)).setCell ⟨g3, 1, none⟩ (.bool d1')).setCell ⟨g3, 2, none⟩ (.int .i64 f1)) from chg3 w5 g3 _ _ _)
              have HZ7 := hid (DZ.out.chgH CH.out C3.out)
              have HRw := hid (HRw.out.chg CH.out (HRw.out.offT C3.out (by decide)))
              have HV := hid (CH.out.oldOf HV.out (fun k hk => by rw [List.mem_singleton.1 hk]; have := HLt.out; omega))
              clear x0 x1 x2 y0 y1 y2 y3 y4 yf0 yf1 yf2 yf3 yf4 C3 C6 C8 CH DZ NM n83
              generalize (((w5.setCell ⟨g3, 0, none⟩ (.slice a7 zl c7)).setCell ⟨g3, 1, none⟩ (.bool d1')).setCell ⟨g3, 2, none⟩ (.int .i64 f1)) = w6 at *
              have C3 := hid D3.out
              have C6 := hid D6.out
              have C8 := hid D8.out
              clear D3 D6 D8
              by_cases cz : cc = 0
              · subst cz
                go_wp2
                go_roundw
                case rel => exact ⟨k + 1, a7, zl, c7, Z7, d1', f1, by omega, by go_num, HZl.out, HV.out, C3.out, C6.out, C8.out, HZ7.out, BZ.out, HRw.out, by rw [HS1.out, PZ.out], fun j hj => by rcases Nat.lt_succ_iff_lt_or_eq.1 hj with q | q; exact HC.out j q; rw [q]; exact HCc.out⟩
                case measure => simp [intOf]; omega
              · have d5 : (cc == 0) = false := by rw [beq_eq_false_iff_ne]; exact cz
                have HNz := hid cz
                go_upto_region 12 with (fail)
                clear d5 cz
                have HFin := hid (HF.out w6 a7 zl c7 Z7 _ d1' f1 t0 v0 cc _ HV.out C6.out HZ7.out HZl.out BZ.out rfl)
                obtain ⟨F0, F1, F2, F3, F4⟩ := box5 (box5_set C6.out (.slice a7 zl c7) (.bool d1') (.int .i64 f1) (.int .i64 t0) (.int .i64 v0))
                unfold set5 at HFin F0 F1 F2 F3 F4
                obtain ⟨r0, r1, r2, r3, r4⟩ := box5 C6.out
                obtain ⟨rf0, rf1, rf2, rf3, rf4⟩ := box5f C6.out
                obtain ⟨y0, y1, y2, y3, y4⟩ := box5 C3.out
                go_wp2
                refine bodyPost_ret (v := .tuple #[.agg #[.slice a7 zl c7, .bool d1', .int .i64 f1, .int .i64 t0, .int .i64 v0], .int .i64 cc]) (by simp [results, Tryz.results9, go_sem, F0, F1, F2, F3, F4]) rfl ?_
                unfold RvPost; rw [HBe.out, ← HS0.out]; exact .inr (.inr ⟨HR.out, (by simpa using HNs.out), .slice a1 bl c1, .inl ⟨k, by omega, HC.out, by rw [HCc.out]; exact HNz.out, by rw [HS1.out, HCc.out, ← PZ.out]; exact HFin.out⟩⟩)
      · skip
        refine stepAllocK ?_ ?_ ?_
        · rfl
        · rfl
        intro m31 x31 hm31 hy31
        have nn31 : x31.heap[m31]? = some (.cells #[.slice none 0 0, .bool false, .int .i64 0] 32 (0, 0)) := by rw [hy31, hm31]; exact alloc_at _ _
        have b31 : Old (World.drew wr) x31 := by rw [hy31]; exact (Old.refl _).alloc _
        have Z31 : wr.heap.size ≤ m31 := by rw [hm31]; exact (((Old.refl wr).drew)).size
        have U31 := (((Old.refl wr).drew)).trans b31
        clear hm31 hy31
        refine hK.out _ _ (S8.old U31 HSS.out) (fun _ => ?_)
        clear hK K
        (try simp only [Act.put]); (try simp only [List.setIfInBounds_toArray]); (try simp only [List.set_cons_succ]); (try simp only [List.set_cons_zero])
        refine wpAnyH_ready (rs := [6]) (by kernel_rfl) (by simp) ?_
        refine AllReadyH.cons (o := { dst := some 49, op := Op.call { callee := Callee.value (Operand.func 22), args := #[Operand.tmp 44, Operand.tmp 48], argTypes := #[32, 70] }, type := 67, pos := "ref.go:68", after := #[{ on := 1, ground := Ground.data }, { on := 5, ground := Ground.data }], guard := none }) rfl (fun K hK => ?_) AllReadyH.nil
        · skip
          refine wantCall2 ?_ 22 (.tmp 44) (.tmp 48) #[32, 70] ?_ (.agg #[.slice za zn zc, .bool d, .int .i64 f]) (.agg #[.int .i64 ok, .string oa, .string oz, .int .i64 on, ov]) ?_ ?_ ?_ ((enters_of Tryz.func22 (by kernel_rfl) rfl) _ _) ?_
          · rfl
          · rfl
          · rfl
          · rfl
          · rfl
          refine (HDo.out _ U31).mono ?_
          rintro o x32 ⟨a7, c7, Z7, rfl, dz32, pz32, uz32, bz32⟩
          refine ⟨_, rfl, ?_⟩
          have PZ := hid pz32
          have BZ := hid (show ∀ g ∈ docB (.slice a7 Z7.length c7) Z7, g ∈ BB ∨ W.heap.size ≤ g from fun g hg => by rcases bz32 g hg with q | q; exact HZB.out g q; exact .inr (by have := (HV.out.trans U31).size; omega))
          have DZ := hid dz32
          have nn32 := uz32.block nn31
          have U32 := (U31).trans uz32
          clear pz32 bz32 dz32
          refine hK.out _ _ (S8.old U32 HSS.out) (fun _ => ?_)
          clear hK K
          (try simp only [Act.put]); (try simp only [List.setIfInBounds_toArray]); (try simp only [List.set_cons_succ]); (try simp only [List.set_cons_zero])
          refine wpAnyH_take (i := 7) (oi := { dst := some 42, op := Op.move (Operand.tmp 49), type := 67, pos := "ref.go:68", after := #[{ on := 6, ground := Ground.data }], guard := none }) (v := ?vk33) rfl (by kernel_rfl) (by kernel_rfl) (by kernel_rfl) (fun _ _ _ h => h) (Or.inl ⟨by rfl, ?hk33⟩) (S8.old U32 HSS.out) ?rk33
          case hk33 => (intro wz hSw; (try dsimp only at hSw); go_simp; try with_reducible rfl)
          (try simp only [Act.put]); (try simp only [List.setIfInBounds_toArray]); (try simp only [List.set_cons_succ]); (try simp only [List.set_cons_zero])
          refine wpAnyH_take (i := 8) (oi := { dst := some 50, op := Op.extract (Operand.tmp 42) 0, type := 32, pos := "ref.go:68", after := #[{ on := 7, ground := Ground.data }], guard := none }) (v := ?vk34) rfl (by kernel_rfl) (by kernel_rfl) (by kernel_rfl) (fun _ _ _ h => h) (Or.inl ⟨by rfl, ?hk34⟩) (S8.old U32 HSS.out) ?rk34
          case hk34 => (intro wz hSw; (try dsimp only at hSw); go_simp; try with_reducible rfl)
          (try simp only [Act.put]); (try simp only [List.setIfInBounds_toArray]); (try simp only [List.set_cons_succ]); (try simp only [List.set_cons_zero])
          refine wpAnyH_take (i := 9) (oi := { dst := some 51, op := Op.extract (Operand.tmp 42) 1, type := 3, pos := "ref.go:68", after := #[{ on := 7, ground := Ground.data }, { on := 11, ground := Ground.gcOnly Departure.lateStores }], guard := none }) (v := ?vk35) rfl (by kernel_rfl) (by kernel_rfl) (by kernel_rfl) (fun _ _ _ h => h) (Or.inl ⟨by rfl, ?hk35⟩) (S8.old U32 HSS.out) ?rk35
          case hk35 => (intro wz hSw; (try dsimp only at hSw); go_simp; try with_reducible rfl)
          (try simp only [Act.put]); (try simp only [List.setIfInBounds_toArray]); (try simp only [List.set_cons_succ]); (try simp only [List.set_cons_zero])
          refine wpAnyH_ready (rs := [11]) (by kernel_rfl) (by simp) ?_
          refine AllReadyH.cons (o := { dst := none, op := Op.store 32 (Operand.tmp 10) (Operand.tmp 50), type := 0, pos := "ref.go:68", after := #[{ on := 10, ground := Ground.data }, { on := 8, ground := Ground.data }, { on := 6, ground := Ground.chain }, { on := 0, ground := Ground.phase }, { on := 1, ground := Ground.phase }, { on := 2, ground := Ground.phase }, { on := 3, ground := Ground.phase }, { on := 4, ground := Ground.phase }, { on := 5, ground := Ground.phase }, { on := 6, ground := Ground.phase }, { on := 7, ground := Ground.phase }, { on := 8, ground := Ground.phase }, { on := 9, ground := Ground.textOnly Departure.lateStores }, { on := 10, ground := Ground.phase }], guard := none }) rfl (fun K hK => ?_) AllReadyH.nil
          · skip
            refine stepStoreK ?_ (.tmp 10) (.tmp 50) ?_ m31 (.slice a7 Z7.length c7) (.bool d1') (.int .i64 f1) ?_ ?_ (there3 nn32) ⟨rfl, rfl, rfl⟩ ?_
            · rfl
            · rfl
            · rfl
            · rfl
            have V36 := (((U32).setCell (p := ⟨m31, 0, none⟩) Z31 (.slice a7 Z7.length c7)).setCell (p := ⟨m31, 1, none⟩) Z31 (.bool d1')).setCell (p := ⟨m31, 2, none⟩) Z31 (.int .i64 f1)
            refine hK.out _ _ (S8.old V36 HSS.out) (fun _ => ?_)
            clear hK K
            (try simp only [Act.put]); (try simp only [List.setIfInBounds_toArray]); (try simp only [List.set_cons_succ]); (try simp only [List.set_cons_zero])
            refine wpAnyH_ready (rs := [12]) (by kernel_rfl) (by simp) ?_
            refine AllReadyH.cons (o := { dst := some 11, op := Op.assign (Operand.tmp 51), type := 3, pos := "ref.go:68", after := #[{ on := 9, ground := Ground.data }, { on := 11, ground := Ground.chain }, { on := 0, ground := Ground.phase }, { on := 1, ground := Ground.phase }, { on := 2, ground := Ground.phase }, { on := 3, ground := Ground.phase }, { on := 4, ground := Ground.phase }, { on := 5, ground := Ground.phase }, { on := 6, ground := Ground.phase }, { on := 7, ground := Ground.phase }, { on := 8, ground := Ground.phase }, { on := 9, ground := Ground.phase }, { on := 10, ground := Ground.phase }, { on := 11, ground := Ground.phase }], guard := none }) rfl (fun K hK => ?_) AllReadyH.nil
            · skip
              go_simp
              refine hK.out _ _ (S8.old V36 HSS.out) (fun _ => ?_)
              clear hK K
              (try simp only [Act.put]); (try simp only [List.setIfInBounds_toArray]); (try simp only [List.set_cons_succ]); (try simp only [List.set_cons_zero])
              refine wpAnyH_done (by kernel_rfl) ?_ _
              refine NoPanic.normal ?_
              have NM := hid (show (((x32.setCell ⟨m31, 0, none⟩ (.slice a7 Z7.length c7)).setCell ⟨m31, 1, none⟩ (.bool d1')).setCell ⟨m31, 2, none⟩ (.int .i64 f1)).heap[m31]? = some (.cells #[.slice a7 Z7.length c7, .bool d1', .int .i64 f1] 32 (0, 0)) from box3_set nn32)
              have DZ := hid (show DocAt (((x32.setCell ⟨m31, 0, none⟩ (.slice a7 Z7.length c7)).setCell ⟨m31, 1, none⟩ (.bool d1')).setCell ⟨m31, 2, none⟩ (.int .i64 f1)) (.slice a7 Z7.length c7) Z7 from DZ.out.chgT (chg3 x32 m31 _ _ _) nn32)
              have UU := hid (show Old wr (((x32.setCell ⟨m31, 0, none⟩ (.slice a7 Z7.length c7)).setCell ⟨m31, 1, none⟩ (.bool d1')).setCell ⟨m31, 2, none⟩ (.int .i64 f1)) from V36)
              clear nn32 V36 Z31
              generalize (((x32.setCell ⟨m31, 0, none⟩ (.slice a7 Z7.length c7)).setCell ⟨m31, 1, none⟩ (.bool d1')).setCell ⟨m31, 2, none⟩ (.int .i64 f1)) = w5 at *
              generalize m31 = b5 at *
              obtain ⟨zl, hzl⟩ : ∃ zl, zl = Z7.length := ⟨_, rfl⟩
              have HZl := hid hzl
              rw [← hzl] at NM DZ BZ ⊢
              clear hzl HDo HSS
              have HV := hid (HV.out.trans UU.out)
              have C3 := hid (UU.out.block C3.out)
              have C6 := hid (UU.out.block C6.out)
              have C8 := hid (UU.out.block C8.out)
              have HRw := hid (HRw.out.old UU.out)
              clear UU
              have n83 : g8 ≠ g3 := fun e => by have q := C8.out; rw [e, C3.out] at q; simp at q
              obtain ⟨x0, x1, x2, -, -, -⟩ := box3 NM.out
              obtain ⟨y0, y1, y2, y3, y4⟩ := box5 C3.out
              obtain ⟨yf0, yf1, yf2, yf3, yf4⟩ := box5f C3.out
              go_upto_region 11 with (fail)
              have D6 := hid (show (((w5.setCell ⟨g3, 0, none⟩ (.slice a7 zl c7)).setCell ⟨g3, 1, none⟩ (.bool d1')).setCell ⟨g3, 2, none⟩ (.int .i64 f1)).heap[g6]? = _ from set_other (set_other (set_other C6.out n63) n63) n63)
              have D8 := hid (show (((w5.setCell ⟨g3, 0, none⟩ (.slice a7 zl c7)).setCell ⟨g3, 1, none⟩ (.bool d1')).setCell ⟨g3, 2, none⟩ (.int .i64 f1)).heap[g8]? = _ from set_other (set_other (set_other C8.out n83) n83) n83)
              have D3 := hid (show (((w5.setCell ⟨g3, 0, none⟩ (.slice a7 zl c7)).setCell ⟨g3, 1, none⟩ (.bool d1')).setCell ⟨g3, 2, none⟩ (.int .i64 f1)).heap[g3]? = some (.cells #[.slice a7 zl c7, .bool d1', .int .i64 f1, .int .i64 t0, .int .i64 v0] 34 (0, 0)) from Go.Joins.block_setCell (Go.Joins.block_setCell (Go.Joins.block_setCell C3.out (.slice a7 zl c7) (i := 0)) (.bool d1') (i := 1)) (.int .i64 f1) (i := 2))
              have CH := hid (show Chg [g3] w5 (((w5.setCell ⟨g3, 0, none⟩ (.slice a7 zl c7)).setCell ⟨g3, 1, none⟩ (.bool d1')).setCell ⟨g3, 2, none⟩ (.int .i64 f1)) from chg3 w5 g3 _ _ _)
              have HZ7 := hid (DZ.out.chgH CH.out C3.out)
              have HRw := hid (HRw.out.chg CH.out (HRw.out.offT C3.out (by decide)))
              have HV := hid (CH.out.oldOf HV.out (fun k hk => by rw [List.mem_singleton.1 hk]; have := HLt.out; omega))
              clear x0 x1 x2 y0 y1 y2 y3 y4 yf0 yf1 yf2 yf3 yf4 C3 C6 C8 CH DZ NM n83
              generalize (((w5.setCell ⟨g3, 0, none⟩ (.slice a7 zl c7)).setCell ⟨g3, 1, none⟩ (.bool d1')).setCell ⟨g3, 2, none⟩ (.int .i64 f1)) = w6 at *
              have C3 := hid D3.out
              have C6 := hid D6.out
              have C8 := hid D8.out
              clear D3 D6 D8
              by_cases cz : cc = 0
              · subst cz
                go_wp2
                go_roundw
                case rel => exact ⟨k + 1, a7, zl, c7, Z7, d1', f1, by omega, by go_num, HZl.out, HV.out, C3.out, C6.out, C8.out, HZ7.out, BZ.out, HRw.out, by rw [HS1.out, PZ.out], fun j hj => by rcases Nat.lt_succ_iff_lt_or_eq.1 hj with q | q; exact HC.out j q; rw [q]; exact HCc.out⟩
                case measure => simp [intOf]; omega
              · have d5 : (cc == 0) = false := by rw [beq_eq_false_iff_ne]; exact cz
                have HNz := hid cz
                go_upto_region 12 with (fail)
                clear d5 cz
                have HFin := hid (HF.out w6 a7 zl c7 Z7 _ d1' f1 t0 v0 cc _ HV.out C6.out HZ7.out HZl.out BZ.out rfl)
                obtain ⟨F0, F1, F2, F3, F4⟩ := box5 (box5_set C6.out (.slice a7 zl c7) (.bool d1') (.int .i64 f1) (.int .i64 t0) (.int .i64 v0))
                unfold set5 at HFin F0 F1 F2 F3 F4
                obtain ⟨r0, r1, r2, r3, r4⟩ := box5 C6.out
                obtain ⟨rf0, rf1, rf2, rf3, rf4⟩ := box5f C6.out
                obtain ⟨y0, y1, y2, y3, y4⟩ := box5 C3.out
                go_wp2
                refine bodyPost_ret (v := .tuple #[.agg #[.slice a7 zl c7, .bool d1', .int .i64 f1, .int .i64 t0, .int .i64 v0], .int .i64 cc]) (by simp [results, Tryz.results9, go_sem, F0, F1, F2, F3, F4]) rfl ?_
                unfold RvPost; rw [HBe.out, ← HS0.out]; exact .inr (.inr ⟨HR.out, (by simpa using HNs.out), .slice a1 bl c1, .inl ⟨k, by omega, HC.out, by rw [HCc.out]; exact HNz.out, by rw [HS1.out, HCc.out, ← PZ.out]; exact HFin.out⟩⟩)
end Go.Proofs.YtfphopleniidfaaGreatDoor
