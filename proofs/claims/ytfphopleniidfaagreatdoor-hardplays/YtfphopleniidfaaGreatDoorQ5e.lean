/- The document's Do of layer 5, at every disk; conditions: the rows lie in memory. -/
import Derived.Test.YtfphopleniidfaaGreatDoorQ5d
namespace Go.Proofs.YtfphopleniidfaaGreatDoor
open Go.RowKit Go.Lib
set_option linter.unusedVariables false
set_option linter.unusedSimpArgs false
set_option maxRecDepth 20000
theorem box5 {w : World} {b : Nat} {x0 x1 x2 x3 x4 : Value} {T : TypeId} (h : w.heap[b]? = some (.cells #[x0, x1, x2, x3, x4] T (0, 0))) : w.cell? ⟨b, 0, none⟩ = some x0 ∧ w.cell? ⟨b, 1, none⟩ = some x1 ∧ w.cell? ⟨b, 2, none⟩ = some x2 ∧ w.cell? ⟨b, 3, none⟩ = some x3 ∧ w.cell? ⟨b, 4, none⟩ = some x4 :=
  ⟨by rw [Go.Joins.cell_of_block h]; rfl, by rw [Go.Joins.cell_of_block h]; rfl, by rw [Go.Joins.cell_of_block h]; rfl, by rw [Go.Joins.cell_of_block h]; rfl, by rw [Go.Joins.cell_of_block h]; rfl⟩
theorem Own.offT {w : World} {v : Value} {L : List Nat} {b : Nat} {cs : Array Value} {T : TypeId} (h : Own w v L) (hb : w.heap[b]? = some (.cells cs T (0, 0))) (hT : T ≠ 5) : ∀ g, v.ownBlock = some g → g ∉ [b] := fun g e k => by
  simp at k
  subst k
  rcases h.cases with ⟨q, -⟩ | ⟨gg, cap, cur, q, hg, -⟩
  · rw [q] at e; cases e
  · rw [q] at e; cases e; rw [hb] at hg; simp at hg; exact hT hg.2
theorem OwnR.offT {base : Nat} {w : World} {v : Value} {X : List Fi} {b : Nat} {cs : Array Value} {T : TypeId} (h : OwnR base w v X) (hb : w.heap[b]? = some (.cells cs T (0, 0))) (hT : T ≠ 51) : ∀ g, v.ownBlock = some g → g ∉ [b] := fun g e k => by
  simp at k
  subst k
  rcases h.cases with ⟨q, -⟩ | ⟨gg, cap, cur, q, -, hg, -⟩
  · rw [q] at e; cases e
  · rw [q] at e; cases e; rw [hb] at hg; simp at hg; exact hT hg.2
theorem DocAt.chgT {w w' : World} {v : Value} {Y : List Fi} {b : Nat} {cs : Array Value} (h : DocAt w v Y) (ch : Chg [b] w w') (hb : w.heap[b]? = some (.cells cs 32 (0, 0))) : DocAt w' v Y :=
  ⟨h.row.chg ch (h.row.offT hb (by decide)), fun y hy => ⟨(h.byt y hy).1.chg ch ((h.byt y hy).1.offT hb (by decide)), (h.byt y hy).2.1.chg ch ((h.byt y hy).2.1.offT hb (by decide)), (h.byt y hy).2.2⟩⟩
/-- With on plain files. -/
def insP (q : ByteArray × PF) : PFs → PFs
  | [] => [q]
  | z :: t => if Op.bytesLess q.1.toList z.1.toList = true then q :: z :: t else z :: insP q t
theorem insY_p (f : Fi) : ∀ Z : List Fi, (insY f Z).map Fi.p = insP f.p (Z.map Fi.p)
  | [] => rfl
  | z :: t => by
    show (insY f (z :: t)).map Fi.p = insP f.p (z.p :: t.map Fi.p)
    unfold insY insP
    by_cases c : lsF f z = true
    · rw [if_pos c, if_pos (show Op.bytesLess f.p.1.toList z.p.1.toList = true from c)]; rfl
    · rw [if_neg c, if_neg (show ¬ Op.bytesLess f.p.1.toList z.p.1.toList = true from c), List.map_cons, insY_p f t]
theorem delY_p (Y : List Fi) (s : ByteArray) : (delY Y s).map Fi.p = delP (Y.map Fi.p) s := by
  unfold delY delP
  rw [List.filter_map]
  rfl
/-- The document's step: its error, its files. -/
def doC (F : PFs) (dn : Bool) (o : Opd) : Int :=
  if dn = true then 50 else if (misN o.a || (decide (o.k = 3) && misN o.z)) = true then 1 else
  if o.k = 1 then (if (getP F o.a).isSome = true then 5 else if 256 ≤ F.length then 3 else 0) else
  match getP F o.a with
  | none => 4
  | some x => if o.k = 4 then (if beyB x.now o.n = true then 1 else if 65536 - o.n < (o.B.length : Int) then 51 else 0) else if o.k = 5 then (if beyB x.now o.n = true then 1 else 0) else 0
def doF (F : PFs) (dn : Bool) (o : Opd) : PFs :=
  if doC F dn o = 0 then
    (if o.k = 1 then insP (o.a, ⟨[], []⟩) (delP F o.a) else
     if o.k = 2 then delP F o.a else
     if o.k = 3 then insP (o.z, filP F o.a) (delP (delP F o.a) o.z) else
     if o.k = 4 then insP (o.a, ⟨overL (filP F o.a).now o.n.toNat o.B, (filP F o.a).safe⟩) (delP F o.a) else
     if o.k = 5 then insP (o.a, ⟨(filP F o.a).now.take o.n.toNat, (filP F o.a).safe.take o.n.toNat⟩) (delP F o.a) else
     insP (o.a, ⟨(filP F o.a).now, (filP F o.a).now⟩) (delP F o.a))
  else F
def RP (W : World) (B : List Nat) (P' : PFs) (dn : Bool) (fu : Int) (c : Int) (e : Ending) (w' : World) : Prop := ∃ a cc Z, e = .returned (.tuple #[.agg #[.slice a (List.length Z) cc, .bool dn, .int .i64 fu], .int .i64 c]) ∧ DocAt w' (.slice a Z.length cc) Z ∧ Z.map Fi.p = P' ∧ Old W w' ∧ ∀ g ∈ docB (.slice a Z.length cc) Z, g ∈ B ∨ W.heap.size ≤ g
theorem prt_zero (L : List Nat) (t : Nat) : prt L 0 t = L.take t := by unfold prt; simp
set_option maxHeartbeats 80000000 in
set_option maxRecDepth 20000 in
theorem rdo_any (W : World) (ya : Option Addr) (yc : Nat) (Y : List Fi) (d0 : Bool) (f0 : Int) (o : Opd) (h : DocAt W (.slice ya Y.length yc) Y) (hl : Y.length ≤ 256) (hnd : ((Y.map Fi.p).map (·.1)).Nodup) (hf : 0 ≤ f0 ∧ f0 ≤ 9223372036854775807) (hr : Rw W o.vb o.B) (hk : 1 ≤ o.k ∧ o.k ≤ 6) : Calls Tryz.prog 22 #[.agg #[.slice ya Y.length yc, .bool d0, .int .i64 f0], .agg #[.int .i64 o.k, .string o.a, .string o.z, .int .i64 o.n, o.vb]] W (RP W (docB (.slice ya Y.length yc) Y) (doF (Y.map Fi.p) (stD d0 f0) o) (stD d0 f0) (stF d0 f0) (doC (Y.map Fi.p) (stD d0 f0) o)) := by
  obtain ⟨ok, oa, oz, on, ov, oB, okv, okp⟩ := o
  obtain ⟨pa, pc, e⟩ := hr.len
  dsimp only at e hr hk ⊢
  subst e
  have HR := hid hr
  have HD := hid h
  have HK := hid hk
  have HLe := hid hl
  have HPl := hid (show (Y.map Fi.p).length = Y.length from List.length_map ..)
  have HNd := hid hnd
  have HSt := hid (fun (W' : World) => rstep_any (.slice ya Y.length yc) ya Y.length yc d0 f0 W' rfl hf)
  obtain ⟨BB, hBB⟩ : ∃ BB, docB (.slice ya Y.length yc) Y = BB := ⟨_, rfl⟩
  have HBB := hid (show ∀ g ∈ docB (.slice ya Y.length yc) Y, g ∈ BB from fun g hg => by rw [← hBB]; exact hg)
  have HFi := hid (show ∀ (W' : World) (za : Option Addr) (zn zc : Nat) (Z : List Fi) (dn : Bool) (fu : Int) (s : ByteArray), OwnR 0 W' (.slice za zn zc) Z → zn = Z.length → Z.length ≤ 1000 → Calls Tryz.prog 21 #[.agg #[.slice za zn zc, .bool dn, .int .i64 fu], .string s] W' fun e w' => ∃ r, e = .returned (.int .i64 r) ∧ FindIs Z s r ∧ Old W' w' from fun W' za zn zc Z dn fu s h1 h2 h3 => by subst h2; exact rfind_any za zc Z dn fu s 0 W' h1 h3)
  have HWo := hid (show ∀ (W' : World) (za : Option Addr) (zn zc : Nat) (Z Z' : List Fi) (dn : Bool) (fu : Int) (s : ByteArray), DocAt W' (.slice za zn zc) Z → zn = Z.length → Z.length ≤ 1000 → delY Z s = Z' → Calls Tryz.prog 50 #[.agg #[.slice za zn zc, .bool dn, .int .i64 fu], .string s] W' (DPost W' Z' dn fu) from fun W' za zn zc Z Z' dn fu s h1 h2 h3 h4 => by subst h2 h4; exact rwithout_any za zc Z dn fu s W' h1 h3)
  have HWi := hid (show ∀ (W' : World) (za : Option Addr) (zn zc : Nat) (Z Z' : List Fi) (dn : Bool) (fu : Int) (nm : ByteArray) (na : Option Addr) (nl nc : Nat) (sa : Option Addr) (sl sc : Nat) (now safe : List Nat), DocAt W' (.slice za zn zc) Z → zn = Z.length → Z.length ≤ 1000 → nl = now.length → sl = safe.length → FiAt W' ⟨nm, na, nc, now, sa, sc, safe⟩ → insY ⟨nm, na, nc, now, sa, sc, safe⟩ (delY Z nm) = Z' → Calls Tryz.prog 49 #[.agg #[.slice za zn zc, .bool dn, .int .i64 fu], .agg #[.string nm, .slice na nl nc, .slice sa sl sc]] W' (DPost W' Z' dn fu) from fun W' za zn zc Z Z' dn fu nm na nl nc sa sl sc now safe h1 h2 h3 h4 h5 h6 h7 => by subst h2 h4 h5 h7; exact rwith_any za zc Z dn fu ⟨nm, na, nc, now, sa, sc, safe⟩ W' h1 h3 h6)
  rw [hBB]
  generalize stD d0 f0 = dn at *
  generalize stF d0 f0 = fu at *
  clear h hl hnd hf hr hk hBB
  obtain ⟨n, hn⟩ : ∃ n, n = Y.length := ⟨_, rfl⟩
  have HN := hid hn
  rw [← hn] at HD HLe HPl HBB HSt ⊢
  obtain ⟨pl, hpl⟩ : ∃ pl, pl = oB.length := ⟨_, rfl⟩
  have HPL := hid hpl
  rw [← hpl] at HR ⊢
  clear hn hpl
  go_enter Tryz.func22, Tryz.ntmps22
  go_upto_region 1 with (fail)
  have HU := hid (show Old W (((W.alloc (.cells #[.slice ya n yc, .bool d0, .int .i64 f0] 32)).alloc (.cells #[.int .i64 ok, .string oa, .string oz, .int .i64 on, .slice pa pl pc] 70)).alloc (.cells #[.slice none 0 0, .bool false, .int .i64 0] 32)) from (((Old.refl W).alloc _).alloc _).alloc _)
  have HB0 := hid (show (((W.alloc (.cells #[.slice ya n yc, .bool d0, .int .i64 f0] 32)).alloc (.cells #[.int .i64 ok, .string oa, .string oz, .int .i64 on, .slice pa pl pc] 70)).alloc (.cells #[.slice none 0 0, .bool false, .int .i64 0] 32)).heap[W.heap.size]? = some (.cells #[.slice ya n yc, .bool d0, .int .i64 f0] 32 (0, 0)) from alloc_keep (alloc_keep (alloc_at W _)))
  have HB1 := hid (show (((W.alloc (.cells #[.slice ya n yc, .bool d0, .int .i64 f0] 32)).alloc (.cells #[.int .i64 ok, .string oa, .string oz, .int .i64 on, .slice pa pl pc] 70)).alloc (.cells #[.slice none 0 0, .bool false, .int .i64 0] 32)).heap[W.heap.size + 1]? = some (.cells #[.int .i64 ok, .string oa, .string oz, .int .i64 on, .slice pa pl pc] 70 (0, 0)) from by have := alloc_keep (q := (.cells #[.slice none 0 0, .bool false, .int .i64 0] 32)) (alloc_at (W.alloc (.cells #[.slice ya n yc, .bool d0, .int .i64 f0] 32)) (.cells #[.int .i64 ok, .string oa, .string oz, .int .i64 on, .slice pa pl pc] 70)); simpa using this)
  have HB2 := hid (show (((W.alloc (.cells #[.slice ya n yc, .bool d0, .int .i64 f0] 32)).alloc (.cells #[.int .i64 ok, .string oa, .string oz, .int .i64 on, .slice pa pl pc] 70)).alloc (.cells #[.slice none 0 0, .bool false, .int .i64 0] 32)).heap[W.heap.size + 1 + 1]? = some (.cells #[.slice none 0 0, .bool false, .int .i64 0] 32 (0, 0)) from by have := alloc_at ((W.alloc (.cells #[.slice ya n yc, .bool d0, .int .i64 f0] 32)).alloc (.cells #[.int .i64 ok, .string oa, .string oz, .int .i64 on, .slice pa pl pc] 70)) (.cells #[.slice none 0 0, .bool false, .int .i64 0] 32); simpa using this)
  have HS := hid (show (((W.alloc (.cells #[.slice ya n yc, .bool d0, .int .i64 f0] 32)).alloc (.cells #[.int .i64 ok, .string oa, .string oz, .int .i64 on, .slice pa pl pc] 70)).alloc (.cells #[.slice none 0 0, .bool false, .int .i64 0] 32)).heap.size = W.heap.size + 1 + 1 + 1 from by simp)
  generalize ((W.alloc (.cells #[.slice ya n yc, .bool d0, .int .i64 f0] 32)).alloc (.cells #[.int .i64 ok, .string oa, .string oz, .int .i64 on, .slice pa pl pc] 70)).alloc (.cells #[.slice none 0 0, .bool false, .int .i64 0] 32) = w0 at *
  obtain ⟨g0, hg0⟩ : ∃ g0, g0 = W.heap.size := ⟨_, rfl⟩
  obtain ⟨g1, hg1⟩ : ∃ g1, g1 = W.heap.size + 1 := ⟨_, rfl⟩
  obtain ⟨g2, hg2⟩ : ∃ g2, g2 = W.heap.size + 1 + 1 := ⟨_, rfl⟩
  have HLt := hid (show W.heap.size ≤ g0 ∧ g0 < g1 ∧ g1 < g2 ∧ g2 < w0.heap.size from by have := HS.out; omega)
  have n10 : g1 ≠ g0 := by omega
  have n20 : g2 ≠ g0 := by omega
  rw [← hg0] at HB0
  rw [← hg1] at HB1
  rw [← hg2] at HB2
  rw [← hg2, ← hg1, ← hg0]
  clear hg0 hg1 hg2 HS
  obtain ⟨x0, x1, x2, xf0, xf1, xf2⟩ := box3 HB0.out
  go_upto_region 2 with (go_at_call 47; refine (HSt.out _).mono ?_; rintro e w1 ⟨rfl, u1⟩; have U1 := hid u1; have k0 := u1.keep x0; have k1 := u1.keep x1; have k2 := u1.keep x2; have kf0 := u1.keepF x0 xf0; have kf1 := u1.keepF x1 xf1; have kf2 := u1.keepF x2 xf2; clear u1)
  have C0 := hid (show (((w1.setCell ⟨g0, 0, none⟩ (.slice ya n yc)).setCell ⟨g0, 1, none⟩ (.bool dn)).setCell ⟨g0, 2, none⟩ (.int .i64 fu)).heap[g0]? = some (.cells #[.slice ya n yc, .bool dn, .int .i64 fu] 32 (0, 0)) from box3_set (U1.out.block HB0.out))
  have C1 := hid (show (((w1.setCell ⟨g0, 0, none⟩ (.slice ya n yc)).setCell ⟨g0, 1, none⟩ (.bool dn)).setCell ⟨g0, 2, none⟩ (.int .i64 fu)).heap[g1]? = some (.cells #[.int .i64 ok, .string oa, .string oz, .int .i64 on, .slice pa pl pc] 70 (0, 0)) from set_other (set_other (set_other (U1.out.block HB1.out) n10) n10) n10)
  have C2 := hid (show (((w1.setCell ⟨g0, 0, none⟩ (.slice ya n yc)).setCell ⟨g0, 1, none⟩ (.bool dn)).setCell ⟨g0, 2, none⟩ (.int .i64 fu)).heap[g2]? = some (.cells #[.slice none 0 0, .bool false, .int .i64 0] 32 (0, 0)) from set_other (set_other (set_other (U1.out.block HB2.out) n20) n20) n20)
  have CU := hid (show Old W (((w1.setCell ⟨g0, 0, none⟩ (.slice ya n yc)).setCell ⟨g0, 1, none⟩ (.bool dn)).setCell ⟨g0, 2, none⟩ (.int .i64 fu)) from (HU.out.trans U1.out).set3 HLt.out.1)
  have CS := hid (show g2 < (((w1.setCell ⟨g0, 0, none⟩ (.slice ya n yc)).setCell ⟨g0, 1, none⟩ (.bool dn)).setCell ⟨g0, 2, none⟩ (.int .i64 fu)).heap.size from by simp; have := U1.out.size; have := HLt.out; omega)
  clear k0 k1 k2 kf0 kf1 kf2 x0 x1 x2 xf0 xf1 xf2 HSt HB0 HB1 HB2 U1 HU
  generalize ((w1.setCell ⟨g0, 0, none⟩ (.slice ya n yc)).setCell ⟨g0, 1, none⟩ (.bool dn)).setCell ⟨g0, 2, none⟩ (.int .i64 fu) = w2 at *
  have HF := hid (show ∀ (w6 : World) (a : Option Addr) (c : Nat) (Z : List Fi) (P' : PFs) (code : Int) (cs : Array Value), Old W w6 → w6.heap[g2]? = some (.cells cs 32 (0, 0)) → DocAt w6 (.slice a Z.length c) Z → (∀ g ∈ docB (.slice a Z.length c) Z, g ∈ BB ∨ W.heap.size ≤ g) → Z.map Fi.p = P' → RP W BB P' dn fu code (.returned (.tuple #[.agg #[.slice a Z.length c, .bool dn, .int .i64 fu], .int .i64 code])) (((w6.setCell ⟨g2, 0, none⟩ (.slice a Z.length c)).setCell ⟨g2, 1, none⟩ (.bool dn)).setCell ⟨g2, 2, none⟩ (.int .i64 fu)) from fun w6 a c Z P' code cs u h2 hD hB hP =>
    ⟨a, c, Z, rfl, hD.chgT (chg3 w6 g2 _ _ _) h2, hP, u.set3 (by have := HLt.out; omega), hB⟩)
  obtain ⟨z0, z1, z2, z3, z4⟩ := box5 C1.out
  obtain ⟨x0, x1, x2, xf0, xf1, xf2⟩ := box3 C0.out
  obtain ⟨r0, r1, r2, rf0, rf1, rf2⟩ := box3 C2.out
  cases dn with
  | true =>
    have EC := hid (show doC (Y.map Fi.p) true ⟨ok, oa, oz, on, .slice pa pl pc, oB, okv, okp⟩ = 50 from by unfold doC; rw [if_pos rfl])
    have EP := hid (show doF (Y.map Fi.p) true ⟨ok, oa, oz, on, .slice pa pl pc, oB, okv, okp⟩ = (Y.map Fi.p) from by unfold doF; rw [EC.out, if_neg (by decide)])
    clear HFi HWo HWi
    have HFin := hid (HF.out w2 ya yc Y (Y.map Fi.p) 50 _ CU.out C2.out (by rw [← HN.out]; exact HD.out.old CU.out) (by rw [← HN.out]; exact fun g hg => .inl (HBB.out g hg)) rfl)
    rw [← HN.out] at HFin
    obtain ⟨F0, F1, F2, -, -, -⟩ := box3 (box3_set (p := .slice ya n yc) (q := .bool true) (r := .int .i64 fu) C2.out)
    go_wp2
    refine bodyPost_ret (v := .tuple #[.agg #[.slice ya n yc, .bool true, .int .i64 fu], .int .i64 50]) (by simp [results, Tryz.results22, go_sem, F0, F1, F2]) rfl ?_
    rw [EC.out, EP.out]
    exact HFin.out
  | false =>
    have HNA := hid (fun (W' : World) => rname_any oa W')
    have HNZ := hid (fun (W' : World) => rname_any oz W')
    cases hma : misN oa with
    | true =>
      rw [hma] at HNA
      have EC := hid (show doC (Y.map Fi.p) false ⟨ok, oa, oz, on, .slice pa pl pc, oB, okv, okp⟩ = 1 from by unfold doC; rw [if_neg (by simp), if_pos (by dsimp only; rw [hma]; rfl)])
      have EP := hid (show doF (Y.map Fi.p) false ⟨ok, oa, oz, on, .slice pa pl pc, oB, okv, okp⟩ = (Y.map Fi.p) from by unfold doF; rw [EC.out, if_neg (by decide)])
      clear HFi HWo HWi HNZ
      have HFin := hid (HF.out w2 ya yc Y (Y.map Fi.p) 1 _ CU.out C2.out (by rw [← HN.out]; exact HD.out.old CU.out) (by rw [← HN.out]; exact fun g hg => .inl (HBB.out g hg)) rfl)
      rw [← HN.out] at HFin
      obtain ⟨F0, F1, F2, -, -, -⟩ := box3 (box3_set (p := .slice ya n yc) (q := .bool false) (r := .int .i64 fu) C2.out)
      go_wp2_with (go_at_call 48; refine (HNA.out _).mono ?_; rintro e w3 ⟨rfl, hw⟩; have hw2 := hw.symm; subst hw2)
      refine bodyPost_ret (v := .tuple #[.agg #[.slice ya n yc, .bool false, .int .i64 fu], .int .i64 1]) (by simp [results, Tryz.results22, go_sem, F0, F1, F2]) rfl ?_
      rw [EC.out, EP.out]
      exact HFin.out
    | false =>
      rw [hma] at HNA
      by_cases hz : ok = 3 ∧ misN oz = true
      · skip
        obtain ⟨e3, hmz⟩ := hz
        subst e3
        rw [hmz] at HNZ
        have EC := hid (show doC (Y.map Fi.p) false ⟨3, oa, oz, on, .slice pa pl pc, oB, okv, okp⟩ = 1 from by unfold doC; rw [if_neg (by simp), if_pos (by dsimp only; rw [hma, hmz]; rfl)])
        have EP := hid (show doF (Y.map Fi.p) false ⟨3, oa, oz, on, .slice pa pl pc, oB, okv, okp⟩ = (Y.map Fi.p) from by unfold doF; rw [EC.out, if_neg (by decide)])
        clear HFi HWo HWi
        have tok : True := trivial
        have HFin := hid (HF.out w2 ya yc Y (Y.map Fi.p) 1 _ CU.out C2.out (by rw [← HN.out]; exact HD.out.old CU.out) (by rw [← HN.out]; exact fun g hg => .inl (HBB.out g hg)) rfl)
        rw [← HN.out] at HFin
        obtain ⟨F0, F1, F2, -, -, -⟩ := box3 (box3_set (p := .slice ya n yc) (q := .bool false) (r := .int .i64 fu) C2.out)
        go_wp2_with (first | (have _t := tok; clear tok _t; go_at_call 48; refine (HNA.out _).mono ?_; rintro e w3 ⟨rfl, hw⟩; have hw2 := hw.symm; subst hw2) | (go_at_call 48; refine (HNZ.out _).mono ?_; rintro e w3 ⟨rfl, hw⟩; have hw2 := hw.symm; subst hw2))
        refine bodyPost_ret (v := .tuple #[.agg #[.slice ya n yc, .bool false, .int .i64 fu], .int .i64 1]) (by simp [results, Tryz.results22, go_sem, F0, F1, F2]) rfl ?_
        rw [EC.out, EP.out]
        exact HFin.out
      · have HC := hid (show doC (Y.map Fi.p) false ⟨ok, oa, oz, on, .slice pa pl pc, oB, okv, okp⟩ = if ok = 1 then (if (getP (Y.map Fi.p) oa).isSome = true then 5 else if 256 ≤ (Y.map Fi.p).length then 3 else 0) else match getP (Y.map Fi.p) oa with | none => 4 | some x => if ok = 4 then (if beyB x.now on = true then 1 else if 65536 - on < (oB.length : Int) then 51 else 0) else if ok = 5 then (if beyB x.now on = true then 1 else 0) else 0 from by
          unfold doC
          rw [if_neg (by simp), if_neg (by dsimp only; rw [hma]; simpa using fun e => by simpa using fun e2 => hz ⟨e, e2⟩)])
        have HNw := hid (show Hid (ok = 3 → misN oz = false) from fun e => by cases q : misN oz with | true => exact absurd ⟨e, q⟩ hz | false => rfl)
        clear hz
        have HYl := hid (show Y.length ≤ 1000 from by have := HLe.out; have := HN.out; omega)
        by_cases c3 : ok = 3
        · subst c3
          have HNz2 := hid (HNw.out.out rfl)
          rw [HNz2.out] at HNZ
          have tok : True := trivial
          go_upto_region 7 with (first | (have _t := tok; clear tok _t; go_at_call 48; refine (HNA.out _).mono ?_; rintro e w3 ⟨rfl, hw⟩; have hw2 := hw.symm; subst hw2) | (go_at_call 48; refine (HNZ.out _).mono ?_; rintro e w3 ⟨rfl, hw⟩; have hw2 := hw.symm; subst hw2) | (go_at_call 21; refine (HFi.out _ ya n yc Y _ _ oa (HD.out.row.old CU.out) HN.out HYl.out).mono ?_; rintro e w3 ⟨r, rfl, fi, u3⟩; have FI := hid fi; have U3 := hid u3; clear fi u3))
          have CU3 := hid (CU.out.trans U3.out)
          have D1 := hid (U3.out.block C1.out)
          have D0 := hid (U3.out.block C0.out)
          have D2 := hid (U3.out.block C2.out)
          have S3 := hid (show g2 < w3.heap.size from by have := U3.out.size; have := CS.out; omega)
          clear z0 z1 z2 z3 z4 x0 x1 x2 xf0 xf1 xf2 r0 r1 r2 rf0 rf1 rf2 HFi
          obtain ⟨z0, z1, z2, z3, z4⟩ := box5 D1.out
          obtain ⟨x0, x1, x2, xf0, xf1, xf2⟩ := box3 D0.out
          obtain ⟨r0, r1, r2, rf0, rf1, rf2⟩ := box3 D2.out
          rcases FI.out with ⟨hr, hno⟩ | ⟨q, hr, hq, hqn⟩
          · subst hr
            have hg := getP_none (fs := Y.map Fi.p) (s := oa) (fun q hq => by obtain ⟨y, hy, e⟩ := List.mem_map.1 hq; rw [← e]; exact hno y hy)
            have EC := hid (show doC (Y.map Fi.p) false ⟨3, oa, oz, on, .slice pa pl pc, oB, okv, okp⟩ = 4 from by rw [HC.out, if_neg (by decide), hg])
            have EP := hid (show doF (Y.map Fi.p) false ⟨3, oa, oz, on, .slice pa pl pc, oB, okv, okp⟩ = (Y.map Fi.p) from by unfold doF; rw [EC.out, if_neg (by decide)])
            clear HWo HWi HC hg hno
            have HFin := hid (HF.out w3 ya yc Y (Y.map Fi.p) 4 _ CU3.out D2.out (by rw [← HN.out]; exact HD.out.old CU3.out) (by rw [← HN.out]; exact fun g hg => .inl (HBB.out g hg)) rfl)
            rw [← HN.out] at HFin
            obtain ⟨F0, F1, F2, -, -, -⟩ := box3 (box3_set (p := .slice ya n yc) (q := .bool false) (r := .int .i64 fu) D2.out)
            go_wp2
            refine bodyPost_ret (v := .tuple #[.agg #[.slice ya n yc, .bool false, .int .i64 fu], .int .i64 4]) (by simp [results, Tryz.results22, go_sem, F0, F1, F2]) rfl ?_
            rw [EC.out, EP.out]
            exact HFin.out
          · subst hr
            obtain ⟨gy, cy, qy, hyc, hym, ⟨y0, y1, y2⟩⟩ := HD.out.row.at q hq
            obtain ⟨ey, -, ec⟩ := Value.slice.inj qy
            subst ey ec
            rw [← HN.out] at hyc
            have k0 := CU3.out.keep y0
            have k1 := CU3.out.keep y1
            have k2 := CU3.out.keep y2
            have l1 : (0 : Int) ≤ (q : Int) := by omega
            have l2 : (q : Int) < (n : Int) := by have := HN.out; omega
            have HBq := hid (HD.out.byt _ (List.getElem_mem hq))
            have HGt := hid (show getP (Y.map Fi.p) oa = some ⟨Y[q].now, Y[q].safe⟩ from by have := getP_mem HNd.out (q := Y[q].p) (List.mem_map.2 ⟨Y[q], List.getElem_mem hq, rfl⟩); rw [show (Y[q].p).1 = oa from hqn] at this; exact this)
            have HFl := hid (show filP (Y.map Fi.p) oa = ⟨Y[q].now, Y[q].safe⟩ from by unfold filP; rw [HGt.out]; rfl)
            have HMm := hid (show ∀ g, Y[q].vn.ownBlock = some g ∨ Y[q].vs.ownBlock = some g → g ∈ BB from fun g e => HBB.out g (docB_mem.2 (.inr ⟨_, List.getElem_mem hq, e⟩)))
            rw [hqn] at k0
            clear y0 y1 y2 qy hqn
            generalize Y[q] = lx at *
            clear hq
            go_upto_region 16 with (fail)
            have HV5 := hid (show Old w3 (w3.alloc (.cells #[.string oa, .slice lx.na lx.now.length lx.nc, .slice lx.sa lx.safe.length lx.sc] 51)) from (Old.refl w3).alloc _)
            have HB7 := hid (alloc_at w3 (.cells #[.string oa, .slice lx.na lx.now.length lx.nc, .slice lx.sa lx.safe.length lx.sc] 51))
            clear k0 k1 k2
            generalize w3.alloc (.cells #[.string oa, .slice lx.na lx.now.length lx.nc, .slice lx.sa lx.safe.length lx.sc] 51) = w5 at *
            obtain ⟨b7, hb7⟩ : ∃ b7, b7 = w3.heap.size := ⟨_, rfl⟩
            have HS7 := hid (show g2 < b7 ∧ b7 < w5.heap.size ∧ W.heap.size ≤ b7 from by have := S3.out; have := CU3.out.size; have := heap_lt HB7.out; omega)
            rw [← hb7] at HB7 ⊢
            clear hb7
            have U5 := hid (CU3.out.trans HV5.out)
            have E0 := hid (HV5.out.block D0.out)
            have E1 := hid (HV5.out.block D1.out)
            have E2 := hid (HV5.out.block D2.out)
            clear z0 z1 z2 z3 z4 x0 x1 x2 xf0 xf1 xf2 r0 r1 r2 rf0 rf1 rf2 D0 D1 D2 CU3 HV5 U3 CU C0 C1 C2
            obtain ⟨z0, z1, z2, z3, z4⟩ := box5 E1.out
            obtain ⟨x0, x1, x2, xf0, xf1, xf2⟩ := box3 E0.out
            obtain ⟨r0, r1, r2, rf0, rf1, rf2⟩ := box3 E2.out
            obtain ⟨t0, t1, t2, tf0, tf1, tf2⟩ := box3 HB7.out
            have EC := hid (show doC (Y.map Fi.p) false ⟨3, oa, oz, on, .slice pa pl pc, oB, okv, okp⟩ = 0 from by rw [HC.out, if_neg (by decide), HGt.out]; simp)
            obtain ⟨Z1, hZ1⟩ : ∃ Z1, delY Y oa = Z1 := ⟨_, rfl⟩
            have HCo := hid (HWo.out w5 (some ⟨gy, 0, none⟩) n yc Y Z1 false fu oa (HD.out.old U5.out) HN.out HYl.out hZ1)
            have HZ1 := hid hZ1
            clear hZ1
            go_upto_region 21 with (go_at_call 50; refine HCo.out.mono ?_; rintro e w6 ⟨a6, c6, rfl, d6, u6, f6⟩; have O6 := hid d6; have U6 := hid u6; have kx0 := u6.keep x0; have kx1 := u6.keep x1; have kx2 := u6.keep x2; have kxf0 := u6.keepF x0 xf0; have kxf1 := u6.keepF x1 xf1; have kxf2 := u6.keepF x2 xf2; have F6 := hid f6; clear d6 u6 f6)
            obtain ⟨m1, hm1⟩ : ∃ m1, m1 = Z1.length := ⟨_, rfl⟩
            have HM1 := hid hm1
            rw [← hm1] at O6 F6 ⊢
            clear hm1
            have HNb := hid (show ∀ g, (Value.slice a6 m1 c6).ownBlock = some g → g ≠ b7 from fun g e => by have := F6.out g e; have := HS7.out; omega)
            have I0 := hid (show (((w6.setCell ⟨g0, 0, none⟩ (.slice a6 m1 c6)).setCell ⟨g0, 1, none⟩ (.bool false)).setCell ⟨g0, 2, none⟩ (.int .i64 fu)).heap[g0]? = some (.cells #[.slice a6 m1 c6, .bool false, .int .i64 fu] 32 (0, 0)) from box3_set (U6.out.block E0.out))
            have I1 := hid (show (((w6.setCell ⟨g0, 0, none⟩ (.slice a6 m1 c6)).setCell ⟨g0, 1, none⟩ (.bool false)).setCell ⟨g0, 2, none⟩ (.int .i64 fu)).heap[g1]? = some (.cells #[.int .i64 3, .string oa, .string oz, .int .i64 on, .slice pa pl pc] 70 (0, 0)) from set_other (set_other (set_other (U6.out.block E1.out) n10) n10) n10)
            have I2 := hid (show (((w6.setCell ⟨g0, 0, none⟩ (.slice a6 m1 c6)).setCell ⟨g0, 1, none⟩ (.bool false)).setCell ⟨g0, 2, none⟩ (.int .i64 fu)).heap[g2]? = some (.cells #[.slice none 0 0, .bool false, .int .i64 0] 32 (0, 0)) from set_other (set_other (set_other (U6.out.block E2.out) n20) n20) n20)
            have I7 := hid (show (((w6.setCell ⟨g0, 0, none⟩ (.slice a6 m1 c6)).setCell ⟨g0, 1, none⟩ (.bool false)).setCell ⟨g0, 2, none⟩ (.int .i64 fu)).heap[b7]? = some (.cells #[.string oa, .slice lx.na lx.now.length lx.nc, .slice lx.sa lx.safe.length lx.sc] 51 (0, 0)) from set_other (set_other (set_other (U6.out.block HB7.out) (by have := HLt.out; have := HS7.out; omega)) (by have := HLt.out; have := HS7.out; omega)) (by have := HLt.out; have := HS7.out; omega))
            have IU := hid (show Old W (((w6.setCell ⟨g0, 0, none⟩ (.slice a6 m1 c6)).setCell ⟨g0, 1, none⟩ (.bool false)).setCell ⟨g0, 2, none⟩ (.int .i64 fu)) from (U5.out.trans U6.out).set3 HLt.out.1)
            have IO := hid (show DocAt (((w6.setCell ⟨g0, 0, none⟩ (.slice a6 m1 c6)).setCell ⟨g0, 1, none⟩ (.bool false)).setCell ⟨g0, 2, none⟩ (.int .i64 fu)) (.slice a6 m1 c6) Z1 from O6.out.chgT (chg3 w6 g0 _ _ _) (U6.out.block E0.out))
            have IS := hid (show w5.heap.size ≤ (((w6.setCell ⟨g0, 0, none⟩ (.slice a6 m1 c6)).setCell ⟨g0, 1, none⟩ (.bool false)).setCell ⟨g0, 2, none⟩ (.int .i64 fu)).heap.size from by simp; exact U6.out.size)
            clear kx0 kx1 kx2 kxf0 kxf1 kxf2 x0 x1 x2 xf0 xf1 xf2 z0 z1 z2 z3 z4 r0 r1 r2 rf0 rf1 rf2 t0 t1 t2 tf0 tf1 tf2 O6 U6 E0 E1 E2 HB7 HCo
            generalize ((w6.setCell ⟨g0, 0, none⟩ (.slice a6 m1 c6)).setCell ⟨g0, 1, none⟩ (.bool false)).setCell ⟨g0, 2, none⟩ (.int .i64 fu) = w7 at *
            obtain ⟨z0, z1, z2, z3, z4⟩ := box5 I1.out
            obtain ⟨t0, t1, t2, tf0, tf1, tf2⟩ := box3 I7.out
            go_upto_region 35 with (fail)
            have J0 := hid (show (w7.setCell ⟨b7, 0, none⟩ (.string oz)).heap[g0]? = some (.cells #[.slice a6 m1 c6, .bool false, .int .i64 fu] 32 (0, 0)) from set_other I0.out (by have := HLt.out; have := HS7.out; omega))
            have J2 := hid (show (w7.setCell ⟨b7, 0, none⟩ (.string oz)).heap[g2]? = some (.cells #[.slice none 0 0, .bool false, .int .i64 0] 32 (0, 0)) from set_other I2.out (by have := HLt.out; have := HS7.out; omega))
            have J7 := hid (show (w7.setCell ⟨b7, 0, none⟩ (.string oz)).heap[b7]? = some (.cells #[.string oz, .slice lx.na lx.now.length lx.nc, .slice lx.sa lx.safe.length lx.sc] 51 (0, 0)) from Go.Joins.block_setCell I7.out (.string oz) (i := 0))
            have JU := hid (show Old W (w7.setCell ⟨b7, 0, none⟩ (.string oz)) from IU.out.setCell (p := ⟨b7, 0, none⟩) HS7.out.2.2 _)
            have JC := hid (Chg.set (S := [b7]) w7 ⟨b7, 0, none⟩ (.string oz) (by simp))
            have JO := hid (show DocAt (w7.setCell ⟨b7, 0, none⟩ (.string oz)) (.slice a6 m1 c6) Z1 from ⟨IO.out.row.chg JC.out (fun g e k => by simp at k; exact absurd k (HNb.out g e)), fun y hy => (HD.out.byt y (by rw [← HZ1.out] at hy; exact (List.mem_filter.1 hy).1)).old JU.out⟩)
            clear z0 z1 z2 z3 z4 t0 t1 t2 tf0 tf1 tf2 IO IU I0 I1 I2 I7 JC
            generalize w7.setCell ⟨b7, 0, none⟩ (.string oz) = w8 at *
            obtain ⟨x0, x1, x2, -, -, -⟩ := box3 J0.out
            obtain ⟨r0, r1, r2, rf0, rf1, rf2⟩ := box3 J2.out
            obtain ⟨t0, t1, t2, -, -, -⟩ := box3 J7.out
            have HZl := hid (show Z1.length ≤ 1000 from by rw [← HZ1.out]; have := delY_len Y oa; have := HYl.out; omega)
            obtain ⟨ZZ, hZZ⟩ : ∃ ZZ, insY ⟨oz, lx.na, lx.nc, lx.now, lx.sa, lx.sc, lx.safe⟩ (delY Z1 oz) = ZZ := ⟨_, rfl⟩
            have HCl := hid (HWi.out w8 a6 m1 c6 Z1 ZZ false fu oz lx.na lx.now.length lx.nc lx.sa lx.safe.length lx.sc lx.now lx.safe JO.out HM1.out HZl.out rfl rfl (show FiAt w8 ⟨oz, lx.na, lx.nc, lx.now, lx.sa, lx.sc, lx.safe⟩ from (HBq.out.old JU.out)) hZZ)
            have HZp := hid (show ZZ.map Fi.p = insP (oz, ⟨lx.now, lx.safe⟩) (delP (Z1.map Fi.p) oz) from by rw [← hZZ, insY_p, delY_p]; rfl)
            have HZb := hid (show ∀ z ∈ ZZ, ∀ g, z.vn.ownBlock = some g ∨ z.vs.ownBlock = some g → g ∈ BB ∨ W.heap.size ≤ g from fun z hz g e => by
              rw [← hZZ] at hz
              rcases insY_mem hz with q1 | q1
              · rw [q1] at e; exact (.inl (HMm.out g e))
              · have q2 := (List.mem_filter.1 q1).1
                exact .inl (HBB.out g (docB_mem.2 (.inr ⟨z, by rw [← HZ1.out] at q2; exact (List.mem_filter.1 q2).1, e⟩))))
            clear hZZ
            have KK := hid (show True from trivial)
            have HZ1p := hid (show Z1.map Fi.p = delP (Y.map Fi.p) oa from by rw [← HZ1.out, delY_p])
            rw [HZ1p.out] at HZp
            have EP := hid (show doF (Y.map Fi.p) false ⟨3, oa, oz, on, .slice pa pl pc, oB, okv, okp⟩ = insP (oz, ⟨lx.now, lx.safe⟩) (delP (delP (Y.map Fi.p) oa) oz) from by unfold doF; rw [EC.out, if_pos rfl]; simp [HFl.out])
            have HSz := hid (show W.heap.size ≤ w8.heap.size from JU.out.size)
            have HGx := hid (fun (w6 : World) (u : Old w8 w6) => u.block J2.out)
            go_wp2_with (go_at_call 49; refine HCl.out.mono ?_; rintro e w6 h6; have H6 := hid h6; obtain ⟨a6, c6, rfl, d6, u6, f6⟩ := h6; have O6 := hid d6; have U6 := hid u6; have F6 := hid f6; have kr0 := u6.keep r0; have kr1 := u6.keep r1; have kr2 := u6.keep r2; have krf0 := u6.keepF r0 rf0; have krf1 := u6.keepF r1 rf1; have krf2 := u6.keepF r2 rf2; clear d6 u6 f6 H6)
            have HFin := hid (HF.out w6 a6 c6 ZZ _ 0 _ (JU.out.trans U6.out) (HGx.out w6 U6.out) O6.out (fun g hg => by rcases docB_mem.1 hg with e | ⟨z, hz, e⟩; exact .inr (Nat.le_trans HSz.out (F6.out g e)); exact HZb.out z hz g e) HZp.out)
            obtain ⟨F0, F1, F2, -, -, -⟩ := box3 (box3_set (p := .slice a6 ZZ.length c6) (q := .bool false) (r := .int .i64 fu) (HGx.out w6 U6.out))
            refine bodyPost_ret (v := .tuple #[.agg #[.slice a6 ZZ.length c6, .bool false, .int .i64 fu], .int .i64 0]) (by simp [results, Tryz.results22, go_sem, F0, F1, F2]) rfl ?_
            rw [EC.out, EP.out]
            exact HFin.out
        · have c3b : (ok == 3) = false := by rw [beq_eq_false_iff_ne]; exact c3
          clear HNZ HNw
          go_upto_region 7 with (first | (go_at_call 48; refine (HNA.out _).mono ?_; rintro e w3 ⟨rfl, hw⟩; have hw2 := hw.symm; subst hw2) | (go_at_call 21; refine (HFi.out _ ya n yc Y _ _ oa (HD.out.row.old CU.out) HN.out HYl.out).mono ?_; rintro e w3 ⟨r, rfl, fi, u3⟩; have FI := hid fi; have U3 := hid u3; clear fi u3))
          have CU3 := hid (CU.out.trans U3.out)
          have D1 := hid (U3.out.block C1.out)
          have D0 := hid (U3.out.block C0.out)
          have D2 := hid (U3.out.block C2.out)
          have S3 := hid (show g2 < w3.heap.size from by have := U3.out.size; have := CS.out; omega)
          clear z0 z1 z2 z3 z4 x0 x1 x2 xf0 xf1 xf2 r0 r1 r2 rf0 rf1 rf2 HFi
          obtain ⟨z0, z1, z2, z3, z4⟩ := box5 D1.out
          obtain ⟨x0, x1, x2, xf0, xf1, xf2⟩ := box3 D0.out
          obtain ⟨r0, r1, r2, rf0, rf1, rf2⟩ := box3 D2.out
          by_cases c1 : ok = 1
          · subst c1
            rcases FI.out with ⟨hr, hno⟩ | ⟨q, hr, hq, hqn⟩
            · subst hr
              have HGn := hid (getP_none (fs := Y.map Fi.p) (s := oa) (fun q hq => by obtain ⟨y, hy, e⟩ := List.mem_map.1 hq; rw [← e]; exact hno y hy))
              clear hno
              by_cases hm : 256 ≤ n
              · have l1 : (256 : Int) ≤ (n : Int) := by omega
                have EC := hid (show doC (Y.map Fi.p) false ⟨1, oa, oz, on, .slice pa pl pc, oB, okv, okp⟩ = 3 from by rw [HC.out, if_pos rfl, HGn.out, if_neg (by simp), if_pos (by rw [HPl.out]; exact hm)])
                have EP := hid (show doF (Y.map Fi.p) false ⟨1, oa, oz, on, .slice pa pl pc, oB, okv, okp⟩ = (Y.map Fi.p) from by unfold doF; rw [EC.out, if_neg (by decide)])
                clear HWo HWi HC HGn hm
                have HFin := hid (HF.out w3 ya yc Y (Y.map Fi.p) 3 _ CU3.out D2.out (by rw [← HN.out]; exact HD.out.old CU3.out) (by rw [← HN.out]; exact fun g hg => .inl (HBB.out g hg)) rfl)
                rw [← HN.out] at HFin
                obtain ⟨F0, F1, F2, -, -, -⟩ := box3 (box3_set (p := .slice ya n yc) (q := .bool false) (r := .int .i64 fu) D2.out)
                go_wp2
                refine bodyPost_ret (v := .tuple #[.agg #[.slice ya n yc, .bool false, .int .i64 fu], .int .i64 3]) (by simp [results, Tryz.results22, go_sem, F0, F1, F2]) rfl ?_
                rw [EC.out, EP.out]
                exact HFin.out
              · have l1 : ¬ (256 : Int) ≤ (n : Int) := by omega
                have EC := hid (show doC (Y.map Fi.p) false ⟨1, oa, oz, on, .slice pa pl pc, oB, okv, okp⟩ = 0 from by rw [HC.out, if_pos rfl, HGn.out, if_neg (by simp), if_neg (by rw [HPl.out]; exact hm)])
                clear hm HC HGn
                obtain ⟨ZZ, hZZ⟩ : ∃ ZZ, insY ⟨oa, none, 0, [], none, 0, []⟩ (delY Y oa) = ZZ := ⟨_, rfl⟩
                have HCl := hid (HWi.out w3 ya n yc Y ZZ false fu oa none 0 0 none 0 0 [] [] (HD.out.old CU3.out) HN.out HYl.out rfl rfl (show FiAt w3 ⟨oa, none, 0, [], none, 0, []⟩ from ⟨Own.nil _, Own.nil _, by simp, by simp⟩) hZZ)
                have HZp := hid (show ZZ.map Fi.p = insP (oa, ⟨[], []⟩) (delP (Y.map Fi.p) oa) from by rw [← hZZ, insY_p, delY_p]; rfl)
                have HZb := hid (show ∀ z ∈ ZZ, ∀ g, z.vn.ownBlock = some g ∨ z.vs.ownBlock = some g → g ∈ BB ∨ W.heap.size ≤ g from fun z hz g e => by
                  rw [← hZZ] at hz
                  rcases insY_mem hz with q1 | q1
                  · rw [q1] at e; exact (by rcases e with e | e <;> cases e)
                  · have q2 := (List.mem_filter.1 q1).1
                    exact .inl (HBB.out g (docB_mem.2 (.inr ⟨z, q2, e⟩))))
                clear hZZ
                have KK := hid (show True from trivial)
                have EP := hid (show doF (Y.map Fi.p) false ⟨1, oa, oz, on, .slice pa pl pc, oB, okv, okp⟩ = insP (oa, ⟨[], []⟩) (delP (Y.map Fi.p) oa) from by unfold doF; rw [EC.out, if_pos rfl]; simp)
                have HSz := hid (show W.heap.size ≤ w3.heap.size from CU3.out.size)
                have HGx := hid (fun (w6 : World) (u : Old w3 w6) => u.block D2.out)
                go_wp2_with (go_at_call 49; refine HCl.out.mono ?_; rintro e w6 h6; have H6 := hid h6; obtain ⟨a6, c6, rfl, d6, u6, f6⟩ := h6; have O6 := hid d6; have U6 := hid u6; have F6 := hid f6; have kr0 := u6.keep r0; have kr1 := u6.keep r1; have kr2 := u6.keep r2; have krf0 := u6.keepF r0 rf0; have krf1 := u6.keepF r1 rf1; have krf2 := u6.keepF r2 rf2; clear d6 u6 f6 H6)
                have HFin := hid (HF.out w6 a6 c6 ZZ _ 0 _ (CU3.out.trans U6.out) (HGx.out w6 U6.out) O6.out (fun g hg => by rcases docB_mem.1 hg with e | ⟨z, hz, e⟩; exact .inr (Nat.le_trans HSz.out (F6.out g e)); exact HZb.out z hz g e) HZp.out)
                obtain ⟨F0, F1, F2, -, -, -⟩ := box3 (box3_set (p := .slice a6 ZZ.length c6) (q := .bool false) (r := .int .i64 fu) (HGx.out w6 U6.out))
                refine bodyPost_ret (v := .tuple #[.agg #[.slice a6 ZZ.length c6, .bool false, .int .i64 fu], .int .i64 0]) (by simp [results, Tryz.results22, go_sem, F0, F1, F2]) rfl ?_
                rw [EC.out, EP.out]
                exact HFin.out
            · subst hr
              have l1 : (0 : Int) ≤ (q : Int) := by omega
              have HGt := hid (show (getP (Y.map Fi.p) oa).isSome = true from by have := getP_mem HNd.out (q := Y[q].p) (List.mem_map.2 ⟨Y[q], List.getElem_mem hq, rfl⟩); rw [show (Y[q].p).1 = oa from hqn] at this; rw [this]; rfl)
              have EC := hid (show doC (Y.map Fi.p) false ⟨1, oa, oz, on, .slice pa pl pc, oB, okv, okp⟩ = 5 from by rw [HC.out, if_pos rfl, HGt.out, if_pos rfl])
              have EP := hid (show doF (Y.map Fi.p) false ⟨1, oa, oz, on, .slice pa pl pc, oB, okv, okp⟩ = (Y.map Fi.p) from by unfold doF; rw [EC.out, if_neg (by decide)])
              clear HWo HWi HC HGt hqn
              have HFin := hid (HF.out w3 ya yc Y (Y.map Fi.p) 5 _ CU3.out D2.out (by rw [← HN.out]; exact HD.out.old CU3.out) (by rw [← HN.out]; exact fun g hg => .inl (HBB.out g hg)) rfl)
              rw [← HN.out] at HFin
              obtain ⟨F0, F1, F2, -, -, -⟩ := box3 (box3_set (p := .slice ya n yc) (q := .bool false) (r := .int .i64 fu) D2.out)
              go_wp2
              refine bodyPost_ret (v := .tuple #[.agg #[.slice ya n yc, .bool false, .int .i64 fu], .int .i64 5]) (by simp [results, Tryz.results22, go_sem, F0, F1, F2]) rfl ?_
              rw [EC.out, EP.out]
              exact HFin.out
          have c1b : (ok == 1) = false := by rw [beq_eq_false_iff_ne]; exact c1
          rcases FI.out with ⟨hr, hno⟩ | ⟨q, hr, hq, hqn⟩
          · subst hr
            have hg := getP_none (fs := Y.map Fi.p) (s := oa) (fun q hq => by obtain ⟨y, hy, e⟩ := List.mem_map.1 hq; rw [← e]; exact hno y hy)
            have EC := hid (show doC (Y.map Fi.p) false ⟨ok, oa, oz, on, .slice pa pl pc, oB, okv, okp⟩ = 4 from by rw [HC.out, if_neg (by exact c1), hg])
            have EP := hid (show doF (Y.map Fi.p) false ⟨ok, oa, oz, on, .slice pa pl pc, oB, okv, okp⟩ = (Y.map Fi.p) from by unfold doF; rw [EC.out, if_neg (by decide)])
            clear HWo HWi HC hg hno
            have HFin := hid (HF.out w3 ya yc Y (Y.map Fi.p) 4 _ CU3.out D2.out (by rw [← HN.out]; exact HD.out.old CU3.out) (by rw [← HN.out]; exact fun g hg => .inl (HBB.out g hg)) rfl)
            rw [← HN.out] at HFin
            obtain ⟨F0, F1, F2, -, -, -⟩ := box3 (box3_set (p := .slice ya n yc) (q := .bool false) (r := .int .i64 fu) D2.out)
            go_wp2
            refine bodyPost_ret (v := .tuple #[.agg #[.slice ya n yc, .bool false, .int .i64 fu], .int .i64 4]) (by simp [results, Tryz.results22, go_sem, F0, F1, F2]) rfl ?_
            rw [EC.out, EP.out]
            exact HFin.out
          · subst hr
            obtain ⟨gy, cy, qy, hyc, hym, ⟨y0, y1, y2⟩⟩ := HD.out.row.at q hq
            obtain ⟨ey, -, ec⟩ := Value.slice.inj qy
            subst ey ec
            rw [← HN.out] at hyc
            have k0 := CU3.out.keep y0
            have k1 := CU3.out.keep y1
            have k2 := CU3.out.keep y2
            have l1 : (0 : Int) ≤ (q : Int) := by omega
            have l2 : (q : Int) < (n : Int) := by have := HN.out; omega
            have HBq := hid (HD.out.byt _ (List.getElem_mem hq))
            have HGt := hid (show getP (Y.map Fi.p) oa = some ⟨Y[q].now, Y[q].safe⟩ from by have := getP_mem HNd.out (q := Y[q].p) (List.mem_map.2 ⟨Y[q], List.getElem_mem hq, rfl⟩); rw [show (Y[q].p).1 = oa from hqn] at this; exact this)
            have HFl := hid (show filP (Y.map Fi.p) oa = ⟨Y[q].now, Y[q].safe⟩ from by unfold filP; rw [HGt.out]; rfl)
            have HMm := hid (show ∀ g, Y[q].vn.ownBlock = some g ∨ Y[q].vs.ownBlock = some g → g ∈ BB from fun g e => HBB.out g (docB_mem.2 (.inr ⟨_, List.getElem_mem hq, e⟩)))
            rw [hqn] at k0
            clear y0 y1 y2 qy hqn
            generalize Y[q] = lx at *
            clear hq
            go_upto_region 16 with (fail)
            have HV5 := hid (show Old w3 (w3.alloc (.cells #[.string oa, .slice lx.na lx.now.length lx.nc, .slice lx.sa lx.safe.length lx.sc] 51)) from (Old.refl w3).alloc _)
            have HB7 := hid (alloc_at w3 (.cells #[.string oa, .slice lx.na lx.now.length lx.nc, .slice lx.sa lx.safe.length lx.sc] 51))
            clear k0 k1 k2
            generalize w3.alloc (.cells #[.string oa, .slice lx.na lx.now.length lx.nc, .slice lx.sa lx.safe.length lx.sc] 51) = w5 at *
            obtain ⟨b7, hb7⟩ : ∃ b7, b7 = w3.heap.size := ⟨_, rfl⟩
            have HS7 := hid (show g2 < b7 ∧ b7 < w5.heap.size ∧ W.heap.size ≤ b7 from by have := S3.out; have := CU3.out.size; have := heap_lt HB7.out; omega)
            rw [← hb7] at HB7 ⊢
            clear hb7
            have U5 := hid (CU3.out.trans HV5.out)
            have E0 := hid (HV5.out.block D0.out)
            have E1 := hid (HV5.out.block D1.out)
            have E2 := hid (HV5.out.block D2.out)
            clear z0 z1 z2 z3 z4 x0 x1 x2 xf0 xf1 xf2 r0 r1 r2 rf0 rf1 rf2 D0 D1 D2 CU3 HV5 U3 CU C0 C1 C2
            obtain ⟨z0, z1, z2, z3, z4⟩ := box5 E1.out
            obtain ⟨x0, x1, x2, xf0, xf1, xf2⟩ := box3 E0.out
            obtain ⟨r0, r1, r2, rf0, rf1, rf2⟩ := box3 E2.out
            obtain ⟨t0, t1, t2, tf0, tf1, tf2⟩ := box3 HB7.out
            have HCx := hid (show doC (Y.map Fi.p) false ⟨ok, oa, oz, on, .slice pa pl pc, oB, okv, okp⟩ = if ok = 4 then (if beyB lx.now on = true then 1 else if 65536 - on < (oB.length : Int) then 51 else 0) else if ok = 5 then (if beyB lx.now on = true then 1 else 0) else 0 from by rw [HC.out, if_neg c1, HGt.out])
            clear HC
            by_cases c2 : ok = 2
            · subst c2
              have EC := hid (show doC (Y.map Fi.p) false ⟨2, oa, oz, on, .slice pa pl pc, oB, okv, okp⟩ = 0 from by rw [HCx.out]; simp)
              obtain ⟨ZZ, hZZ⟩ : ∃ ZZ, delY Y oa = ZZ := ⟨_, rfl⟩
              have HCl := hid (HWo.out w5 (some ⟨gy, 0, none⟩) n yc Y ZZ false fu oa (HD.out.old U5.out) HN.out HYl.out hZZ)
              have HZp := hid (show ZZ.map Fi.p = delP (Y.map Fi.p) oa from by rw [← hZZ, delY_p])
              have HZb := hid (show ∀ z ∈ ZZ, ∀ g, z.vn.ownBlock = some g ∨ z.vs.ownBlock = some g → g ∈ BB ∨ W.heap.size ≤ g from fun z hz g e => .inl (HBB.out g (docB_mem.2 (.inr ⟨z, by rw [← hZZ] at hz; exact (List.mem_filter.1 hz).1, e⟩))))
              clear hZZ
              have EP := hid (show doF (Y.map Fi.p) false ⟨2, oa, oz, on, .slice pa pl pc, oB, okv, okp⟩ = delP (Y.map Fi.p) oa from by unfold doF; rw [EC.out, if_pos rfl]; simp [HFl.out])
              have HSz := hid (show W.heap.size ≤ w5.heap.size from U5.out.size)
              have HGx := hid (fun (w6 : World) (u : Old w5 w6) => u.block E2.out)
              go_wp2_with (go_at_call 50; refine HCl.out.mono ?_; rintro e w6 h6; have H6 := hid h6; obtain ⟨a6, c6, rfl, d6, u6, f6⟩ := h6; have O6 := hid d6; have U6 := hid u6; have F6 := hid f6; have kr0 := u6.keep r0; have kr1 := u6.keep r1; have kr2 := u6.keep r2; have krf0 := u6.keepF r0 rf0; have krf1 := u6.keepF r1 rf1; have krf2 := u6.keepF r2 rf2; clear d6 u6 f6 H6)
              have HFin := hid (HF.out w6 a6 c6 ZZ _ 0 _ (U5.out.trans U6.out) (HGx.out w6 U6.out) O6.out (fun g hg => by rcases docB_mem.1 hg with e | ⟨z, hz, e⟩; exact .inr (Nat.le_trans HSz.out (F6.out g e)); exact HZb.out z hz g e) HZp.out)
              obtain ⟨F0, F1, F2, -, -, -⟩ := box3 (box3_set (p := .slice a6 ZZ.length c6) (q := .bool false) (r := .int .i64 fu) (HGx.out w6 U6.out))
              refine bodyPost_ret (v := .tuple #[.agg #[.slice a6 ZZ.length c6, .bool false, .int .i64 fu], .int .i64 0]) (by simp [results, Tryz.results22, go_sem, F0, F1, F2]) rfl ?_
              rw [EC.out, EP.out]
              exact HFin.out
            have c2b : (ok == 2) = false := by rw [beq_eq_false_iff_ne]; exact c2
            by_cases c4 : ok = 4
            · subst c4
              clear c1 c1b c2 c2b c3 c3b
              by_cases hb : on < 0
              · have hby : beyB lx.now on = true := by unfold beyB; simp [hb]
                have EC := hid (show doC (Y.map Fi.p) false ⟨4, oa, oz, on, .slice pa pl pc, oB, okv, okp⟩ = 1 from by rw [HCx.out]; simp [hby])
                have EP := hid (show doF (Y.map Fi.p) false ⟨4, oa, oz, on, .slice pa pl pc, oB, okv, okp⟩ = (Y.map Fi.p) from by unfold doF; rw [EC.out, if_neg (by decide)])
                clear hby HWo HWi HCx
                have HFin := hid (HF.out w5 (some ⟨gy, 0, none⟩) yc Y (Y.map Fi.p) 1 _ U5.out E2.out (by rw [← HN.out]; exact HD.out.old U5.out) (by rw [← HN.out]; exact fun g hg => .inl (HBB.out g hg)) rfl)
                rw [← HN.out] at HFin
                obtain ⟨F0, F1, F2, -, -, -⟩ := box3 (box3_set (p := .slice (some ⟨gy, 0, none⟩) n yc) (q := .bool false) (r := .int .i64 fu) E2.out)
                go_wp2
                refine bodyPost_ret (v := .tuple #[.agg #[.slice (some ⟨gy, 0, none⟩) n yc, .bool false, .int .i64 fu], .int .i64 1]) (by simp [results, Tryz.results22, go_sem, F0, F1, F2]) rfl ?_
                rw [EC.out, EP.out]
                exact HFin.out
              by_cases hb2 : (lx.now.length : Int) < on
              · have hby : beyB lx.now on = true := by unfold beyB; simp [hb2]
                have EC := hid (show doC (Y.map Fi.p) false ⟨4, oa, oz, on, .slice pa pl pc, oB, okv, okp⟩ = 1 from by rw [HCx.out]; simp [hby])
                have EP := hid (show doF (Y.map Fi.p) false ⟨4, oa, oz, on, .slice pa pl pc, oB, okv, okp⟩ = (Y.map Fi.p) from by unfold doF; rw [EC.out, if_neg (by decide)])
                clear hby HWo HWi HCx
                have HFin := hid (HF.out w5 (some ⟨gy, 0, none⟩) yc Y (Y.map Fi.p) 1 _ U5.out E2.out (by rw [← HN.out]; exact HD.out.old U5.out) (by rw [← HN.out]; exact fun g hg => .inl (HBB.out g hg)) rfl)
                rw [← HN.out] at HFin
                obtain ⟨F0, F1, F2, -, -, -⟩ := box3 (box3_set (p := .slice (some ⟨gy, 0, none⟩) n yc) (q := .bool false) (r := .int .i64 fu) E2.out)
                go_wp2
                refine bodyPost_ret (v := .tuple #[.agg #[.slice (some ⟨gy, 0, none⟩) n yc, .bool false, .int .i64 fu], .int .i64 1]) (by simp [results, Tryz.results22, go_sem, F0, F1, F2]) rfl ?_
                rw [EC.out, EP.out]
                exact HFin.out
              have hby : beyB lx.now on = false := by unfold beyB; simp [hb, hb2]
              obtain ⟨nn, hnn⟩ : ∃ nn : Nat, on = (nn : Int) := ⟨on.toNat, by omega⟩
              subst hnn
              have HLb := hid HBq.out.2.2
              have hnl : nn ≤ lx.now.length := by omega
              have HNl := hid hnl
              have d1 : decide ((nn : Int) < 0) = false := by rw [decide_eq_false_iff_not]; omega
              have d2 : decide ((lx.now.length : Int) < (nn : Int)) = false := by rw [decide_eq_false_iff_not]; omega
              have d3 : ¬ (lx.now.length : Int) < (nn : Int) := by omega
              have d4 : ¬ (nn : Int) < 0 := by omega
              have d5 : ¬ lx.now.length < nn := by omega
              clear hb hb2 hnl
              by_cases hroom : 65536 - (nn : Int) < (pl : Int)
              · skip
                have EC := hid (show doC (Y.map Fi.p) false ⟨4, oa, oz, (nn : Int), .slice pa pl pc, oB, okv, okp⟩ = 51 from by rw [HCx.out, if_pos rfl, hby, if_neg (by simp), if_pos (by rw [← HPL.out]; exact hroom)])
                have EP := hid (show doF (Y.map Fi.p) false ⟨4, oa, oz, (nn : Int), .slice pa pl pc, oB, okv, okp⟩ = (Y.map Fi.p) from by unfold doF; rw [EC.out, if_neg (by decide)])
                have lw : IntKind.i64.wrap (65536 - (nn : Int)) = 65536 - (nn : Int) := by rw [IntKind.wrap_i64]; have := HNl.out; have := HLb.out; omega
                clear hby HWo HWi HCx
                have HFin := hid (HF.out w5 (some ⟨gy, 0, none⟩) yc Y (Y.map Fi.p) 51 _ U5.out E2.out (by rw [← HN.out]; exact HD.out.old U5.out) (by rw [← HN.out]; exact fun g hg => .inl (HBB.out g hg)) rfl)
                rw [← HN.out] at HFin
                obtain ⟨F0, F1, F2, -, -, -⟩ := box3 (box3_set (p := .slice (some ⟨gy, 0, none⟩) n yc) (q := .bool false) (r := .int .i64 fu) E2.out)
                go_wp2
                refine bodyPost_ret (v := .tuple #[.agg #[.slice (some ⟨gy, 0, none⟩) n yc, .bool false, .int .i64 fu], .int .i64 51]) (by simp [results, Tryz.results22, go_sem, F0, F1, F2]) rfl ?_
                rw [EC.out, EP.out]
                exact HFin.out
              have EC := hid (show doC (Y.map Fi.p) false ⟨4, oa, oz, (nn : Int), .slice pa pl pc, oB, okv, okp⟩ = 0 from by rw [HCx.out, if_pos rfl, hby, if_neg (by simp), if_neg (by rw [← HPL.out]; exact hroom)])
              have lw : IntKind.i64.wrap (65536 - (nn : Int)) = 65536 - (nn : Int) := by rw [IntKind.wrap_i64]; have := HNl.out; have := HLb.out; omega
              have HRoom := hid (show nn + pl ≤ 65536 from by omega)
              obtain ⟨M, hM⟩ : ∃ M, overL lx.now nn oB = M := ⟨_, rfl⟩
              have HM := hid hM
              have HMl := hid (show M.length ≤ 65536 from by rw [← hM, overL_len, ← HPL.out]; have := HLb.out; have := HRoom.out; omega)
              have HOv := hid (show Calls Tryz.prog 33 #[.slice lx.na lx.now.length lx.nc, .int .i64 (nn : Nat), .slice pa pl pc] w5 (NewRow w5 M) from by have := rover_any lx.na pa lx.nc pc lx.now oB nn w5 (HBq.out.1.old U5.out).row (by rw [← HPL.out]; exact HR.out.old U5.out) HLb.out.1 (by have := HPL.out; have := HRoom.out; omega) (by have := HRoom.out; omega); rw [← HPL.out, hM] at this; exact this)
              clear hM hby HCx
              go_upto_region 35 with (go_at_call 33; refine HOv.out.mono ?_; rintro e w6 ⟨a6, c6, rfl, o6, u6, f6⟩; have O6 := hid o6; have U6 := hid u6; have F6 := hid f6; have kt1 := u6.keep t1; have ktf1 := u6.keepF t1 tf1; clear o6 u6 f6)
              have J0 := hid (show (w6.setCell ⟨b7, 1, none⟩ (.slice a6 M.length c6)).heap[g0]? = some (.cells #[.slice (some ⟨gy, 0, none⟩) n yc, .bool false, .int .i64 fu] 32 (0, 0)) from set_other (U6.out.block E0.out) (by have := HLt.out; have := HS7.out; omega))
              have J1 := hid (show (w6.setCell ⟨b7, 1, none⟩ (.slice a6 M.length c6)).heap[g1]? = some (.cells #[.int .i64 4, .string oa, .string oz, .int .i64 (nn : Nat), .slice pa pl pc] 70 (0, 0)) from set_other (U6.out.block E1.out) (by have := HLt.out; have := HS7.out; omega))
              have J2 := hid (show (w6.setCell ⟨b7, 1, none⟩ (.slice a6 M.length c6)).heap[g2]? = some (.cells #[.slice none 0 0, .bool false, .int .i64 0] 32 (0, 0)) from set_other (U6.out.block E2.out) (by have := HLt.out; have := HS7.out; omega))
              have J7 := hid (show (w6.setCell ⟨b7, 1, none⟩ (.slice a6 M.length c6)).heap[b7]? = some (.cells #[.string oa, .slice a6 M.length c6, .slice lx.sa lx.safe.length lx.sc] 51 (0, 0)) from Go.Joins.block_setCell (U6.out.block HB7.out) (.slice a6 M.length c6) (i := 1))
              have JU := hid (show Old W (w6.setCell ⟨b7, 1, none⟩ (.slice a6 M.length c6)) from (U5.out.trans U6.out).setCell (p := ⟨b7, 1, none⟩) HS7.out.2.2 _)
              have JC := hid (Chg.set (S := [b7]) w6 ⟨b7, 1, none⟩ (.slice a6 M.length c6) (by simp))
              have JO := hid (show Own (w6.setCell ⟨b7, 1, none⟩ (.slice a6 M.length c6)) (.slice a6 M.length c6) M from O6.out.chg JC.out (O6.out.offT (U6.out.block HB7.out) (by decide)))
              clear kt1 ktf1
              clear z0 z1 z2 z3 z4 x0 x1 x2 xf0 xf1 xf2 r0 r1 r2 rf0 rf1 rf2 t0 t1 t2 tf0 tf1 tf2
              generalize w6.setCell ⟨b7, 1, none⟩ (.slice a6 M.length c6) = w7 at *
              obtain ⟨z0, z1, z2, z3, z4⟩ := box5 J1.out
              obtain ⟨x0, x1, x2, xf0, xf1, xf2⟩ := box3 J0.out
              obtain ⟨r0, r1, r2, rf0, rf1, rf2⟩ := box3 J2.out
              obtain ⟨t0, t1, t2, tf0, tf1, tf2⟩ := box3 J7.out
              obtain ⟨ZZ, hZZ⟩ : ∃ ZZ, insY ⟨oa, a6, c6, M, lx.sa, lx.sc, lx.safe⟩ (delY Y oa) = ZZ := ⟨_, rfl⟩
              have HCl := hid (HWi.out w7 (some ⟨gy, 0, none⟩) n yc Y ZZ false fu oa a6 M.length c6 lx.sa lx.safe.length lx.sc M lx.safe (HD.out.old JU.out) HN.out HYl.out rfl rfl (show FiAt w7 ⟨oa, a6, c6, M, lx.sa, lx.sc, lx.safe⟩ from ⟨JO.out, HBq.out.2.1.old JU.out, HMl.out, HLb.out.2⟩) hZZ)
              have HZp := hid (show ZZ.map Fi.p = insP (oa, ⟨M, lx.safe⟩) (delP (Y.map Fi.p) oa) from by rw [← hZZ, insY_p, delY_p]; rfl)
              have HZb := hid (show ∀ z ∈ ZZ, ∀ g, z.vn.ownBlock = some g ∨ z.vs.ownBlock = some g → g ∈ BB ∨ W.heap.size ≤ g from fun z hz g e => by
                rw [← hZZ] at hz
                rcases insY_mem hz with q1 | q1
                · rw [q1] at e; exact (by rcases e with e | e; exact .inr (by have := F6.out g e; have := U5.out.size; omega); exact .inl (HMm.out g (.inr e)))
                · have q2 := (List.mem_filter.1 q1).1
                  exact .inl (HBB.out g (docB_mem.2 (.inr ⟨z, q2, e⟩))))
              clear hZZ
              have KK := hid (show True from trivial)
              have HFl2 := hid HFl.out
              have EP := hid (show doF (Y.map Fi.p) false ⟨4, oa, oz, (nn : Int), .slice pa pl pc, oB, okv, okp⟩ = insP (oa, ⟨M, lx.safe⟩) (delP (Y.map Fi.p) oa) from by unfold doF; rw [EC.out, if_pos rfl]; simp [HFl.out, HM.out])
              have HSz := hid (show W.heap.size ≤ w7.heap.size from JU.out.size)
              have HGx := hid (fun (w6 : World) (u : Old w7 w6) => u.block J2.out)
              go_wp2_with (go_at_call 49; refine HCl.out.mono ?_; rintro e w6 h6; have H6 := hid h6; obtain ⟨a6, c6, rfl, d6, u6, f6⟩ := h6; have O6 := hid d6; have U6 := hid u6; have F6 := hid f6; have kr0 := u6.keep r0; have kr1 := u6.keep r1; have kr2 := u6.keep r2; have krf0 := u6.keepF r0 rf0; have krf1 := u6.keepF r1 rf1; have krf2 := u6.keepF r2 rf2; clear d6 u6 f6 H6)
              have HFin := hid (HF.out w6 a6 c6 ZZ _ 0 _ (JU.out.trans U6.out) (HGx.out w6 U6.out) O6.out (fun g hg => by rcases docB_mem.1 hg with e | ⟨z, hz, e⟩; exact .inr (Nat.le_trans HSz.out (F6.out g e)); exact HZb.out z hz g e) HZp.out)
              obtain ⟨F0, F1, F2, -, -, -⟩ := box3 (box3_set (p := .slice a6 ZZ.length c6) (q := .bool false) (r := .int .i64 fu) (HGx.out w6 U6.out))
              refine bodyPost_ret (v := .tuple #[.agg #[.slice a6 ZZ.length c6, .bool false, .int .i64 fu], .int .i64 0]) (by simp [results, Tryz.results22, go_sem, F0, F1, F2]) rfl ?_
              rw [EC.out, EP.out]
              exact HFin.out
            have c4b : (ok == 4) = false := by rw [beq_eq_false_iff_ne]; exact c4
            by_cases c5 : ok = 5
            · subst c5
              clear c1 c1b c2 c2b c3 c3b c4 c4b
              by_cases hb : on < 0
              · have hby : beyB lx.now on = true := by unfold beyB; simp [hb]
                have EC := hid (show doC (Y.map Fi.p) false ⟨5, oa, oz, on, .slice pa pl pc, oB, okv, okp⟩ = 1 from by rw [HCx.out]; simp [hby])
                have EP := hid (show doF (Y.map Fi.p) false ⟨5, oa, oz, on, .slice pa pl pc, oB, okv, okp⟩ = (Y.map Fi.p) from by unfold doF; rw [EC.out, if_neg (by decide)])
                clear hby HWo HWi HCx
                have HFin := hid (HF.out w5 (some ⟨gy, 0, none⟩) yc Y (Y.map Fi.p) 1 _ U5.out E2.out (by rw [← HN.out]; exact HD.out.old U5.out) (by rw [← HN.out]; exact fun g hg => .inl (HBB.out g hg)) rfl)
                rw [← HN.out] at HFin
                obtain ⟨F0, F1, F2, -, -, -⟩ := box3 (box3_set (p := .slice (some ⟨gy, 0, none⟩) n yc) (q := .bool false) (r := .int .i64 fu) E2.out)
                go_wp2
                refine bodyPost_ret (v := .tuple #[.agg #[.slice (some ⟨gy, 0, none⟩) n yc, .bool false, .int .i64 fu], .int .i64 1]) (by simp [results, Tryz.results22, go_sem, F0, F1, F2]) rfl ?_
                rw [EC.out, EP.out]
                exact HFin.out
              by_cases hb2 : (lx.now.length : Int) < on
              · have hby : beyB lx.now on = true := by unfold beyB; simp [hb2]
                have EC := hid (show doC (Y.map Fi.p) false ⟨5, oa, oz, on, .slice pa pl pc, oB, okv, okp⟩ = 1 from by rw [HCx.out]; simp [hby])
                have EP := hid (show doF (Y.map Fi.p) false ⟨5, oa, oz, on, .slice pa pl pc, oB, okv, okp⟩ = (Y.map Fi.p) from by unfold doF; rw [EC.out, if_neg (by decide)])
                clear hby HWo HWi HCx
                have HFin := hid (HF.out w5 (some ⟨gy, 0, none⟩) yc Y (Y.map Fi.p) 1 _ U5.out E2.out (by rw [← HN.out]; exact HD.out.old U5.out) (by rw [← HN.out]; exact fun g hg => .inl (HBB.out g hg)) rfl)
                rw [← HN.out] at HFin
                obtain ⟨F0, F1, F2, -, -, -⟩ := box3 (box3_set (p := .slice (some ⟨gy, 0, none⟩) n yc) (q := .bool false) (r := .int .i64 fu) E2.out)
                go_wp2
                refine bodyPost_ret (v := .tuple #[.agg #[.slice (some ⟨gy, 0, none⟩) n yc, .bool false, .int .i64 fu], .int .i64 1]) (by simp [results, Tryz.results22, go_sem, F0, F1, F2]) rfl ?_
                rw [EC.out, EP.out]
                exact HFin.out
              have hby : beyB lx.now on = false := by unfold beyB; simp [hb, hb2]
              obtain ⟨nn, hnn⟩ : ∃ nn : Nat, on = (nn : Int) := ⟨on.toNat, by omega⟩
              subst hnn
              have HLb := hid HBq.out.2.2
              have hnl : nn ≤ lx.now.length := by omega
              have HNl := hid hnl
              have d1 : decide ((nn : Int) < 0) = false := by rw [decide_eq_false_iff_not]; omega
              have d2 : decide ((lx.now.length : Int) < (nn : Int)) = false := by rw [decide_eq_false_iff_not]; omega
              have d3 : ¬ (lx.now.length : Int) < (nn : Int) := by omega
              have d4 : ¬ (nn : Int) < 0 := by omega
              have d5 : ¬ lx.now.length < nn := by omega
              clear hb hb2 hnl
              have EC := hid (show doC (Y.map Fi.p) false ⟨5, oa, oz, (nn : Int), .slice pa pl pc, oB, okv, okp⟩ = 0 from by rw [HCx.out, if_neg (by decide), if_pos rfl, hby, if_neg (by simp)])
              obtain ⟨M, hM⟩ : ∃ M, lx.now.take nn = M := ⟨_, rfl⟩
              obtain ⟨M2, hM2⟩ : ∃ M2, lx.safe.take nn = M2 := ⟨_, rfl⟩
              have HM := hid hM
              have HM2 := hid hM2
              have HMl := hid (show M.length ≤ 65536 ∧ M2.length ≤ 65536 from by rw [← hM, ← hM2, List.length_take, List.length_take]; have := HLb.out; omega)
              have HP1 := hid (show Calls Tryz.prog 34 #[.slice lx.na lx.now.length lx.nc, .int .i64 0, .int .i64 (nn : Nat)] w5 (NewRow w5 M) from by have := part_any lx.na lx.nc lx.now 0 nn w5 (HBq.out.1.old U5.out).row HLb.out.1 (by omega) (by have := HNl.out; have := HLb.out; omega); rw [prt_zero, hM] at this; exact this)
              have HP2 := hid (fun (W' : World) (u : Old W W') => show Calls Tryz.prog 34 #[.slice lx.sa lx.safe.length lx.sc, .int .i64 0, .int .i64 (nn : Nat)] W' (NewRow W' M2) from by have := part_any lx.sa lx.sc lx.safe 0 nn W' (HBq.out.2.1.old u).row HLb.out.2 (by omega) (by have := HNl.out; have := HLb.out; omega); rw [prt_zero, hM2] at this; exact this)
              clear hM hM2 hby HCx
              go_upto_region 32 with (go_at_call 34; refine HP1.out.mono ?_; rintro e w6 ⟨a6, c6, rfl, o6, u6, f6⟩; have O6 := hid o6; have U6 := hid u6; have F6 := hid f6; have kt1 := u6.keep t1; have ktf1 := u6.keepF t1 tf1; clear o6 u6 f6)
              have J0 := hid (show (w6.setCell ⟨b7, 1, none⟩ (.slice a6 M.length c6)).heap[g0]? = some (.cells #[.slice (some ⟨gy, 0, none⟩) n yc, .bool false, .int .i64 fu] 32 (0, 0)) from set_other (U6.out.block E0.out) (by have := HLt.out; have := HS7.out; omega))
              have J1 := hid (show (w6.setCell ⟨b7, 1, none⟩ (.slice a6 M.length c6)).heap[g1]? = some (.cells #[.int .i64 5, .string oa, .string oz, .int .i64 (nn : Nat), .slice pa pl pc] 70 (0, 0)) from set_other (U6.out.block E1.out) (by have := HLt.out; have := HS7.out; omega))
              have J2 := hid (show (w6.setCell ⟨b7, 1, none⟩ (.slice a6 M.length c6)).heap[g2]? = some (.cells #[.slice none 0 0, .bool false, .int .i64 0] 32 (0, 0)) from set_other (U6.out.block E2.out) (by have := HLt.out; have := HS7.out; omega))
              have J7 := hid (show (w6.setCell ⟨b7, 1, none⟩ (.slice a6 M.length c6)).heap[b7]? = some (.cells #[.string oa, .slice a6 M.length c6, .slice lx.sa lx.safe.length lx.sc] 51 (0, 0)) from Go.Joins.block_setCell (U6.out.block HB7.out) (.slice a6 M.length c6) (i := 1))
              have JU := hid (show Old W (w6.setCell ⟨b7, 1, none⟩ (.slice a6 M.length c6)) from (U5.out.trans U6.out).setCell (p := ⟨b7, 1, none⟩) HS7.out.2.2 _)
              have JC := hid (Chg.set (S := [b7]) w6 ⟨b7, 1, none⟩ (.slice a6 M.length c6) (by simp))
              have JO := hid (show Own (w6.setCell ⟨b7, 1, none⟩ (.slice a6 M.length c6)) (.slice a6 M.length c6) M from O6.out.chg JC.out (O6.out.offT (U6.out.block HB7.out) (by decide)))
              clear kt1 ktf1
              clear z0 z1 z2 z3 z4 x0 x1 x2 xf0 xf1 xf2 r0 r1 r2 rf0 rf1 rf2 t0 t1 t2 tf0 tf1 tf2
              generalize w6.setCell ⟨b7, 1, none⟩ (.slice a6 M.length c6) = w7 at *
              obtain ⟨z0, z1, z2, z3, z4⟩ := box5 J1.out
              obtain ⟨x0, x1, x2, xf0, xf1, xf2⟩ := box3 J0.out
              obtain ⟨r0, r1, r2, rf0, rf1, rf2⟩ := box3 J2.out
              obtain ⟨t0, t1, t2, tf0, tf1, tf2⟩ := box3 J7.out
              go_upto_region 35 with (go_at_call 34; refine (HP2.out _ JU.out).mono ?_; rintro e w8 ⟨a8, c8, rfl, o8, u8, f8⟩; have O8 := hid o8; have U8 := hid u8; have F8 := hid f8; have kt2 := u8.keep t2; have ktf2 := u8.keepF t2 tf2; clear o8 u8 f8)
              have K0 := hid (show (w8.setCell ⟨b7, 2, none⟩ (.slice a8 M2.length c8)).heap[g0]? = some (.cells #[.slice (some ⟨gy, 0, none⟩) n yc, .bool false, .int .i64 fu] 32 (0, 0)) from set_other (U8.out.block J0.out) (by have := HLt.out; have := HS7.out; omega))
              have K1 := hid (show (w8.setCell ⟨b7, 2, none⟩ (.slice a8 M2.length c8)).heap[g1]? = some (.cells #[.int .i64 5, .string oa, .string oz, .int .i64 (nn : Nat), .slice pa pl pc] 70 (0, 0)) from set_other (U8.out.block J1.out) (by have := HLt.out; have := HS7.out; omega))
              have K2 := hid (show (w8.setCell ⟨b7, 2, none⟩ (.slice a8 M2.length c8)).heap[g2]? = some (.cells #[.slice none 0 0, .bool false, .int .i64 0] 32 (0, 0)) from set_other (U8.out.block J2.out) (by have := HLt.out; have := HS7.out; omega))
              have K7 := hid (show (w8.setCell ⟨b7, 2, none⟩ (.slice a8 M2.length c8)).heap[b7]? = some (.cells #[.string oa, .slice a6 M.length c6, .slice a8 M2.length c8] 51 (0, 0)) from Go.Joins.block_setCell (U8.out.block J7.out) (.slice a8 M2.length c8) (i := 2))
              have KU := hid (show Old W (w8.setCell ⟨b7, 2, none⟩ (.slice a8 M2.length c8)) from (JU.out.trans U8.out).setCell (p := ⟨b7, 2, none⟩) HS7.out.2.2 _)
              have KC := hid (Chg.set (S := [b7]) w8 ⟨b7, 2, none⟩ (.slice a8 M2.length c8) (by simp))
              have KO := hid (show Own (w8.setCell ⟨b7, 2, none⟩ (.slice a8 M2.length c8)) (.slice a8 M2.length c8) M2 from O8.out.chg KC.out (O8.out.offT (U8.out.block J7.out) (by decide)))
              have KO1 := hid (show Own (w8.setCell ⟨b7, 2, none⟩ (.slice a8 M2.length c8)) (.slice a6 M.length c6) M from (JO.out.old U8.out).chg KC.out ((JO.out.old U8.out).offT (U8.out.block J7.out) (by decide)))
              have HSz8 := hid (show W.heap.size ≤ w7.heap.size from JU.out.size)
              clear kt2 ktf2
              clear z0 z1 z2 z3 z4 x0 x1 x2 xf0 xf1 xf2 r0 r1 r2 rf0 rf1 rf2 t0 t1 t2 tf0 tf1 tf2
              generalize w8.setCell ⟨b7, 2, none⟩ (.slice a8 M2.length c8) = w9 at *
              obtain ⟨z0, z1, z2, z3, z4⟩ := box5 K1.out
              obtain ⟨x0, x1, x2, xf0, xf1, xf2⟩ := box3 K0.out
              obtain ⟨r0, r1, r2, rf0, rf1, rf2⟩ := box3 K2.out
              obtain ⟨t0, t1, t2, tf0, tf1, tf2⟩ := box3 K7.out
              obtain ⟨ZZ, hZZ⟩ : ∃ ZZ, insY ⟨oa, a6, c6, M, a8, c8, M2⟩ (delY Y oa) = ZZ := ⟨_, rfl⟩
              have HCl := hid (HWi.out w9 (some ⟨gy, 0, none⟩) n yc Y ZZ false fu oa a6 M.length c6 a8 M2.length c8 M M2 (HD.out.old KU.out) HN.out HYl.out rfl rfl (show FiAt w9 ⟨oa, a6, c6, M, a8, c8, M2⟩ from ⟨KO1.out, KO.out, HMl.out⟩) hZZ)
              have HZp := hid (show ZZ.map Fi.p = insP (oa, ⟨M, M2⟩) (delP (Y.map Fi.p) oa) from by rw [← hZZ, insY_p, delY_p]; rfl)
              have HZb := hid (show ∀ z ∈ ZZ, ∀ g, z.vn.ownBlock = some g ∨ z.vs.ownBlock = some g → g ∈ BB ∨ W.heap.size ≤ g from fun z hz g e => by
                rw [← hZZ] at hz
                rcases insY_mem hz with q1 | q1
                · rw [q1] at e; exact (by rcases e with e | e; exact .inr (by have := F6.out g e; have := U5.out.size; omega); exact .inr (by have := F8.out g e; have := HSz8.out; omega))
                · have q2 := (List.mem_filter.1 q1).1
                  exact .inl (HBB.out g (docB_mem.2 (.inr ⟨z, q2, e⟩))))
              clear hZZ
              have KK := hid (show True from trivial)
              have EP := hid (show doF (Y.map Fi.p) false ⟨5, oa, oz, (nn : Int), .slice pa pl pc, oB, okv, okp⟩ = insP (oa, ⟨M, M2⟩) (delP (Y.map Fi.p) oa) from by unfold doF; rw [EC.out, if_pos rfl]; simp [HFl.out, HM.out, HM2.out])
              have HSz := hid (show W.heap.size ≤ w9.heap.size from KU.out.size)
              have HGx := hid (fun (w6 : World) (u : Old w9 w6) => u.block K2.out)
              go_wp2_with (go_at_call 49; refine HCl.out.mono ?_; rintro e w6 h6; have H6 := hid h6; obtain ⟨a6, c6, rfl, d6, u6, f6⟩ := h6; have O6 := hid d6; have U6 := hid u6; have F6 := hid f6; have kr0 := u6.keep r0; have kr1 := u6.keep r1; have kr2 := u6.keep r2; have krf0 := u6.keepF r0 rf0; have krf1 := u6.keepF r1 rf1; have krf2 := u6.keepF r2 rf2; clear d6 u6 f6 H6)
              have HFin := hid (HF.out w6 a6 c6 ZZ _ 0 _ (KU.out.trans U6.out) (HGx.out w6 U6.out) O6.out (fun g hg => by rcases docB_mem.1 hg with e | ⟨z, hz, e⟩; exact .inr (Nat.le_trans HSz.out (F6.out g e)); exact HZb.out z hz g e) HZp.out)
              obtain ⟨F0, F1, F2, -, -, -⟩ := box3 (box3_set (p := .slice a6 ZZ.length c6) (q := .bool false) (r := .int .i64 fu) (HGx.out w6 U6.out))
              refine bodyPost_ret (v := .tuple #[.agg #[.slice a6 ZZ.length c6, .bool false, .int .i64 fu], .int .i64 0]) (by simp [results, Tryz.results22, go_sem, F0, F1, F2]) rfl ?_
              rw [EC.out, EP.out]
              exact HFin.out
            obtain rfl : ok = 6 := by have := HK.out; omega
            clear c1 c1b c2 c2b c3 c3b c4 c4b c5
            have EC := hid (show doC (Y.map Fi.p) false ⟨6, oa, oz, on, .slice pa pl pc, oB, okv, okp⟩ = 0 from by rw [HCx.out]; simp)
            have HLb := hid HBq.out.2.2
            clear HCx
            go_upto_region 35 with (fail)
            have J0 := hid (show (w5.setCell ⟨b7, 2, none⟩ (.slice lx.na lx.now.length lx.nc)).heap[g0]? = some (.cells #[.slice (some ⟨gy, 0, none⟩) n yc, .bool false, .int .i64 fu] 32 (0, 0)) from set_other E0.out (by have := HLt.out; have := HS7.out; omega))
            have J1 := hid (show (w5.setCell ⟨b7, 2, none⟩ (.slice lx.na lx.now.length lx.nc)).heap[g1]? = some (.cells #[.int .i64 6, .string oa, .string oz, .int .i64 on, .slice pa pl pc] 70 (0, 0)) from set_other E1.out (by have := HLt.out; have := HS7.out; omega))
            have J2 := hid (show (w5.setCell ⟨b7, 2, none⟩ (.slice lx.na lx.now.length lx.nc)).heap[g2]? = some (.cells #[.slice none 0 0, .bool false, .int .i64 0] 32 (0, 0)) from set_other E2.out (by have := HLt.out; have := HS7.out; omega))
            have J7 := hid (show (w5.setCell ⟨b7, 2, none⟩ (.slice lx.na lx.now.length lx.nc)).heap[b7]? = some (.cells #[.string oa, .slice lx.na lx.now.length lx.nc, .slice lx.na lx.now.length lx.nc] 51 (0, 0)) from Go.Joins.block_setCell HB7.out (.slice lx.na lx.now.length lx.nc) (i := 2))
            have JU := hid (show Old W (w5.setCell ⟨b7, 2, none⟩ (.slice lx.na lx.now.length lx.nc)) from U5.out.setCell (p := ⟨b7, 2, none⟩) HS7.out.2.2 _)
            have JC := hid (Chg.set (S := [b7]) w5 ⟨b7, 2, none⟩ (.slice lx.na lx.now.length lx.nc) (by simp))
            clear z0 z1 z2 z3 z4 x0 x1 x2 xf0 xf1 xf2 r0 r1 r2 rf0 rf1 rf2 t0 t1 t2 tf0 tf1 tf2
            generalize w5.setCell ⟨b7, 2, none⟩ (.slice lx.na lx.now.length lx.nc) = w7 at *
            obtain ⟨z0, z1, z2, z3, z4⟩ := box5 J1.out
            obtain ⟨x0, x1, x2, xf0, xf1, xf2⟩ := box3 J0.out
            obtain ⟨r0, r1, r2, rf0, rf1, rf2⟩ := box3 J2.out
            obtain ⟨t0, t1, t2, tf0, tf1, tf2⟩ := box3 J7.out
            obtain ⟨ZZ, hZZ⟩ : ∃ ZZ, insY ⟨oa, lx.na, lx.nc, lx.now, lx.na, lx.nc, lx.now⟩ (delY Y oa) = ZZ := ⟨_, rfl⟩
            have HCl := hid (HWi.out w7 (some ⟨gy, 0, none⟩) n yc Y ZZ false fu oa lx.na lx.now.length lx.nc lx.na lx.now.length lx.nc lx.now lx.now (HD.out.old JU.out) HN.out HYl.out rfl rfl (show FiAt w7 ⟨oa, lx.na, lx.nc, lx.now, lx.na, lx.nc, lx.now⟩ from ⟨HBq.out.1.old JU.out, HBq.out.1.old JU.out, HLb.out.1, HLb.out.1⟩) hZZ)
            have HZp := hid (show ZZ.map Fi.p = insP (oa, ⟨lx.now, lx.now⟩) (delP (Y.map Fi.p) oa) from by rw [← hZZ, insY_p, delY_p]; rfl)
            have HZb := hid (show ∀ z ∈ ZZ, ∀ g, z.vn.ownBlock = some g ∨ z.vs.ownBlock = some g → g ∈ BB ∨ W.heap.size ≤ g from fun z hz g e => by
              rw [← hZZ] at hz
              rcases insY_mem hz with q1 | q1
              · rw [q1] at e; exact (by rcases e with e | e; exact .inl (HMm.out g (.inl e)); exact .inl (HMm.out g (.inl e)))
              · have q2 := (List.mem_filter.1 q1).1
                exact .inl (HBB.out g (docB_mem.2 (.inr ⟨z, q2, e⟩))))
            clear hZZ
            have KK := hid (show True from trivial)
            have EP := hid (show doF (Y.map Fi.p) false ⟨6, oa, oz, on, .slice pa pl pc, oB, okv, okp⟩ = insP (oa, ⟨lx.now, lx.now⟩) (delP (Y.map Fi.p) oa) from by unfold doF; rw [EC.out, if_pos rfl]; simp [HFl.out])
            have HSz := hid (show W.heap.size ≤ w7.heap.size from JU.out.size)
            have HGx := hid (fun (w6 : World) (u : Old w7 w6) => u.block J2.out)
            go_wp2_with (go_at_call 49; refine HCl.out.mono ?_; rintro e w6 h6; have H6 := hid h6; obtain ⟨a6, c6, rfl, d6, u6, f6⟩ := h6; have O6 := hid d6; have U6 := hid u6; have F6 := hid f6; have kr0 := u6.keep r0; have kr1 := u6.keep r1; have kr2 := u6.keep r2; have krf0 := u6.keepF r0 rf0; have krf1 := u6.keepF r1 rf1; have krf2 := u6.keepF r2 rf2; clear d6 u6 f6 H6)
            have HFin := hid (HF.out w6 a6 c6 ZZ _ 0 _ (JU.out.trans U6.out) (HGx.out w6 U6.out) O6.out (fun g hg => by rcases docB_mem.1 hg with e | ⟨z, hz, e⟩; exact .inr (Nat.le_trans HSz.out (F6.out g e)); exact HZb.out z hz g e) HZp.out)
            obtain ⟨F0, F1, F2, -, -, -⟩ := box3 (box3_set (p := .slice a6 ZZ.length c6) (q := .bool false) (r := .int .i64 fu) (HGx.out w6 U6.out))
            refine bodyPost_ret (v := .tuple #[.agg #[.slice a6 ZZ.length c6, .bool false, .int .i64 fu], .int .i64 0]) (by simp [results, Tryz.results22, go_sem, F0, F1, F2]) rfl ?_
            rw [EC.out, EP.out]
            exact HFin.out
end Go.Proofs.YtfphopleniidfaaGreatDoor
