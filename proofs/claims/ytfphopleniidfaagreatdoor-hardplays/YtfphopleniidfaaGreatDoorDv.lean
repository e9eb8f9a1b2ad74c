/- disk.Crash at every disk; conditions: the disk and the marks lie in memory. -/
import Derived.Test.YtfphopleniidfaaGreatDoorDpk
namespace Go.Proofs.YtfphopleniidfaaGreatDoor
open Go.RowKit Go.Lib
set_option linter.unusedVariables false
set_option linter.unusedSimpArgs false
set_option maxRecDepth 20000
/-- One file behind a loss of power, and the marks that are left for the others. -/
def crash1 (x : PF) (kp : List Bool) : PF × List Bool :=
  (⟨craK x.now (looL x.now x.safe) (kp.take (min (looL x.now x.safe).length kp.length)) (min (looL x.now x.safe).length kp.length) x.safe, craK x.now (looL x.now x.safe) (kp.take (min (looL x.now x.safe).length kp.length)) (min (looL x.now x.safe).length kp.length) x.safe⟩, kp.drop (min (looL x.now x.safe).length kp.length))
def filP (fs : PFs) (s : ByteArray) : PF := (getP fs s).getD ⟨[], []⟩
/-- The first files, in the order of S. -/
def crS (S : List ByteArray) : Nat → PFs × List Bool → PFs × List Bool
  | 0, x => x
  | j + 1, x => (setP (crS S j x).1 (S.getD j ByteArray.empty) (crash1 (filP (crS S j x).1 (S.getD j ByteArray.empty)) (crS S j x).2).1, (crash1 (filP (crS S j x).1 (S.getD j ByteArray.empty)) (crS S j x).2).2)
theorem getF_some {M : List (ByteArray × Fl)} {s : ByteArray} (h : s ∈ M.map (·.1)) : ∃ f, getF M s = some f := by
  cases e : getF M s with
  | some f => exact ⟨f, rfl⟩
  | none =>
    obtain ⟨p, hp, q⟩ := List.mem_map.1 h
    exact absurd q (getF_none e p hp)
theorem setF_keys (M : List (ByteArray × Fl)) (s : ByteArray) (f : Fl) : (setF M s f).map (·.1) = M.map (·.1) := by
  unfold setF
  rw [List.map_map]
  apply List.map_congr_left
  intro p _
  show (if p.1 = s then (p.1, f) else p).1 = p.1
  split <;> rfl
theorem loo_le (n s : List Nat) : ∀ x ∈ looL n s, x ≤ n.length := fun x hx => by
  have h := looK_lt n s (nSec n) x hx
  unfold nSec at h
  omega
theorem loo_few (n s : List Nat) (h : n.length ≤ 65536) : (looL n s).length ≤ 2048 := by
  have h1 := looK_len n s (nSec n)
  unfold looL
  unfold nSec at *
  omega
/-- A disk's file has lost the power. -/
theorem DkAt.crash {w w' : World} {d : Dk} {s : ByteArray} {f f' : Fl} (h : DkAt w d) (hm : getF d.M s = some f) (hf : FlAt w' f') (mv : FMv w f w' f') (x : PF) (hx : f'.p = x) : ∃ d', DkAt w' d' ∧ d'.p = { d.p with fs := setP d.p.fs s x } ∧ d'.M.map (·.1) = d.M.map (·.1) ∧ Mv w d w' d' := by
  obtain ⟨r1, r2⟩ := h.file (getF_mem hm) hf mv
  refine ⟨_, r1, ?_, setF_keys _ _ _, r2⟩
  show (⟨(setF d.M s f').map pf, d.down, d.fail⟩ : PD) = _
  rw [setP_of, hx]
  rfl
theorem brow_take {w : World} {p : Option Addr} {n c : Nat} {kp : List Bool} (h : BRow w (.slice p n c) kp) (m : Nat) (hm : m ≤ kp.length) : BRow w (.slice p m c) (kp.take m) := by
  obtain ⟨h1, p', c', e, h2, h3, hc⟩ := h
  injection e with e1 e2 e3
  subst e1 e3
  have hl : (kp.take m).length = m := by rw [List.length_take]; omega
  refine ⟨by omega, p, c, by rw [hl], by omega, h3, fun i hi => ?_⟩
  rw [hl] at hi
  obtain ⟨b, off, e, q⟩ := hc i (by omega)
  refine ⟨b, off, e, ?_⟩
  rw [q]
  congr 2
  rw [List.getD_eq_getElem?_getD, List.getD_eq_getElem?_getD, List.getElem?_take, if_pos hi]
theorem brow_drop {w : World} {b off n c : Nat} {kp : List Bool} (h : BRow w (.slice (some ⟨b, off, none⟩) n c) kp) (m o : Nat) (hm : m ≤ kp.length) (ho : kp.length = m ∨ o = off + m) : BRow w (.slice (some ⟨b, o, none⟩) (n - m) (c - m)) (kp.drop m) := by
  obtain ⟨h1, p', c', e, h2, h3, hc⟩ := h
  injection e with e1 e2 e3
  subst e1 e3 e2
  have hl : (kp.drop m).length = kp.length - m := List.length_drop
  refine ⟨by omega, _, _, by rw [hl], by omega, by omega, fun i hi => ?_⟩
  rw [hl] at hi
  obtain ⟨b', off', e, q⟩ := hc (m + i) (by omega)
  cases e
  have ho' : o = off + m := by rcases ho with z | z; omega; exact z
  refine ⟨b, o, rfl, ?_⟩
  rw [ho', Nat.add_assoc, q]
  congr 2
  rw [List.getD_eq_getElem?_getD, List.getD_eq_getElem?_getD, List.getElem?_drop]
def crashP (p : PD) (S : List ByteArray) (kp : List Bool) : PD := ⟨(crS S S.length (p.fs, kp)).1, false, 0⟩
set_option maxHeartbeats 8000000 in
set_option maxRecDepth 20000 in
theorem dcrash_any (d : Dk) (vk : Value) (kp : List Bool) (w : World) (h : DkAt w d) (hk : BRow w vk kp) (hsh : vk = .slice none 0 0 ∨ (∃ b off n c, vk = .slice (some ⟨b, off, none⟩) n c) ∨ ∃ a, vk = .slice (some a) 0 0) (hfk : 0 < kp.length → ∀ g, vk.ownBlock = some g → ¬ d.inB g) :
    Calls Tryz.prog 11 #[.pointer (some ⟨d.db, 0, none⟩), vk] w fun e w' => e = .returned (.tuple #[]) ∧ ∃ S, S.Perm (d.M.map (·.1)) ∧ S.Pairwise leN ∧ Res w d (crashP d.p S kp) w' := by
  have HN := hid (names_any d w h)
  have hfew := h.few
  have HD := hid h
  have HB := hid hk
  have HFk := hid hfk
  have HSh := hid hsh
  obtain ⟨hk0, kpa, kpc, rfl, hk1, hk2, hkc⟩ := hk
  obtain ⟨db, hdb⟩ : ∃ db, d.db = db := ⟨_, rfl⟩
  rw [hdb] at HN ⊢
  clear hfk hkc hsh h
  go_enter Tryz.func11, Tryz.ntmps11
  go_upto_region 1 with (go_at_call 13; refine HN.out.mono ?_; rintro e w1 ⟨vN, S, rfl, hp, hs, o1, u1⟩; have HP := hid hp; have HSo := hid hs; have O1 := hid o1; have U1 := hid u1; obtain ⟨pN, cN, eN⟩ := o1.len; subst eN; clear hp hs o1 u1)
  clear HN
  have hSl : S.length ≤ 256 := by have := HP.out.length_eq; simp at this; omega
  have HC := hid (show ∀ j, j < S.length → ∃ g, pN = some ⟨g, 0, none⟩ ∧ ∀ (W : World) (d' : Dk), Mv w1 d W d' → W.cell? ⟨g, j, none⟩ = some (.string (S.getD j ByteArray.empty)) from fun j hj => by
    obtain ⟨g, c, e, hb, hl, hc⟩ := O1.out.cell (by omega)
    injection e with e1 e2 e3
    exact ⟨g, e1, fun W d' m => m.chg.to g hl (fun q => by have := HD.out.lt g q; omega) j _ (hc j hj)⟩)
  have HMem := hid (show ∀ j, j < S.length → S.getD j ByteArray.empty ∈ d.M.map (·.1) from fun j hj => HP.out.mem_iff.1 (by rw [List.getD_eq_getElem?_getD, List.getElem?_eq_getElem hj]; exact List.getElem_mem hj))
  have HD1 := hid (HD.out.old U1.out)
  have HB1 := hid (HB.out.old U1.out)
  have HKb := hid (show 0 < kp.length → ∀ g, (Value.slice kpa kp.length kpc).ownBlock = some g → ¬ d.inB g ∧ g < w1.heap.size from fun h0 g e => ⟨HFk.out h0 g e, by
    obtain ⟨_, p', c', e', _, _, hc⟩ := HB1.out
    injection e' with e1 e2 e3
    obtain ⟨b, off, q1, q2⟩ := hc 0 h0
    rw [q1] at e1
    rw [e1] at e
    cases e
    exact World.block_lt_of_cell? w1 _ q2⟩)
  have HCr := hid (fun j => show crS S (j + 1) (d.p.fs, kp) = (setP (crS S j (d.p.fs, kp)).1 (S.getD j ByteArray.empty) (crash1 (filP (crS S j (d.p.fs, kp)).1 (S.getD j ByteArray.empty)) (crS S j (d.p.fs, kp)).2).1, (crash1 (filP (crS S j (d.p.fs, kp)).1 (S.getD j ByteArray.empty)) (crS S j (d.p.fs, kp)).2).2) from rfl)
  have HFin := hid (fun (W W' : World) (d' : Dk) (k : DkAt W d') (e : d'.p = { d.p with fs := (crS S S.length (d.p.fs, kp)).1 }) (m : Mv w1 d W d') (u : Chg [d'.db] W W') (hb : W'.heap[d'.db]? = some (.cells #[.map (some d'.mb), .bool false, .int .i64 0] 58 (0, 0))) => show Ending.returned (.tuple #[]) = Ending.returned (.tuple #[]) ∧ ∃ S, S.Perm (d.M.map (·.1)) ∧ S.Pairwise leN ∧ Res w d (crashP d.p S kp) W' from by
    obtain ⟨r1, r2⟩ := k.cell false 0 ⟨by omega, by omega⟩ u hb
    refine ⟨rfl, S, HP.out, HSo.out, _, r1, ?_, ((Mv.old U1.out).trans m).trans r2⟩
    unfold crashP
    have e1 : d'.M.map pf = (crS S S.length (d.p.fs, kp)).1 := congrArg PD.fs e
    show (⟨d'.M.map pf, false, 0⟩ : PD) = _
    rw [e1])
  have HSz := hid (show ∀ j, j < S.length → SZ (S.getD j ByteArray.empty) from fun j hj => by
    obtain ⟨q, hq, e⟩ := List.mem_map.1 (HMem.out j hj)
    obtain ⟨_, _, _, _, _, m4⟩ := HD.out.map
    rw [← e]
    exact m4 (pof q) (List.mem_map.2 ⟨q, hq, rfl⟩))
  clear HD HB HFk O1 HP HSo U1
  generalize S.length = sn at *
  have ls : (sn : Int) ≤ 256 := by omega
  go_loopw [1, 12] (fun kv c wr => ∃ (j : Nat) (dj : Dk) (kpj : List Bool) (p : Option Addr) (kc : Nat), j ≤ sn ∧ c = .int .i64 (j : Nat) ∧ kv = .slice p kpj.length kc ∧ DkAt wr dj ∧ Mv w1 d wr dj ∧ dj.p = { d.p with fs := (crS S j (d.p.fs, kp)).1 } ∧ kpj = (crS S j (d.p.fs, kp)).2 ∧ dj.M.map (·.1) = d.M.map (·.1) ∧ BRow wr (.slice p kpj.length kc) kpj ∧ (p = none ∧ kpj = [] ∧ kc = 0 ∨ (∃ b off, p = some ⟨b, off, none⟩) ∨ ∃ a, p = some a ∧ kpj = [] ∧ kc = 0) ∧ (0 < kpj.length → ∀ g, (Value.slice p kpj.length kc).ownBlock = some g → ¬ d.inB g ∧ g < w1.heap.size)) (fun _ c _ => sn - (intOf c).toNat)
  case atStart =>
    refine ⟨0, d, kp, kpa, kpc, Nat.zero_le _, rfl, rfl, HD1.out, Mv.refl _ _, rfl, rfl, rfl, HB1.out, ?_, HKb.out⟩
    rcases HSh.out with e | ⟨b, off, n, c, e⟩ | ⟨a, e⟩
    · injection e with e1 e2 e3; exact .inl ⟨e1, List.length_eq_zero_iff.1 e2, e3⟩
    · injection e with e1 e2 e3; exact .inr (.inl ⟨b, off, e1⟩)
    · injection e with e1 e2 e3; exact .inr (.inr ⟨a, e1, List.length_eq_zero_iff.1 e2, e3⟩)
  case round =>
    obtain ⟨j, dj, kpj, p, kc, hj, rfl, rfl, hDj, hMj, hPj, hKj, hMk, hBj, hSj, hFj⟩ := hrel
    have DD := hid hDj
    have MM := hid hMj
    have PP := hid hPj
    have KK := hid hKj
    have KM := hid hMk
    have BB := hid hBj
    have FF := hid hFj
    clear hDj hMj hPj hKj hMk hFj HD1 HB1 HKb
    have hdbj : dj.db = db := by rw [MM.out.db]; exact hdb
    by_cases hit : j < sn
    · obtain ⟨gN, eN, hcell⟩ := HC.out j hit
      subst eN
      have cN1 := hcell wr dj MM.out
      have hsz := HSz.out j hit
      obtain ⟨f, hf⟩ := getF_some (M := dj.M) (s := S.getD j ByteArray.empty) (by rw [KM.out]; exact HMem.out j hit)
      have HCi := hid (HCr.out j)
      have hlk := DD.out.map.look false hsz
      simp only [if_false, Bool.false_eq_true] at hlk
      rw [mget_pof, hf] at hlk
      simp only [Option.map_some, Option.getD_some] at hlk
      obtain ⟨⟨c0, c1, c2⟩, _⟩ := DD.out.cells
      rw [hdbj] at c0 c1 c2
      have hFl := DD.out.files _ (getF_mem hf)
      have hln : f.now.length ≤ 65536 := hFl.ln
      have HLo := hid (loose_any f wr hFl)
      have HFp := hid (show filP (crS S j (d.p.fs, kp)).1 (S.getD j ByteArray.empty) = f.p from by
        have e1 : dj.M.map pf = (crS S j (d.p.fs, kp)).1 := congrArg PD.fs PP.out
        unfold filP
        rw [← e1, getP_of, hf]
        rfl)
      have l1 : (0 : Int) ≤ (j : Int) := by omega
      have l2 : (j : Int) < (sn : Int) := by omega
      obtain ⟨sl, hsl⟩ : ∃ sl, (looL f.now f.safe).length = sl := ⟨_, rfl⟩
      have hsl2 : sl ≤ 2048 := by rw [← hsl]; exact loo_few _ _ hln
      have HNl := hid (show (nI (looL f.now f.safe)).length = sl from by rw [← hsl]; simp [nI])
      obtain ⟨n, hn⟩ : ∃ n, n = min sl kpj.length := ⟨_, rfl⟩
      have mm : min (sl : Int) (kpj.length : Int) = (n : Int) := by omega
      have HCa := hid (fun (W : World) (v7 : Value) (u : Old wr W) (o : OwnI wr.heap.size W v7 (nI (looL f.now f.safe))) => show Calls Tryz.prog 31 #[.pointer (some ⟨f.fb, 0, none⟩), v7, .slice p n kc] W fun e w' => e = .returned (.tuple #[]) ∧ ∃ d', DkAt w' d' ∧ d'.p = { d.p with fs := (crS S (j + 1) (d.p.fs, kp)).1 } ∧ d'.M.map (·.1) = d.M.map (·.1) ∧ Mv wr dj w' d' from by
        have hlt : ∀ b ∈ f.blocks, b < wr.heap.size := hFl.lt
        have hb2 := brow_take (BB.out.old u) n (by omega)
        have hl2 : (kpj.take n).length = n := by rw [List.length_take]; omega
        refine (crash_any f v7 (.slice p n kc) (looL f.now f.safe) (kpj.take n) wr.heap.size W ((DD.out.old u).files _ (getF_mem hf)) o (loo_le _ _) hb2 (by rw [hl2, hsl]; omega) (fun g e hg => by have := hlt g hg; have := (World.ownsRow.lt o g e).1; omega) (fun h0 g e hg => by
          rw [hl2] at h0
          have hq := FF.out (by omega) g (own_len e)
          rcases MM.out.new g (.inr (.inr ⟨_, getF_mem hf, hg⟩)) with z | z
          · exact hq.1 z
          · omega) (by omega)).mono ?_
        rintro e w' ⟨f', rfl, z1, z2, z3, z4⟩
        obtain ⟨d', y1, y2, y3, y4⟩ := (DD.out.old u).crash hf z1 z4 f'.p rfl
        refine ⟨rfl, d', y1, ?_, y3.trans KM.out, (Mv.old u).trans y4⟩
        rw [y2, HCi.out, HFp.out]
        have e1 : dj.p.fs = (crS S j (d.p.fs, kp)).1 := congrArg PD.fs PP.out
        have e2 : dj.p.down = d.p.down := by rw [PP.out]
        have e3 : dj.p.fail = d.p.fail := by rw [PP.out]
        have e4 : f'.p = (crash1 f.p (crS S j (d.p.fs, kp)).2).1 := by
          rw [← KK.out]
          unfold crash1
          show (⟨f'.now, f'.safe⟩ : PF) = _
          rw [z2, z3, hl2]
          simp only [Fl.p, hsl, ← hn]
        rw [e4, ← e1]
        show (⟨_, dj.p.down, dj.p.fail⟩ : PD) = ⟨_, d.p.down, d.p.fail⟩
        rw [e2, e3])
      have HK2 := hid (show kpj.drop n = (crS S (j + 1) (d.p.fs, kp)).2 from by
        rw [HCi.out, HFp.out, ← KK.out]
        unfold crash1
        simp only [Fl.p, hsl, ← hn])
      have HNn := hid (show n ≤ kpj.length from by omega)
      clear hcell hf hFl HFp HCi HC HMem HSz HCr hsl hn KK KM PP
      have hbb := BB.out
      have HBw := hid (show ∀ (W : World) (d' : Dk), Mv wr dj W d' → BRow W (.slice p kpj.length kc) kpj from fun W d' m => by
        obtain ⟨q1, p', c', e, q2, q3, qc⟩ := BB.out
        refine ⟨q1, p', c', e, q2, q3, fun i hi => ?_⟩
        obtain ⟨b, off, e2, q⟩ := qc i hi
        refine ⟨b, off, e2, ?_⟩
        injection e with z1 z2 z3
        have hq := FF.out (by omega) b (by rw [z1, e2]; rfl)
        exact m.chg.to b (World.block_lt_of_cell? wr _ q) (fun hin => by
          rcases MM.out.new b hin with z | z
          · exact hq.1 z
          · omega) _ _ q)
      obtain ⟨kl, hkl⟩ : ∃ kl, kpj.length = kl := ⟨_, rfl⟩
      have HKl := hid hkl
      obtain ⟨_, p', c', e', hcap1, hcap2, _⟩ := hbb
      injection e' with z1 z2 z3
      rw [hkl] at mm HBw HNn hcap1
      rw [← z3] at hcap1 hcap2
      have HFF := hid (show 0 < kl → ∀ g, (Value.slice p kl kc).ownBlock = some g → ¬ d.inB g ∧ g < w1.heap.size from fun h0 g e => FF.out (by omega) g (by rw [hkl]; exact e))
      rw [hkl]
      clear FF z1 z2 z3 hBj BB hkl
      have k0 : (0 : Int) ≤ (n : Int) := by omega
      have hnn := HNn.out
      generalize S.getD j ByteArray.empty = sname at *
      rcases hSj with ⟨hp0, hk00, hc00⟩ | ⟨kb, koff, hp0⟩ | ⟨ka, hp0, hk00, hc00⟩
      · subst hp0 hc00
        have hkl0 : kl = 0 := by omega
        subst hkl0
        obtain rfl : n = 0 := by omega
        have HEm := hid hk00
        have mm0 : min (sl : Int) 0 = 0 := by omega
        clear hk00 hnn hcap1 hcap2 mm
        generalize f.fb = fb at *
        go_wp2_with (first | (go_at_call 30; refine HLo.out.mono ?_; rintro e w2 ⟨v7, rfl, o2, u2⟩; have O2 := hid o2; have U2 := hid u2; obtain ⟨pa, pc, ep⟩ := o2.len; rw [HNl.out] at ep; subst ep; clear o2 u2) | (go_at_call 31; refine (HCa.out _ _ U2.out O2.out).mono ?_; rintro e w3 ⟨rfl, d', y1, y2, y3, y4⟩; have Y1 := hid y1; have Y2 := hid y2; have Y3 := hid y3; have Y4 := hid y4; clear y1 y2 y3 y4))
        go_roundw
        case rel => exact ⟨j + 1, d', [], none, 0, hit, by go_num, rfl, Y1.out, MM.out.trans Y4.out, Y2.out, by have q := HK2.out; rw [HEm.out] at q; simpa using q, Y3.out, ⟨by simp, none, 0, rfl, by simp, by simp, fun i hi => by simp at hi⟩, .inl ⟨rfl, rfl, rfl⟩, fun h0 => by simp at h0⟩
        case measure => simp [intOf]; omega
      · subst hp0
        have k1 : (n : Int) ≤ (kc : Int) := by omega
        have k2 : (n : Int) ≤ (kl : Int) := by omega
        have k3 : (kl : Int) ≤ (kc : Int) := by omega
        obtain ⟨o, hif, ho⟩ : ∃ o, (if kc = n then (some ⟨kb, koff, none⟩ : Option Addr) else some ⟨kb, koff + n, none⟩) = some ⟨kb, o, none⟩ ∧ (kl = n ∨ o = koff + n) := by
          by_cases e : kc = n
          · exact ⟨koff, by rw [if_pos e], .inl (by omega)⟩
          · exact ⟨koff + n, by rw [if_neg e], .inr rfl⟩
        have HOo := hid ho
        have HDl := hid (show (kpj.drop n).length = kl - n from by rw [List.length_drop, HKl.out])
        clear ho hnn hcap1 hcap2
        generalize f.fb = fb at *
        go_wp2_with (first | (go_at_call 30; refine HLo.out.mono ?_; rintro e w2 ⟨v7, rfl, o2, u2⟩; have O2 := hid o2; have U2 := hid u2; obtain ⟨pa, pc, ep⟩ := o2.len; rw [HNl.out] at ep; subst ep; clear o2 u2) | (go_at_call 31; refine (HCa.out _ _ U2.out O2.out).mono ?_; rintro e w3 ⟨rfl, d', y1, y2, y3, y4⟩; have Y1 := hid y1; have Y2 := hid y2; have Y3 := hid y3; have Y4 := hid y4; clear y1 y2 y3 y4))
        go_roundw
        case rel => exact ⟨j + 1, d', kpj.drop n, some ⟨kb, o, none⟩, kc - n, hit, by go_num, by rw [HDl.out], Y1.out, MM.out.trans Y4.out, Y2.out, HK2.out, Y3.out, by rw [HDl.out]; exact brow_drop (by have q := HBw.out _ _ Y4.out; exact q) n o (by rw [HKl.out]; exact HNn.out) (by rw [HKl.out]; exact HOo.out), .inr (.inl ⟨kb, o, rfl⟩), fun h0 g e => HFF.out (by rw [HDl.out] at h0; omega) g (by cases e; rfl)⟩
        case measure => simp [intOf]; omega
      · subst hp0 hc00
        have hkl0 : kl = 0 := by omega
        subst hkl0
        obtain rfl : n = 0 := by omega
        have HEm := hid hk00
        have mm0 : min (sl : Int) 0 = 0 := by omega
        clear hk00 hnn hcap1 hcap2 mm
        generalize f.fb = fb at *
        go_wp2_with (first | (go_at_call 30; refine HLo.out.mono ?_; rintro e w2 ⟨v7, rfl, o2, u2⟩; have O2 := hid o2; have U2 := hid u2; obtain ⟨pa, pc, ep⟩ := o2.len; rw [HNl.out] at ep; subst ep; clear o2 u2) | (go_at_call 31; refine (HCa.out _ _ U2.out O2.out).mono ?_; rintro e w3 ⟨rfl, d', y1, y2, y3, y4⟩; have Y1 := hid y1; have Y2 := hid y2; have Y3 := hid y3; have Y4 := hid y4; clear y1 y2 y3 y4))
        go_roundw
        case rel => exact ⟨j + 1, d', [], some ka, 0, hit, by go_num, rfl, Y1.out, MM.out.trans Y4.out, Y2.out, by have q := HK2.out; rw [HEm.out] at q; simpa using q, Y3.out, ⟨by simp, some ka, 0, rfl, by simp, by simp, fun i hi => by simp at hi⟩, .inr (.inr ⟨ka, rfl, rfl, rfl⟩), fun h0 => by simp at h0⟩
        case measure => simp [intOf]; omega
    · obtain rfl : j = sn := by omega
      have l8 : ¬ (j : Int) < (j : Int) := by omega
      obtain ⟨⟨c0, c1, c2⟩, hfz⟩ := DD.out.cells
      have f1 := hfz 1
      have f2 := hfz 2
      have c2' : (wr.setCell ⟨dj.db, 1, none⟩ (.bool false)).cell? ⟨dj.db, 2, none⟩ = some (.int .i64 dj.fail) := by
        rw [World.cell?_setCell_other _ _ _ _ (by intro q; cases q)]; exact c2
      have f2' : (wr.setCell ⟨dj.db, 1, none⟩ (.bool false)).frozen? ⟨dj.db, 2, none⟩ = false := by rw [World.frozen?_setCell]; exact f2
      have FIN := hid (HFin.out wr ((wr.setCell ⟨dj.db, 1, none⟩ (.bool false)).setCell ⟨dj.db, 2, none⟩ (.int .i64 0)) dj DD.out PP.out MM.out ((Chg.set wr ⟨dj.db, 1, none⟩ (.bool false) (by simp)).trans (Chg.set _ ⟨dj.db, 2, none⟩ (.int .i64 0) (by simp))) (by
        rw [Go.Joins.block_setCell (Go.Joins.block_setCell DD.out.disk _)]
        rfl))
      rw [hdbj] at c0 c1 c2 f1 f2 c2' f2' FIN
      clear DD MM PP KK KM BB FF HFin HC HMem HSz HCr hfz hBj hSj
      generalize kpj.length = kl at *
      go_wp2
      exact bodyPost_end (v := .tuple #[]) (by simp [results, Tryz.results11, go_sem]) rfl (by obtain ⟨_, q⟩ := FIN.out; exact ⟨rfl, q⟩)
end Go.Proofs.YtfphopleniidfaaGreatDoor
