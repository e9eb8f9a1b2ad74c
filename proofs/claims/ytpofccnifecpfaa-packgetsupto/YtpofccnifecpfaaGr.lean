/- What the document's Get returns at any bytes and any row of kinds; conditions: the rows lie in memory, at most 1048576 kinds. -/
import Derived.Test.YtpofccnifecpfaaGp
import Derived.Test.YtpofccnifecpfaaOx
import Derived.Deep.AppendLies
namespace Go.Proofs.Ytpofccnifecpfaa
open Go.RowKit
set_option linter.unusedVariables false
attribute [local go_sem] run_bits run_frombits run_store_float
/-- What the document's Get answers. -/
def GetOutR (w : World) (n m : Nat) (x : Nat → Nat) (ks : Nat → Int) (e : Ending) (w' : World) : Prop :=
  (unk ks m ∧ e = .returned (.tuple #[.slice none 0 0, .int .i64 1])) ∨
  (¬ unk ks m ∧ (∀ i, i < m → vKat ks x n i ≠ 0) ∧ pos ks x n m = n ∧ ∃ v f, e = .returned (.tuple #[v, .int .i64 0]) ∧ OwnR w.heap.size w' v m f ∧ ∀ j, j < m → IsVat ks x n j (f j) ∧ PV.In w' (f j) ∧ ((f j).bn = 0 ∨ ∃ g, (f j).b.ownBlock = some g ∧ w.heap.size ≤ g)) ∨
  (¬ unk ks m ∧ ((∃ i, i < m ∧ vKat ks x n i = 0) ∨ pos ks x n m < n) ∧ e = .returned (.tuple #[.slice none 0 0, .int .i64 30]))
structure GU (w0 : World) (n : Nat) (x : Nat → Nat) (ks : Nat → Int) (k : Nat) (bb v : Value) (f : Nat → PV) (wr : World) : Prop where
  row : ByRow wr bb (n - pos ks x n k) (sh (pos ks x n k) x)
  rblk : n - pos ks x n k = 0 ∨ ∃ b, bb.ownBlock = some b ∧ b < w0.heap.size
  own : OwnR w0.heap.size wr v k f
  each : ∀ j, j < k → vKat ks x n j ≠ 0 ∧ IsVat ks x n j (f j) ∧ PV.In wr (f j) ∧ ((f j).bn = 0 ∨ ∃ g, (f j).b.ownBlock = some g ∧ w0.heap.size ≤ g ∧ v.ownBlock ≠ some g)
  up : Up w0 wr
theorem GU.step {w0 : World} {n : Nat} {x : Nat → Nat} {ks : Nat → Int} {k : Nat} {bb bb' v : Value} {f : Nat → PV} {wr w1 w2 w3 : World} {p : PV} {g cap : Nat} {o : Obj}
    (G : GU w0 n x ks k bb v f wr) (hz : vKat ks x n k ≠ 0) (hp : IsVat ks x n k p) (hin : PV.In w1 p) (hfr : p.bn = 0 ∨ ∃ g, p.b.ownBlock = some g ∧ wr.heap.size ≤ g) (hu : Up wr w1) (hu2 : Up w1 w2)
    (hrow : ByRow w1 bb' (n - pos ks x n k - vKat ks x n k) (sh (vKat ks x n k) (sh (pos ks x n k) x))) (hrb : n - pos ks x n k - vKat ks x n k = 0 ∨ ∃ b, bb'.ownBlock = some b ∧ b < w0.heap.size)
    (hown : w3.ownsRow w0.heap.size 57 5 (.slice (some ⟨g, 0, none⟩) (k + 1) cap) (k + 1) (vl k f ++ [.int .i64 p.k, .int .i64 p.n, .float .f64 p.x, p.b, .bool p.on]))
    (hgr : (w2.alloc o).grownBy w3 v.ownBlock) (hat : v.ownBlock = some g ∨ w1.heap.size ≤ g) :
    GU w0 n x ks (k + 1) bb' (.slice (some ⟨g, 0, none⟩) (k + 1) cap) (catP k f (fun _ => p)) w3 := by
  have s0 := G.up.size
  have s1 := hu.size
  have s2 := hu2.size
  have ownlt : ∀ b, v.ownBlock = some b → w0.heap.size ≤ b ∧ b < wr.heap.size := fun b hb => World.ownsRow.lt G.own b hb
  let T : List Nat := match v.ownBlock with | some b => [b] | none => []
  have hT : ∀ b, b ∈ T ↔ v.ownBlock = some b := by
    intro b
    show b ∈ (match v.ownBlock with | some b => [b] | none => []) ↔ _
    cases v.ownBlock with
    | none => simp
    | some c => simp; exact eq_comm
  have c3 : Chg T w1 w3 := by
    refine ⟨hgr.os.trans hu2.os, hgr.tape.trans hu2.tape, hgr.output.trans hu2.output, ?_, fun i hi hn => ?_⟩
    · have := hgr.size; simp at this; omega
    · exact (hgr.block i (by simp; omega) (fun e => hn ((hT i).2 e.symm))).trans ((Below.heap_alloc _ _ _ (by omega)).trans (hu2.block i hi))
  have cR : Chg T wr w3 := Chg.up hu c3
  have notT : ∀ i, i < w0.heap.size → i ∉ T := fun i hi h => by have := (ownlt i ((hT i).1 h)).1; omega
  have epos : pos ks x n (k + 1) = pos ks x n k + vKat ks x n k := rfl
  have e1 : n - pos ks x n (k + 1) = n - pos ks x n k - vKat ks x n k := by omega
  refine ⟨?_, ?_, ?_, ?_, ?_⟩
  · rw [e1, epos, ← sh_sh]
    refine hrow.chg c3 ?_
    rcases hrb with h | ⟨b, h1, h2⟩
    · exact .inl h
    · right; intro b' hb'; rw [h1] at hb'; cases hb'; exact notT b h2
  · rw [e1]; exact hrb
  · unfold OwnR
    rw [← vl_cat, vl_one1]
    exact hown
  · intro j hj
    by_cases hjk : j < k
    · obtain ⟨e1, e2, e3, e4⟩ := G.each j hjk
      rw [show catP k f (fun _ => p) j = f j by simp [catP, hjk]]
      refine ⟨e1, e2, ?_, ?_⟩
      · refine e3.chg cR ?_
        rcases e4 with h | ⟨gj, h1, h2, h3⟩
        · exact .inl h
        · right; intro b hb; rw [h1] at hb; cases hb; exact fun h => h3 ((hT gj).1 h)
      · rcases e4 with h | ⟨gj, h1, h2, h3⟩
        · exact .inl h
        · by_cases hz0 : (f j).bn = 0
          · exact .inl hz0
          · right
            refine ⟨gj, h1, h2, ?_⟩
            have := e3.blk hz0 gj h1
            simp [Value.ownBlock]
            rcases hat with h | h
            · intro e; subst e; exact h3 h
            · omega
    · obtain rfl : j = k := by omega
      rw [show catP j f (fun _ => p) j = p by simp [catP]]
      refine ⟨hz, hp, ?_, ?_⟩
      · refine hin.chg c3 ?_
        rcases hfr with h | ⟨gp, h1, h2⟩
        · exact .inl h
        · right; intro b hb; rw [h1] at hb; cases hb
          exact fun h => by have := (ownlt gp ((hT gp).1 h)).2; omega
      · rcases hfr with h | ⟨gp, h1, h2⟩
        · exact .inl h
        · by_cases hz0 : p.bn = 0
          · exact .inl hz0
          · right
            refine ⟨gp, h1, by omega, ?_⟩
            have := hin.blk hz0 gp h1
            simp [Value.ownBlock]
            rcases hat with h | h
            · have := (ownlt g h).2; omega
            · omega
  · exact ⟨cR.os.trans G.up.os, cR.tape.trans G.up.tape, cR.output.trans G.up.output, Nat.le_trans s0 cR.size, fun i hi => (cR.block i (by omega) (notT i hi)).trans (G.up.block i hi)⟩
set_option maxHeartbeats 1000000 in
theorem refGet_any (a : Option Addr) (n c m kc : Nat) (ka : Option Addr) (x : Nat → Nat) (ks : Nat → Int) (w : World) (hv : ByRow w (.slice a n c) n x) (hka : KAt w ka m ks) (hm : m ≤ 1048576) :
    Calls Try.prog 22 #[.slice a n c, .slice ka m kc] w fun e w' => GetOutR w n m x ks e w' ∧ Up w w' := by
  obtain ⟨i0, hi, hz0, hz1, hz2⟩ := info_parts infoRVal
  have HK := hid hka
  have HV := hid hv
  clear hka hv
  go_enter Try.func22, Try.ntmps22
  go_wp2
  go_loop [6] (fun i => ∃ k : Nat, k ≤ m ∧ i = .int .i64 (k : Nat) ∧ ¬ unk ks k) (fun i => m - (intOf i).toNat)
  case atStart => exact ⟨0, Nat.zero_le _, rfl, fun ⟨i, h, _⟩ => by omega⟩
  case round =>
    obtain ⟨k, hk, rfl, h0⟩ := hrel
    by_cases hlt : k < m
    · obtain ⟨b, off, rfl, cx⟩ := HK.out k hlt
      have l1 : (0 : Int) ≤ (k : Int) := by omega
      have l2 : (k : Int) < (m : Int) := by omega
      have H0 := hid h0
      clear h0
      by_cases hq1 : ks k < 1
      · have HT : Hid (unk ks m) := ⟨k, hlt, .inl hq1⟩
        have t1 : decide (ks k < 1) = true := by rw [decide_eq_true_eq]; exact hq1
        clear HK HV
        generalize ks k = q at *
        go_wp2
        go_ret2
        exact ⟨.inl ⟨HT.out, rfl⟩, Up.refl _⟩
      · have t1 : decide (ks k < 1) = false := by rw [decide_eq_false_iff_not]; exact hq1
        by_cases hq2 : 4 < ks k
        · have HT : Hid (unk ks m) := ⟨k, hlt, .inr hq2⟩
          have t2 : decide (4 < ks k) = true := by rw [decide_eq_true_eq]; exact hq2
          clear HK HV
          generalize ks k = q at *
          go_wp2
          go_ret2
          exact ⟨.inl ⟨HT.out, rfl⟩, Up.refl _⟩
        · have t2 : decide (4 < ks k) = false := by rw [decide_eq_false_iff_not]; exact hq2
          have HT : Hid (¬ unk ks (k + 1)) := by
            rintro ⟨i, h1, h2⟩
            by_cases e : i = k
            · subst e; omega
            · exact H0.out ⟨i, by omega, h2⟩
          clear HK HV
          generalize ks k = q at *
          go_wp2
          go_round
          case rel => exact ⟨k + 1, hlt, by go_num, HT.out⟩
          case measure => simp [intOf]; omega
    · obtain rfl : m = k := by omega
      have HUn := hid h0
      have hq : Hid (∀ i, i < m → 1 ≤ ks i ∧ ks i ≤ 4) := fun i hi => by
        by_cases h : ks i < 1 ∨ 4 < ks i
        · exact absurd ⟨i, hi, h⟩ h0
        · omega
      clear h0 hlt
      go_wp2
      have G0 : Hid (GU w n x ks 0 (.slice a n c) (.slice (some ⟨w.heap.size, 0, none⟩) 0 0) (fun _ => ⟨0, 0, 0, .slice none 0 0, 0, fun _ => 0, false⟩) (w.alloc (.cells #[] 57))) := by
        refine ⟨?_, ?_, OwnR.empty (Nat.le_refl _) rfl, fun j hj => by omega, (Up.refl w).alloc _⟩
        · have h1 := HV.out.up ((Up.refl w).alloc (.cells #[] 57))
          simpa [pos] using (show ByRow _ (.slice a n c) (n - 0) (sh 0 x) by rw [show sh 0 x = x by funext i; simp [sh]]; exact h1)
        · by_cases hz : n = 0
          · left; simp [pos, hz]
          · right
            obtain ⟨b, off, cap, e, hc, _⟩ := HV.out.cells (by omega)
            refine ⟨b, by rw [e]; rfl, ?_⟩
            have := World.block_lt_of_cell? w _ (hc 0 (by omega)).2
            simpa using this
      go_loopw [0, 7, 8] (fun bb o i wr => ∃ (k : Nat) (f : Nat → PV) (B O : Value), B = bb ∧ O = o ∧ k ≤ m ∧ i = .int .i64 (k : Nat) ∧ GU w n x ks k B O f wr) (fun _ _ i _ => m - (intOf i).toNat)
      case atStart => exact ⟨0, _, _, _, rfl, rfl, Nat.zero_le _, rfl, G0.out⟩
      case round =>
        obtain ⟨k, f, B, O, rfl, rfl, hk', rfl, G⟩ := hrel
        have HG := hid G
        clear G G0
        by_cases hlt : k < m
        · obtain ⟨kb, ko, rfl, kcell⟩ := HK.out k hlt
          have kcr := HG.out.up.keep kcell
          have l1 : (0 : Int) ≤ (k : Int) := by omega
          have l2 : (k : Int) < (m : Int) := by omega
          have hl4 : k < 1048576 := by omega
          have HO := hid ((one_any (ks k) (hq.out k hlt) B (n - pos ks x n k) (sh (pos ks x n k) x) wr HG.out.row).mono (fun e w' h => show ∃ (p : PV) (pa : Option Addr) (pc : Nat), e = .returned (.tuple #[.agg #[.int .i64 p.k, .int .i64 p.n, .float .f64 p.x, .slice pa p.bn pc, .bool p.on], .int .i64 (vKat ks x n k : Nat)]) ∧ p.b = .slice pa p.bn pc ∧ PV.In w' p ∧ (vKat ks x n k ≠ 0 → IsVat ks x n k p ∧ (p.bn = 0 ∨ ∃ g, p.b.ownBlock = some g ∧ wr.heap.size ≤ g)) ∧ Up wr w' by
            obtain ⟨p, h1, h2, h3, h4⟩ := h
            obtain ⟨pa, pc, hpb⟩ := PV.slice h2
            exact ⟨p, pa, pc, by rw [h1]; unfold PV.agg; rw [hpb]; rfl, hpb, h2, h3, h4⟩))
          have hKle : vKat ks x n k ≤ n - pos ks x n k := vK_le _ _ _
          obtain ⟨ba, bc, hB⟩ := HG.out.row.slice
          by_cases hz : vKat ks x n k = 0
          · rw [hz] at HO
            have HZ := hid hz
            subst hB
            clear HK HV hz hKle
            generalize ks k = q at *
            go_wp2_with (go_at_call 41; refine HO.out.mono ?_; rintro e w1 ⟨p, pa, pc, rfl, hpb, hin, hisv, hu1⟩; have U1 := hid hu1; clear hin hisv hu1 hpb)
            go_ret2
            exact ⟨.inr (.inr ⟨HUn.out, .inl ⟨k, hlt, HZ.out⟩, rfl⟩), (Up.trans HG.out.up U1.out).alloc _⟩
          · clear hB
            obtain ⟨b, off, cap, rfl, hc, hnc, hmx⟩ := HG.out.row.cells (by omega)
            have hbl : b < w.heap.size := by
              rcases HG.out.rblk with h | ⟨b', h1, h2⟩
              · omega
              · simp [Value.ownBlock] at h1; omega
            have HZ := hid hz
            have HR1 : Hid (∀ W, Up wr W → ByRow W (cutv b off (n - pos ks x n k) cap (vKat ks x n k)) (n - pos ks x n k - vKat ks x n k) (sh (vKat ks x n k) (sh (pos ks x n k) x))) := by
              intro W hW
              unfold cutv
              by_cases hz2 : n - pos ks x n k - vKat ks x n k = 0
              · rw [hz2]; exact .inl ⟨rfl, _, _, rfl, fun h => by cases h⟩
              · rw [if_neg (by omega)]
                exact slice_row (fun i hi => ⟨(hc i hi).1, hW.keep (hc i hi).2⟩) hmx _ _ _ (by omega) (by omega) (by omega) (by omega)
            have HCut : Hid (cutv b off (n - pos ks x n k) cap (vKat ks x n k) = .slice (some ⟨b, if cap = vKat ks x n k then off else off + vKat ks x n k, none⟩) (n - pos ks x n k - vKat ks x n k) (cap - vKat ks x n k)) := rfl
            have HOwn := hid HG.out.own
            have HFin := hid (fun (w1 w2 w3 : World) (p : PV) (g cp : Nat) (o : Obj) (hisv : IsVat ks x n k p ∧ (p.bn = 0 ∨ ∃ g, p.b.ownBlock = some g ∧ wr.heap.size ≤ g)) (hin : PV.In w1 p) (hu : Up wr w1) (hu2 : Up w1 w2) (hown : w3.ownsRow w.heap.size 57 5 (.slice (some ⟨g, 0, none⟩) (k + 1) cp) (k + 1) (vl k f ++ [.int .i64 p.k, .int .i64 p.n, .float .f64 p.x, p.b, .bool p.on])) (hgr : (w2.alloc o).grownBy w3 O.ownBlock) (hat : O.ownBlock = some g ∨ w1.heap.size ≤ g) => GU.step (bb' := cutv b off (n - pos ks x n k) cap (vKat ks x n k)) HG.out HZ.out hisv.1 hin hisv.2 hu hu2 (HR1.out w1 hu) (.inr ⟨b, rfl, hbl⟩) hown hgr hat)
            unfold maxLen at hmx
            have hsr := HG.out.up.size
            clear HK HV hz HR1 hc
            generalize cutv b off (n - pos ks x n k) cap (vKat ks x n k) = CV at *
            generalize hKg : vKat ks x n k = KV at HO HCut hKle
            have tkz : ((KV : Int) == 0) = false := by have := HZ.out; rw [beq_eq_false_iff_ne]; omega
            clear hKg
            generalize n - pos ks x n k = NN at *
            generalize ks k = q at *
            by_cases hcap : cap = KV
            · rw [if_pos hcap] at HCut
              subst hcap
              rw [Nat.sub_self] at HCut
              obtain rfl : NN = cap := by omega
              rw [Nat.sub_self] at HCut
              go_wp2_with (first | (go_at_call 41; refine HO.out.mono ?_; rintro e w1 ⟨p, pa, pc, rfl, hpb, hin, hisv, hu1⟩; have U1 := hid hu1; have HIn := hid hin; have HIs := hid hisv; have HPb := hid hpb; have O1 := hid (OwnR.up (OwnR.up (OwnR.up HOwn.out hu1) ((Up.refl _).alloc (.cells #[.int .i64 p.k, .int .i64 p.n, .float .f64 p.x, .slice pa p.bn pc, .bool p.on] 57))) ((Up.refl _).alloc (.cells #[.int .i64 p.k, .int .i64 p.n, .float .f64 p.x, .slice pa p.bn pc, .bool p.on] 57))); have hs1 := hu1.size; clear hin hisv hu1 hpb) | (at_builtin; refine wpList_append_lies _ rfl (.tmp 47) (.tmp 49) 37 rfl w.heap.size 57 i0 _ 5 56 Try.underlying37 hi hz0 hz1 hz2 rfl (by decide) O k (vl k f) (by rfl) O1.out ⟨w1.heap.size + 1, 0, none⟩ 1 1 [.int .i64 p.k, .int .i64 p.n, .float .f64 p.x, .slice pa p.bn pc, .bool p.on] (by first | rfl | simp) rfl (fun jj uu hj => by have := World.news_of_block (cs := #[.int .i64 p.k, .int .i64 p.n, .float .f64 p.x, .slice pa p.bn pc, .bool p.on]) (t := 57) (fr := (0, 0)) (heap_alloc_new (w1.alloc (.cells #[.int .i64 p.k, .int .i64 p.n, .float .f64 p.x, .slice pa p.bn pc, .bool p.on] 57)) _) jj uu hj; simpa using this) (by simp [Value.oneCell']) (by omega) (by unfold maxLen; omega) (by omega) (by simp; omega) (w1.heap.size + 1 + 1) (by simp) ?_; intro g cp w3 hown hgr hat hgl3; have HF3 := hid (HFin.out w1 _ w3 p g cp _ (HIs.out (fun h => by simp [h] at tkz)) HIn.out U1.out ((Up.refl w1).alloc _) (by rw [HPb.out]; exact hown) hgr (by rcases hat with h | h; exact .inl h; exact .inr (by omega))); clear hown hgr hat))
              go_roundw
              case rel => exact ⟨k + 1, _, _, _, rfl, rfl, hlt, by go_num, by first | exact HCut.out ▸ HF3.out | (have h := HF3.out; rw [HCut.out] at h; exact h)⟩
              case measure => simp [intOf]; omega
            · rw [if_neg hcap] at HCut
              go_wp2_with (first | (go_at_call 41; refine HO.out.mono ?_; rintro e w1 ⟨p, pa, pc, rfl, hpb, hin, hisv, hu1⟩; have U1 := hid hu1; have HIn := hid hin; have HIs := hid hisv; have HPb := hid hpb; have O1 := hid (OwnR.up (OwnR.up (OwnR.up HOwn.out hu1) ((Up.refl _).alloc (.cells #[.int .i64 p.k, .int .i64 p.n, .float .f64 p.x, .slice pa p.bn pc, .bool p.on] 57))) ((Up.refl _).alloc (.cells #[.int .i64 p.k, .int .i64 p.n, .float .f64 p.x, .slice pa p.bn pc, .bool p.on] 57))); have hs1 := hu1.size; clear hin hisv hu1 hpb) | (at_builtin; refine wpList_append_lies _ rfl (.tmp 47) (.tmp 49) 37 rfl w.heap.size 57 i0 _ 5 56 Try.underlying37 hi hz0 hz1 hz2 rfl (by decide) O k (vl k f) (by rfl) O1.out ⟨w1.heap.size + 1, 0, none⟩ 1 1 [.int .i64 p.k, .int .i64 p.n, .float .f64 p.x, .slice pa p.bn pc, .bool p.on] (by first | rfl | simp) rfl (fun jj uu hj => by have := World.news_of_block (cs := #[.int .i64 p.k, .int .i64 p.n, .float .f64 p.x, .slice pa p.bn pc, .bool p.on]) (t := 57) (fr := (0, 0)) (heap_alloc_new (w1.alloc (.cells #[.int .i64 p.k, .int .i64 p.n, .float .f64 p.x, .slice pa p.bn pc, .bool p.on] 57)) _) jj uu hj; simpa using this) (by simp [Value.oneCell']) (by omega) (by unfold maxLen; omega) (by omega) (by simp; omega) (w1.heap.size + 1 + 1) (by simp) ?_; intro g cp w3 hown hgr hat hgl3; have HF3 := hid (HFin.out w1 _ w3 p g cp _ (HIs.out (fun h => by simp [h] at tkz)) HIn.out U1.out ((Up.refl w1).alloc _) (by rw [HPb.out]; exact hown) hgr (by rcases hat with h | h; exact .inl h; exact .inr (by omega))); clear hown hgr hat))
              go_roundw
              case rel => exact ⟨k + 1, _, _, _, rfl, rfl, hlt, by go_num, by first | exact HCut.out ▸ HF3.out | (have h := HF3.out; rw [HCut.out] at h; exact h)⟩
              case measure => simp [intOf]; omega
        · obtain rfl : m = k := by omega
          obtain ⟨ba, bc, rfl⟩ := HG.out.row.slice
          have hple := pos_le ks x n m
          by_cases hp : pos ks x n m = n
          · have e0 : n - pos ks x n m = 0 := by omega
            have HP := hid hp
            clear hp hple HK HV
            rw [e0]
            go_wp2
            go_ret2
            refine ⟨.inr (.inl ⟨HUn.out, fun i hi => (HG.out.each i hi).1, HP.out, O, f, rfl, HG.out.own, fun j hj => ?_⟩), HG.out.up⟩
            obtain ⟨_, e2, e3, e4⟩ := HG.out.each j hj
            refine ⟨e2, e3, ?_⟩
            rcases e4 with h | ⟨g, h1, h2, _⟩
            · exact .inl h
            · exact .inr ⟨g, h1, h2⟩
          · have e0 : 0 < n - pos ks x n m := by omega
            have HP : Hid (pos ks x n m < n) := by show pos ks x n m < n; omega
            clear hp hple HK HV
            generalize hNN : n - pos ks x n m = NN at e0 ⊢
            clear hNN
            go_wp2
            go_ret2
            exact ⟨.inr (.inr ⟨HUn.out, .inr HP.out, rfl⟩), HG.out.up⟩
end Go.Proofs.Ytpofccnifecpfaa
