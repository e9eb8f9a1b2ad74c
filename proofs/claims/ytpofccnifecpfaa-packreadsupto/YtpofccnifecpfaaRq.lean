/- What the function that the law PackReads hands to Read does; conditions: the rows and the variables lie in memory, at most 1048576 kinds. -/
import Derived.Test.YtpofccnifecpfaaRy
import Derived.Deep.AppendLies
namespace Go.Proofs.Ytpofccnifecpfaa
open Go.RowKit
set_option linter.unusedVariables false
attribute [local go_sem] run_store_float
/-- Values k of which were read, in the row v that the variable bv holds; g0: the block of the row with which it began. -/
structure GT (w0 : World) (R bv b0 g0 n : Nat) (x : Nat → Nat) (ks : Nat → Int) (tv : TypeId) (k : Nat) (v : Value) (f : Nat → PV) (wr : World) : Prop where
  rb : RB wr R b0 (n - pos ks x n k) (sh (pos ks x n k) x)
  var : wr.heap[bv]? = some (.cells #[v] tv (0, 0))
  own : OwnV 0 wr v k f
  ob : ∀ b, v.ownBlock = some b → b = g0 ∨ w0.heap.size ≤ b
  each : ∀ j, j < k → vKat ks x n j ≠ 0 ∧ (1 ≤ ks j ∧ ks j ≤ 4) ∧ IsVat ks x n j (f j) ∧ PV.In wr (f j) ∧ ((f j).bn = 0 ∨ ∃ g, (f j).b.ownBlock = some g ∧ w0.heap.size ≤ g ∧ v.ownBlock ≠ some g)
  chg : Chg [R, bv, g0] w0 wr
theorem GT.step {w0 : World} {R bv b0 g0 n : Nat} {x : Nat → Nat} {ks : Nat → Int} {tv : TypeId} {k : Nat} {v : Value} {f : Nat → PV} {wr w1 w3 : World} {p : PV} {g cap : Nat} {o : Obj}
    (G : GT w0 R bv b0 g0 n x ks tv k v f wr) (hR : R < w0.heap.size) (hbv : bv < w0.heap.size) (hb0 : b0 < w0.heap.size) (hRv : R ≠ bv) (hbb : b0 ≠ bv) (hbR : b0 ≠ R) (hgR : g0 ≠ R) (hgv : g0 ≠ bv) (hgb : g0 ≠ b0) (hg0' : g0 < w0.heap.size)
    (hz : vKat ks x n k ≠ 0) (hq : 1 ≤ ks k ∧ ks k ≤ 4) (hp : IsVat ks x n k p) (hin : PV.In w1 p) (hfr : p.bn = 0 ∨ ∃ g, p.b.ownBlock = some g ∧ wr.heap.size ≤ g)
    (hrb : RB w1 R b0 (n - pos ks x n k - vKat ks x n k) (sh (vKat ks x n k) (sh (pos ks x n k) x))) (hc : Chg [R] wr w1)
    (hown : w3.ownsRow 0 35 5 (.slice (some ⟨g, 0, none⟩) (k + 1) cap) (k + 1) (vl k f ++ [.int .i64 p.k, .int .i64 p.n, .float .f64 p.x, p.b, .bool p.on]))
    (hgr : (w1.alloc o).grownBy w3 v.ownBlock) (hat : v.ownBlock = some g ∨ g = w1.heap.size + 1) :
    GT w0 R bv b0 g0 n x ks tv (k + 1) (.slice (some ⟨g, 0, none⟩) (k + 1) cap) (catP k f (fun _ => p)) (w3.setCell ⟨bv, 0, none⟩ (.slice (some ⟨g, 0, none⟩) (k + 1) cap)) := by
  have s0 := G.chg.size
  have s1 := hc.size
  have ownlt : ∀ b, v.ownBlock = some b → (b = g0 ∨ w0.heap.size ≤ b) ∧ b < wr.heap.size := fun b hb => ⟨G.ob b hb, (World.ownsRow.lt G.own b hb).2⟩
  have hg0 : g = g0 ∨ w0.heap.size ≤ g := by
    rcases hat with h | h
    · exact (ownlt g h).1
    · omega
  have hg1 : v.ownBlock = some g ∨ w1.heap.size ≤ g := by rcases hat with h | h; exact .inl h; exact .inr (by omega)
  let T : List Nat := match v.ownBlock with | some b => [b] | none => []
  have hT : ∀ b, b ∈ T ↔ v.ownBlock = some b := by
    intro b
    show b ∈ (match v.ownBlock with | some b => [b] | none => []) ↔ _
    cases v.ownBlock with
    | none => simp
    | some c => simp; exact eq_comm
  have c3 : Chg T w1 w3 := by
    refine ⟨hgr.os, hgr.tape, hgr.output, ?_, fun i hi hn => ?_⟩
    · have := hgr.size; simp at this; omega
    · exact (hgr.block i (by simp; omega) (fun e => hn ((hT i).2 e.symm))).trans (Below.heap_alloc _ _ _ hi)
  have c4 : Chg (bv :: T) w1 (w3.setCell ⟨bv, 0, none⟩ (.slice (some ⟨g, 0, none⟩) (k + 1) cap)) := (c3.mono (fun i hi => by simp [hi])).trans (Chg.set _ _ _ (by simp))
  have cR : Chg (R :: bv :: T) wr (w3.setCell ⟨bv, 0, none⟩ (.slice (some ⟨g, 0, none⟩) (k + 1) cap)) := (hc.mono (fun i hi => by simp at hi; simp [hi])).trans (c4.mono (fun i hi => by simp at hi ⊢; right; exact hi))
  have notT : ∀ i, i < w0.heap.size → i ≠ g0 → i ∉ T := fun i hi hne h => by have := (ownlt i ((hT i).1 h)).1; omega
  have hv1 : w3.heap[bv]? = some (.cells #[v] tv (0, 0)) := (c3.block bv (by omega) (notT bv hbv (fun e => hgv e.symm))).trans ((hc.block bv (by omega) (by simp; exact fun e => hRv e.symm)).trans G.var)
  have epos : pos ks x n (k + 1) = pos ks x n k + vKat ks x n k := rfl
  refine ⟨?_, one_setCell hv1, ?_, ?_, ?_, ?_⟩
  · rw [epos, show n - (pos ks x n k + vKat ks x n k) = n - pos ks x n k - vKat ks x n k by omega, ← sh_sh]
    exact hrb.chg c4 (by simp; exact ⟨hRv, notT R hR (fun e => hgR e.symm)⟩) (by simp; exact ⟨hbb, notT b0 hb0 (fun e => hgb e.symm)⟩)
  · unfold OwnV
    rw [← vl_cat, vl_one1]
    exact ownsRow_setCell_other hown (by simp [Value.ownBlock]; omega) _
  · intro b hb
    simp [Value.ownBlock] at hb
    subst hb
    exact hg0
  · intro j hj
    by_cases hjk : j < k
    · obtain ⟨e1, eq, e2, e3, e4⟩ := G.each j hjk
      rw [show catP k f (fun _ => p) j = f j by simp [catP, hjk]]
      refine ⟨e1, eq, e2, ?_, ?_⟩
      · refine e3.chg cR ?_
        rcases e4 with h | ⟨gj, h1, h2, h3⟩
        · exact .inl h
        · right
          intro b hb
          rw [h1] at hb; cases hb
          simp
          refine ⟨by omega, by omega, fun h => h3 ((hT gj).1 h)⟩
      · rcases e4 with h | ⟨gj, h1, h2, h3⟩
        · exact .inl h
        · by_cases hz0 : (f j).bn = 0
          · exact .inl hz0
          · right
            refine ⟨gj, h1, h2, ?_⟩
            have := e3.blk hz0 gj h1
            simp [Value.ownBlock]
            rcases hg1 with h | h
            · intro e; subst e; exact h3 h
            · omega
    · obtain rfl : j = k := by omega
      rw [show catP j f (fun _ => p) j = p by simp [catP]]
      refine ⟨hz, hq, hp, ?_, ?_⟩
      · refine hin.chg c4 ?_
        rcases hfr with h | ⟨gp, h1, h2⟩
        · exact .inl h
        · right
          intro b hb
          rw [h1] at hb; cases hb
          simp
          refine ⟨by omega, fun h => by have := (ownlt gp ((hT gp).1 h)).2; omega⟩
      · rcases hfr with h | ⟨gp, h1, h2⟩
        · exact .inl h
        · by_cases hz0 : p.bn = 0
          · exact .inl hz0
          · right
            refine ⟨gp, h1, by omega, ?_⟩
            have := hin.blk hz0 gp h1
            simp [Value.ownBlock]
            rcases hg1 with h | h
            · have := (ownlt g h).2; omega
            · omega
  · exact ⟨cR.os.trans G.chg.os, cR.tape.trans G.chg.tape, cR.output.trans G.chg.output, Nat.le_trans s0 cR.size, fun i hi hn => (cR.block i (by omega) (by simp at hn ⊢; exact ⟨hn.1, hn.2.1, notT i hi hn.2.2⟩)).trans (G.chg.block i hi (by simp at hn ⊢; exact hn))⟩
theorem enter_reads1 (args : Array Value) (w : World) : (callFunc 16 args).run Try.prog w = .ok (.enter 16 args) w := by kernel_rfl
set_option maxHeartbeats 8000000 in
theorem reads1_any (R bk bv be b0 g0 n m kc : Nat) (ka : Option Addr) (tk tv te : TypeId) (x : Nat → Nat) (ks : Nat → Int) (w : World) (h : RB w R b0 n x) (hm : m ≤ 1048576)
    (hkv : w.heap[bk]? = some (.cells #[.slice ka m kc] tk (0, 0))) (hka : KAt w ka m ks) (hne : ∀ b off, 0 < m → ka = some ⟨b, off, none⟩ → b ≠ R ∧ b ≠ bv ∧ b ≠ g0) (hvv : w.heap[bv]? = some (.cells #[.slice (some ⟨g0, 0, none⟩) 0 0] tv (0, 0))) (hev : w.heap[be]? = some (.cells #[.bool false] te (0, 0))) (hg : w.heap[g0]? = some (.cells #[] 35 (0, 0)))
    (hRv : R ≠ bv) (hbR : b0 ≠ R) (hbb : b0 ≠ bv) (hb0 : b0 < w.heap.size) (hgR : g0 ≠ R) (hgv : g0 ≠ bv) (hgb : g0 ≠ b0) (heR : be ≠ R) (hebv : be ≠ bv) (heg : be ≠ g0) :
    Calls Try.prog 16 #[.pointer (some ⟨R, 0, none⟩), .pointer (some ⟨bk, 0, none⟩), .pointer (some ⟨bv, 0, none⟩), .pointer (some ⟨be, 0, none⟩)] w fun e w' => (e = .returned (.tuple #[]) ∧ ∃ v f wz, GT w R bv b0 g0 n x ks tv m v f wz ∧ w' = wz.setCell ⟨be, 0, none⟩ (.bool true)) ∨ (e = .panicked (ended R) ∧ ∃ cd : Int, ((cd = 1 ∧ unk ks m) ∨ (cd = 30 ∧ ∃ i, i < m ∧ vKat ks x n i = 0)) ∧ RF w' R cd ∧ Chg [R, bv, g0] w w') := by
  obtain ⟨i0, hi, hz0, hz1, hz2⟩ := info_parts infoVal
  have hRl := h.lt
  have hbvl := lt_of_block hvv
  have hbel := lt_of_block hev
  have hgl := lt_of_block hg
  have ck : w.cell? ⟨bk, 0, none⟩ = some (.slice ka m kc) := cell_of_one hkv
  have G0 : Hid (GT w R bv b0 g0 n x ks tv 0 (.slice (some ⟨g0, 0, none⟩) 0 0) (fun _ => ⟨0, 0, 0, .slice none 0 0, 0, fun _ => 0, false⟩) w) := ⟨by simpa [pos] using (show RB w R b0 (n - 0) (sh 0 x) by rw [show sh 0 x = x by funext i; simp [sh]]; exact h), hvv, ⟨rfl, .inr ⟨g0, 0, #[], rfl, Nat.zero_le _, hg, Nat.le_refl _, by unfold maxLen; omega, rfl, rfl⟩⟩, fun b hb => by simp [Value.ownBlock] at hb; exact .inl hb.symm, fun j hj => by omega, Chg.refl _ _⟩
  have HKA := hid hka
  have HNE := hid hne
  have HEV := hid hev
  clear h hkv hka hne hvv hev hg
  go_enter Try.func16, Try.ntmps16
  go_wp2
  go_loopw [10] (fun i wr => ∃ (k : Nat) (v : Value) (f : Nat → PV), k ≤ m ∧ i = .int .i64 (k : Nat) ∧ GT w R bv b0 g0 n x ks tv k v f wr) (fun i _ => m - (intOf i).toNat)
  case atStart => exact ⟨0, _, _, Nat.zero_le _, rfl, G0.out⟩
  case round =>
    obtain ⟨k, v, f, hk, rfl, G⟩ := hrel
    have HG := hid G
    clear G
    by_cases hlt : k < m
    · obtain ⟨kb, ko, rfl, kcell⟩ := HKA.out k hlt
      have hne := HNE.out kb ko (by omega) rfl
      have kcr := HG.out.chg.cell kcell (by simp; exact hne)
      have HVar := hid HG.out.var
      have HRB := hid HG.out.rb
      have HOwn := hid HG.out.own
      have sz := HG.out.chg.size
      have hb0r : b0 < wr.heap.size := by omega
      clear HNE HKA kcell hne
      have hl4 : k < 1048576 := by omega
      by_cases hun : ks k < 1 ∨ 4 < ks k
      · have HF := hid (fun (W : World) (hW : Up wr W) => by obtain ⟨u, hr, _⟩ := HRB.out.up hW; exact fail_any R u 1 W hr 1 rfl)
        have HFF := hid (fun (W : World) (hW : Up wr W) => (HRB.out.up hW).fail 1)
        have HUn : Hid (unk ks m) := ⟨k, hlt, hun⟩
        generalize ks k = q at *
        have t1 : (q == 1) = false := by rw [beq_eq_false_iff_ne]; omega
        have t2 : (q == 2) = false := by rw [beq_eq_false_iff_ne]; omega
        have t3 : (q == 3) = false := by rw [beq_eq_false_iff_ne]; omega
        have t4 : (q == 4) = false := by rw [beq_eq_false_iff_ne]; omega
        clear hun
        skip
        go_wp2_with (go_at_call 21; refine (HF.out _ ((Up.refl wr).alloc _)).mono ?_; rintro e w' ⟨rfl, rfl⟩)
        exact ⟨rfl, .inr ⟨rfl, 1, .inl ⟨rfl, HUn.out⟩, HFF.out _ ((Up.refl wr).alloc _), HG.out.chg.trans (Chg.up ((Up.refl wr).alloc _) ((Chg.set _ _ _ (by simp)).trans (Chg.set _ _ _ (by simp))))⟩⟩
      · have hq14 : 1 ≤ ks k ∧ ks k ≤ 4 := by omega
        clear hun
        obtain hqk | hqk | hqk | hqk : ks k = 1 ∨ ks k = 2 ∨ ks k = 3 ∨ ks k = 4 := by omega
        · rw [hqk] at kcr
          have hv : vKat ks x n k = lnK (sh (pos ks x n k) x) (n - pos ks x n k) := by unfold vKat; simp [vK, hqk]
          by_cases hz : vKat ks x n k = 0
          · have HN := hid (fun (W : World) (hW : Up wr W) => rnum_no R b0 (n - pos ks x n k) (sh (pos ks x n k) x) W (HRB.out.up hW) (by rw [← hv]; exact hz))
            try unfold ended at *
            clear HVar HOwn hv
            go_wp2_with (go_at_call 17; refine (HN.out _ ((Up.refl wr).alloc _)).mono ?_; rintro e w1 ⟨rfl, r1, c1⟩; have H1 := hid r1; have C1 := hid c1; clear r1 c1)
            exact ⟨rfl, .inr ⟨rfl, 30, .inr ⟨rfl, k, hlt, hz⟩, H1.out, HG.out.chg.trans ((Chg.up ((Up.refl wr).alloc _) C1.out).mono (by simp))⟩⟩
          · have HN := hid (fun (W : World) (hW : Up wr W) => rnum_ok R b0 (n - pos ks x n k) (sh (pos ks x n k) x) W (HRB.out.up hW) hbR (by rw [← hv]; exact hz))
            rw [← hv] at HN
            have hxx : ∀ i, i < (n - pos ks x n k) → (sh (pos ks x n k) x) i < 256 := by obtain ⟨v, _, hr, _⟩ := HRB.out; exact hr.lt
            have hin0 : Hid (∀ W, PV.In W ⟨1, lnV (sh (pos ks x n k) x) (n - pos ks x n k), 0, .slice none 0 0, 0, fun _ => 0, false⟩) := fun W => ⟨by simp, lnV_in _ _ hxx, by simp, .inl ⟨rfl, none, 0, rfl, fun _ => rfl⟩⟩
            have hp : Hid (IsVat ks x n k ⟨1, lnV (sh (pos ks x n k) x) (n - pos ks x n k), 0, .slice none 0 0, 0, fun _ => 0, false⟩) := by unfold IsVat; rw [hqk]; exact ⟨rfl, rfl, rfl, rfl, fun i hi => absurd hi (by simp), rfl, fun _ _ => rfl⟩
            clear HRB hxx hv
            generalize lnV (sh (pos ks x n k) x) (n - pos ks x n k) = V at *
            go_wp2_with (go_at_call 17; fail)
            refine (HN.out _ ((Up.refl wr).alloc _)).mono ?_
            rintro e w1 ⟨rfl, r1, c1⟩
            have hbox : Box (wr.alloc (.cells #[.int .i64 1, .int .i64 0, .float .f64 0, .slice none 0 0, .bool false] 35)) wr.heap.size #[.int .i64 1, .int .i64 0, .float .f64 0, .slice none 0 0, .bool false] := heap_new _ _
            have hb1 : Box w1 wr.heap.size #[.int .i64 1, .int .i64 0, .float .f64 0, .slice none 0 0, .bool false] := (c1.block _ hbox.lt (by simp; omega)).trans hbox
            have hs1 : wr.heap.size + 1 ≤ w1.heap.size := by have := c1.size; simp at this; omega
            have hb2 : Box (w1.setCell ⟨wr.heap.size, 1, none⟩ (.int .i64 V)) wr.heap.size #[.int .i64 1, .int .i64 V, .float .f64 0, .slice none 0 0, .bool false] := heap_setCell_same w1 wr.heap.size 1 _ _ (.int .i64 V) hb1
            have fz := hb1.free 1
            have zz := hb1.cell 1 _ rfl
            have z0 := hb2.cell 0 _ rfl
            have z1 := hb2.cell 1 _ rfl
            have z2 := hb2.cell 2 _ rfl
            have z3 := hb2.cell 3 _ rfl
            have z4 := hb2.cell 4 _ rfl
            have C1 : Hid (Chg [R] wr w1) := Chg.up ((Up.refl wr).alloc _) c1
            have C2 : Hid (Chg [R] wr (w1.setCell ⟨wr.heap.size, 1, none⟩ (.int .i64 V))) := C1.out.new _ _ (by simp)
            have hv2 : (w1.setCell ⟨wr.heap.size, 1, none⟩ (.int .i64 V)).heap[bv]? = some (.cells #[v] tv (0, 0)) := (C2.out.block bv (by omega) (by simp; exact fun e => hRv e.symm)).trans HVar.out
            have cv2 := cell_of_one hv2
            have cv2a : ((w1.setCell ⟨wr.heap.size, 1, none⟩ (.int .i64 V)).alloc (.cells #[.int .i64 1, .int .i64 V, .float .f64 0, .slice none 0 0, .bool false] 35)).cell? ⟨bv, 0, none⟩ = some v := ((Up.refl _).alloc _).keep cv2
            have HV2 := hid hv2
            have hw2 : Hid ((w1.setCell ⟨wr.heap.size, 1, none⟩ (.int .i64 V)).ownsRow 0 35 5 v k (vl k f)) := World.ownsRow.kept HOwn.out (row := some R) ⟨C2.out.os, C2.out.tape, C2.out.output, C2.out.size, fun i hi' hne => C2.out.block i hi' (by simp; exact fun e => hne (by rw [e]))⟩ (.inr (fun e => by have := HG.out.ob R e; omega))
            have HR2 := hid (r1.chg (Chg.set (S := [wr.heap.size]) w1 ⟨wr.heap.size, 1, none⟩ (.int .i64 V) (by simp)) (by simp; omega) (by simp; omega))
            have HIn := hid (hin0.out (w1.setCell ⟨wr.heap.size, 1, none⟩ (.int .i64 V)))
            have hs2 : (w1.setCell ⟨wr.heap.size, 1, none⟩ (.int .i64 V)).heap.size = w1.heap.size := by simp
            have hsig : Hid (∀ W : World, W = w1.setCell ⟨wr.heap.size, 1, none⟩ (.int .i64 V) → True) := fun _ _ => trivial
            clear hbox hb1 hb2 hv2 r1 c1
            go_wp2_with (at_builtin; refine wpList_append_lies _ rfl (.tmp 39) (.tmp 41) 25 rfl 0 35 i0 _ 5 56 Try.underlying25 hi hz0 hz1 hz2 rfl (by decide) v k (vl k f) (by rfl) (hw2.out.alloc _) ⟨w1.heap.size, 0, none⟩ 1 1 [.int .i64 1, .int .i64 V, .float .f64 0, .slice none 0 0, .bool false] (by first | rfl | simp) rfl (fun jj uu hj => by have := World.news_of_block (cs := #[.int .i64 1, .int .i64 V, .float .f64 0, .slice none 0 0, .bool false]) (t := 35) (fr := (0, 0)) (heap_alloc_new (w1.setCell ⟨wr.heap.size, 1, none⟩ (.int .i64 V)) _) jj uu hj; simpa using this) (by simp [Value.oneCell']) (by omega) (by unfold maxLen; omega) (by omega) (Nat.zero_le _) (w1.heap.size + 1) (by simp) ?_; intro g cap w3 hown hgr hat hgl3; have hv3 : w3.heap[bv]? = some (.cells #[v] tv (0, 0)) := (hgr.block bv (by have := lt_of_block HV2.out; simp at this ⊢; omega) (fun e => by have := HG.out.ob bv e.symm; omega)).trans ((Below.heap_alloc _ _ _ (lt_of_block HV2.out)).trans HV2.out); have cv3 : w3.cell? ⟨bv, 0, none⟩ = some v := cell_of_one hv3; have fv3 : w3.frozen? ⟨bv, 0, none⟩ = false := free_of_one hv3; have HO3 := hid hown; have HG3 := hid hgr; have HAt := hid hat; clear hv3 hown hgr hat)
            go_roundw
            case rel => exact ⟨k + 1, _, _, hlt, by go_num, GT.step (p := ⟨1, V, 0, .slice none 0 0, 0, fun _ => 0, false⟩) HG.out hRl hbvl hb0 hRv hbb hbR hgR hgv hgb hgl hz hq14 hp.out HIn.out (.inl rfl) HR2.out C2.out HO3.out HG3.out (by rw [hs2]; exact HAt.out)⟩
            case measure => simp [intOf]; omega
        · rw [hqk] at kcr
          have hv : vKat ks x n k = lkK (sh (pos ks x n k) x) (n - pos ks x n k) := by unfold vKat; simp [vK, hqk]
          by_cases hz : vKat ks x n k = 0
          · have HN := hid (fun (W : World) (hW : Up wr W) => rkey_no R b0 (n - pos ks x n k) (sh (pos ks x n k) x) W (HRB.out.up hW) (by rw [← hv]; exact hz))
            try unfold ended at *
            clear HVar HOwn hv
            go_wp2_with (go_at_call 18; refine (HN.out _ ((Up.refl wr).alloc _)).mono ?_; rintro e w1 ⟨rfl, r1, c1⟩; have H1 := hid r1; have C1 := hid c1; clear r1 c1)
            exact ⟨rfl, .inr ⟨rfl, 30, .inr ⟨rfl, k, hlt, hz⟩, H1.out, HG.out.chg.trans ((Chg.up ((Up.refl wr).alloc _) C1.out).mono (by simp))⟩⟩
          · have HN := hid (fun (W : World) (hW : Up wr W) => rkey_ok R b0 (n - pos ks x n k) (sh (pos ks x n k) x) W (HRB.out.up hW) hbR (by rw [← hv]; exact hz))
            rw [← hv] at HN
            have hxx : ∀ i, i < (n - pos ks x n k) → (sh (pos ks x n k) x) i < 256 := by obtain ⟨v, _, hr, _⟩ := HRB.out; exact hr.lt
            have hin0 : Hid (∀ W, PV.In W ⟨2, 0, lkV (sh (pos ks x n k) x) (n - pos ks x n k), .slice none 0 0, 0, fun _ => 0, false⟩) := fun W => ⟨by simp, by simp, lkV_lt _ _ hxx, .inl ⟨rfl, none, 0, rfl, fun _ => rfl⟩⟩
            have hp : Hid (IsVat ks x n k ⟨2, 0, lkV (sh (pos ks x n k) x) (n - pos ks x n k), .slice none 0 0, 0, fun _ => 0, false⟩) := by unfold IsVat; rw [hqk]; exact ⟨rfl, rfl, rfl, rfl, fun i hi => absurd hi (by simp), rfl, fun _ _ => rfl⟩
            clear HRB hxx hv
            generalize lkV (sh (pos ks x n k) x) (n - pos ks x n k) = V at *
            go_wp2_with (go_at_call 18; fail)
            refine (HN.out _ ((Up.refl wr).alloc _)).mono ?_
            rintro e w1 ⟨rfl, r1, c1⟩
            have hbox : Box (wr.alloc (.cells #[.int .i64 2, .int .i64 0, .float .f64 0, .slice none 0 0, .bool false] 35)) wr.heap.size #[.int .i64 2, .int .i64 0, .float .f64 0, .slice none 0 0, .bool false] := heap_new _ _
            have hb1 : Box w1 wr.heap.size #[.int .i64 2, .int .i64 0, .float .f64 0, .slice none 0 0, .bool false] := (c1.block _ hbox.lt (by simp; omega)).trans hbox
            have hs1 : wr.heap.size + 1 ≤ w1.heap.size := by have := c1.size; simp at this; omega
            have hb2 : Box (w1.setCell ⟨wr.heap.size, 2, none⟩ (.float .f64 V)) wr.heap.size #[.int .i64 2, .int .i64 0, .float .f64 V, .slice none 0 0, .bool false] := heap_setCell_same w1 wr.heap.size 2 _ _ (.float .f64 V) hb1
            have fz := hb1.free 2
            have zz := hb1.cell 2 _ rfl
            have z0 := hb2.cell 0 _ rfl
            have z1 := hb2.cell 1 _ rfl
            have z2 := hb2.cell 2 _ rfl
            have z3 := hb2.cell 3 _ rfl
            have z4 := hb2.cell 4 _ rfl
            have C1 : Hid (Chg [R] wr w1) := Chg.up ((Up.refl wr).alloc _) c1
            have C2 : Hid (Chg [R] wr (w1.setCell ⟨wr.heap.size, 2, none⟩ (.float .f64 V))) := C1.out.new _ _ (by simp)
            have hv2 : (w1.setCell ⟨wr.heap.size, 2, none⟩ (.float .f64 V)).heap[bv]? = some (.cells #[v] tv (0, 0)) := (C2.out.block bv (by omega) (by simp; exact fun e => hRv e.symm)).trans HVar.out
            have cv2 := cell_of_one hv2
            have cv2a : ((w1.setCell ⟨wr.heap.size, 2, none⟩ (.float .f64 V)).alloc (.cells #[.int .i64 2, .int .i64 0, .float .f64 V, .slice none 0 0, .bool false] 35)).cell? ⟨bv, 0, none⟩ = some v := ((Up.refl _).alloc _).keep cv2
            have HV2 := hid hv2
            have hw2 : Hid ((w1.setCell ⟨wr.heap.size, 2, none⟩ (.float .f64 V)).ownsRow 0 35 5 v k (vl k f)) := World.ownsRow.kept HOwn.out (row := some R) ⟨C2.out.os, C2.out.tape, C2.out.output, C2.out.size, fun i hi' hne => C2.out.block i hi' (by simp; exact fun e => hne (by rw [e]))⟩ (.inr (fun e => by have := HG.out.ob R e; omega))
            have HR2 := hid (r1.chg (Chg.set (S := [wr.heap.size]) w1 ⟨wr.heap.size, 2, none⟩ (.float .f64 V) (by simp)) (by simp; omega) (by simp; omega))
            have HIn := hid (hin0.out (w1.setCell ⟨wr.heap.size, 2, none⟩ (.float .f64 V)))
            have hs2 : (w1.setCell ⟨wr.heap.size, 2, none⟩ (.float .f64 V)).heap.size = w1.heap.size := by simp
            have hsig : Hid (∀ W : World, W = w1.setCell ⟨wr.heap.size, 2, none⟩ (.float .f64 V) → True) := fun _ _ => trivial
            clear hbox hb1 hb2 hv2 r1 c1
            go_wp2_with (at_builtin; refine wpList_append_lies _ rfl (.tmp 39) (.tmp 41) 25 rfl 0 35 i0 _ 5 56 Try.underlying25 hi hz0 hz1 hz2 rfl (by decide) v k (vl k f) (by rfl) (hw2.out.alloc _) ⟨w1.heap.size, 0, none⟩ 1 1 [.int .i64 2, .int .i64 0, .float .f64 V, .slice none 0 0, .bool false] (by first | rfl | simp) rfl (fun jj uu hj => by have := World.news_of_block (cs := #[.int .i64 2, .int .i64 0, .float .f64 V, .slice none 0 0, .bool false]) (t := 35) (fr := (0, 0)) (heap_alloc_new (w1.setCell ⟨wr.heap.size, 2, none⟩ (.float .f64 V)) _) jj uu hj; simpa using this) (by simp [Value.oneCell']) (by omega) (by unfold maxLen; omega) (by omega) (Nat.zero_le _) (w1.heap.size + 1) (by simp) ?_; intro g cap w3 hown hgr hat hgl3; have hv3 : w3.heap[bv]? = some (.cells #[v] tv (0, 0)) := (hgr.block bv (by have := lt_of_block HV2.out; simp at this ⊢; omega) (fun e => by have := HG.out.ob bv e.symm; omega)).trans ((Below.heap_alloc _ _ _ (lt_of_block HV2.out)).trans HV2.out); have cv3 : w3.cell? ⟨bv, 0, none⟩ = some v := cell_of_one hv3; have fv3 : w3.frozen? ⟨bv, 0, none⟩ = false := free_of_one hv3; have HO3 := hid hown; have HG3 := hid hgr; have HAt := hid hat; clear hv3 hown hgr hat)
            go_roundw
            case rel => exact ⟨k + 1, _, _, hlt, by go_num, GT.step (p := ⟨2, 0, V, .slice none 0 0, 0, fun _ => 0, false⟩) HG.out hRl hbvl hb0 hRv hbb hbR hgR hgv hgb hgl hz hq14 hp.out HIn.out (.inl rfl) HR2.out C2.out HO3.out HG3.out (by rw [hs2]; exact HAt.out)⟩
            case measure => simp [intOf]; omega
        · rw [hqk] at kcr
          have hv : vKat ks x n k = lbK (sh (pos ks x n k) x) (n - pos ks x n k) := by unfold vKat; simp [vK, hqk]
          by_cases hz : vKat ks x n k = 0
          · have HN := hid (fun (W : World) (hW : Up wr W) => rbytes_no R b0 (n - pos ks x n k) (sh (pos ks x n k) x) W (HRB.out.up hW) hbR (by rw [← hv]; exact hz))
            try unfold ended at *
            clear HVar HOwn hv
            go_wp2_with (go_at_call 19; refine (HN.out _ ((Up.refl wr).alloc _)).mono ?_; rintro e w1 ⟨rfl, r1, c1⟩; have H1 := hid r1; have C1 := hid c1; clear r1 c1)
            exact ⟨rfl, .inr ⟨rfl, 30, .inr ⟨rfl, k, hlt, hz⟩, H1.out, HG.out.chg.trans ((Chg.up ((Up.refl wr).alloc _) C1.out).mono (by simp))⟩⟩
          · have hc3 : lnK (sh (pos ks x n k) x) (n - pos ks x n k) ≠ 0 ∧ 0 ≤ lnV (sh (pos ks x n k) x) (n - pos ks x n k) ∧ lnV (sh (pos ks x n k) x) (n - pos ks x n k) ≤ 4096 ∧ (lnV (sh (pos ks x n k) x) (n - pos ks x n k)).toNat ≤ (n - pos ks x n k) - lnK (sh (pos ks x n k) x) (n - pos ks x n k) := by
              rw [hv] at hz
              unfold lbK at hz
              by_cases hc : lnK (sh (pos ks x n k) x) (n - pos ks x n k) ≠ 0 ∧ 0 ≤ lnV (sh (pos ks x n k) x) (n - pos ks x n k) ∧ lnV (sh (pos ks x n k) x) (n - pos ks x n k) ≤ 4096 ∧ (lnV (sh (pos ks x n k) x) (n - pos ks x n k)).toNat ≤ (n - pos ks x n k) - lnK (sh (pos ks x n k) x) (n - pos ks x n k)
              · exact hc
              · rw [if_neg hc] at hz; exact absurd rfl hz
            have hv2 : vKat ks x n k = lnK (sh (pos ks x n k) x) (n - pos ks x n k) + (lnV (sh (pos ks x n k) x) (n - pos ks x n k)).toNat := by rw [hv]; unfold lbK; rw [if_pos hc3]
            have HN := hid (fun (W : World) (hW : Up wr W) => (rbytes_ok R b0 (n - pos ks x n k) (sh (pos ks x n k) x) (lnV (sh (pos ks x n k) x) (n - pos ks x n k)).toNat W (HRB.out.up hW) hbR (Nat.lt_of_lt_of_le hb0r hW.size) hc3.1 (by omega) (by omega) hc3.2.2.2).mono (fun e w' h => show ∃ (pa : Option Addr) (pc : Nat), e = .returned (.slice pa (lnV (sh (pos ks x n k) x) (n - pos ks x n k)).toNat pc) ∧ OwnB W.heap.size w' (.slice pa (lnV (sh (pos ks x n k) x) (n - pos ks x n k)).toNat pc) (lnV (sh (pos ks x n k) x) (n - pos ks x n k)).toNat (sh (lnK (sh (pos ks x n k) x) (n - pos ks x n k)) (sh (pos ks x n k) x)) ∧ RB w' R b0 ((n - pos ks x n k) - vKat ks x n k) (sh (vKat ks x n k) (sh (pos ks x n k) x)) ∧ Chg [R] W w' by
              obtain ⟨v', h1, h2, h3, h4⟩ := h
              obtain ⟨a', c', h5, _⟩ := h2.len
              subst h5
              refine ⟨a', c', h1, h2, ?_, h4⟩
              rw [hv2, ← Nat.sub_sub]; exact h3))
            have hp : Hid (∀ pa pc, IsVat ks x n k ⟨3, 0, 0, .slice pa (lnV (sh (pos ks x n k) x) (n - pos ks x n k)).toNat pc, (lnV (sh (pos ks x n k) x) (n - pos ks x n k)).toNat, sh (lnK (sh (pos ks x n k) x) (n - pos ks x n k)) (sh (pos ks x n k) x), false⟩) := fun pa pc => by unfold IsVat; rw [hqk]; exact ⟨rfl, rfl, rfl, rfl, fun i hi => rfl, rfl, fun _ h => absurd rfl h⟩
            clear HRB
            generalize (lnV (sh (pos ks x n k) x) (n - pos ks x n k)).toNat = MB at *
            generalize sh (lnK (sh (pos ks x n k) x) (n - pos ks x n k)) (sh (pos ks x n k) x) = XB at *
            clear hv hv2 hc3
            go_wp2_with (go_at_call 19; fail)
            refine (HN.out _ ((Up.refl wr).alloc _)).mono ?_
            rintro e w1 ⟨pa, pc, rfl, o1, r1, c1⟩; have O1 := hid o1; clear o1
            have hbox : Box (wr.alloc (.cells #[.int .i64 3, .int .i64 0, .float .f64 0, .slice none 0 0, .bool false] 35)) wr.heap.size #[.int .i64 3, .int .i64 0, .float .f64 0, .slice none 0 0, .bool false] := heap_new _ _
            have hb1 : Box w1 wr.heap.size #[.int .i64 3, .int .i64 0, .float .f64 0, .slice none 0 0, .bool false] := (c1.block _ hbox.lt (by simp; omega)).trans hbox
            have hs1 : wr.heap.size + 1 ≤ w1.heap.size := by have := c1.size; simp at this; omega
            have hb2 : Box (w1.setCell ⟨wr.heap.size, 3, none⟩ (.slice pa MB pc)) wr.heap.size #[.int .i64 3, .int .i64 0, .float .f64 0, .slice pa MB pc, .bool false] := heap_setCell_same w1 wr.heap.size 3 _ _ (.slice pa MB pc) hb1
            have fz := hb1.free 3
            have zz := hb1.cell 3 _ rfl
            have z0 := hb2.cell 0 _ rfl
            have z1 := hb2.cell 1 _ rfl
            have z2 := hb2.cell 2 _ rfl
            have z3 := hb2.cell 3 _ rfl
            have z4 := hb2.cell 4 _ rfl
            have C1 : Hid (Chg [R] wr w1) := Chg.up ((Up.refl wr).alloc _) c1
            have C2 : Hid (Chg [R] wr (w1.setCell ⟨wr.heap.size, 3, none⟩ (.slice pa MB pc))) := C1.out.new _ _ (by simp)
            have hv2 : (w1.setCell ⟨wr.heap.size, 3, none⟩ (.slice pa MB pc)).heap[bv]? = some (.cells #[v] tv (0, 0)) := (C2.out.block bv (by omega) (by simp; exact fun e => hRv e.symm)).trans HVar.out
            have cv2 := cell_of_one hv2
            have cv2a : ((w1.setCell ⟨wr.heap.size, 3, none⟩ (.slice pa MB pc)).alloc (.cells #[.int .i64 3, .int .i64 0, .float .f64 0, .slice pa MB pc, .bool false] 35)).cell? ⟨bv, 0, none⟩ = some v := ((Up.refl _).alloc _).keep cv2
            have HV2 := hid hv2
            have hw2 : Hid ((w1.setCell ⟨wr.heap.size, 3, none⟩ (.slice pa MB pc)).ownsRow 0 35 5 v k (vl k f)) := World.ownsRow.kept HOwn.out (row := some R) ⟨C2.out.os, C2.out.tape, C2.out.output, C2.out.size, fun i hi' hne => C2.out.block i hi' (by simp; exact fun e => hne (by rw [e]))⟩ (.inr (fun e => by have := HG.out.ob R e; omega))
            have HR2 := hid (r1.chg (Chg.set (S := [wr.heap.size]) w1 ⟨wr.heap.size, 3, none⟩ (.slice pa MB pc) (by simp)) (by simp; omega) (by simp; omega))
            have HIn : Hid (PV.In (w1.setCell ⟨wr.heap.size, 3, none⟩ (.slice pa MB pc)) ⟨3, 0, 0, .slice pa MB pc, MB, XB, false⟩) := by
              refine ⟨by simp, by simp, by simp, ?_⟩
              refine (O1.out.row).chg (Chg.set (S := [wr.heap.size]) w1 ⟨wr.heap.size, 3, none⟩ (.slice pa MB pc) (by simp)) ?_
              right
              intro b hb
              have := (World.ownsRow.lt O1.out.own b hb).1
              simp at this ⊢; omega
            have HFr : Hid (MB = 0 ∨ ∃ g, (Value.slice pa MB pc).ownBlock = some g ∧ wr.heap.size ≤ g) := by
              by_cases hz0 : MB = 0
              · exact .inl hz0
              · obtain ⟨ad, c', e5, h5, h6⟩ := O1.out.len
                cases e5
                right
                cases pa with
                | none => exact absurd (h5 rfl).1 hz0
                | some ad =>
                  refine ⟨ad.block, rfl, ?_⟩
                  have := (h6 ad rfl).2.2.1
                  simp at this; omega
            have hs2 : (w1.setCell ⟨wr.heap.size, 3, none⟩ (.slice pa MB pc)).heap.size = w1.heap.size := by simp
            have hsig : Hid (∀ W : World, W = w1.setCell ⟨wr.heap.size, 3, none⟩ (.slice pa MB pc) → True) := fun _ _ => trivial
            clear hbox hb1 hb2 hv2 r1 c1
            go_wp2_with (at_builtin; refine wpList_append_lies _ rfl (.tmp 39) (.tmp 41) 25 rfl 0 35 i0 _ 5 56 Try.underlying25 hi hz0 hz1 hz2 rfl (by decide) v k (vl k f) (by rfl) (hw2.out.alloc _) ⟨w1.heap.size, 0, none⟩ 1 1 [.int .i64 3, .int .i64 0, .float .f64 0, .slice pa MB pc, .bool false] (by first | rfl | simp) rfl (fun jj uu hj => by have := World.news_of_block (cs := #[.int .i64 3, .int .i64 0, .float .f64 0, .slice pa MB pc, .bool false]) (t := 35) (fr := (0, 0)) (heap_alloc_new (w1.setCell ⟨wr.heap.size, 3, none⟩ (.slice pa MB pc)) _) jj uu hj; simpa using this) (by simp [Value.oneCell']) (by omega) (by unfold maxLen; omega) (by omega) (Nat.zero_le _) (w1.heap.size + 1) (by simp) ?_; intro g cap w3 hown hgr hat hgl3; have hv3 : w3.heap[bv]? = some (.cells #[v] tv (0, 0)) := (hgr.block bv (by have := lt_of_block HV2.out; simp at this ⊢; omega) (fun e => by have := HG.out.ob bv e.symm; omega)).trans ((Below.heap_alloc _ _ _ (lt_of_block HV2.out)).trans HV2.out); have cv3 : w3.cell? ⟨bv, 0, none⟩ = some v := cell_of_one hv3; have fv3 : w3.frozen? ⟨bv, 0, none⟩ = false := free_of_one hv3; have HO3 := hid hown; have HG3 := hid hgr; have HAt := hid hat; clear hv3 hown hgr hat)
            go_roundw
            case rel => exact ⟨k + 1, _, _, hlt, by go_num, GT.step (p := ⟨3, 0, 0, .slice pa MB pc, MB, XB, false⟩) HG.out hRl hbvl hb0 hRv hbb hbR hgR hgv hgb hgl hz hq14 (hp.out pa pc) HIn.out HFr.out HR2.out C2.out HO3.out HG3.out (by rw [hs2]; exact HAt.out)⟩
            case measure => simp [intOf]; omega
        · rw [hqk] at kcr
          have hv : vKat ks x n k = lfK (sh (pos ks x n k) x) (n - pos ks x n k) := by unfold vKat; simp [vK, hqk]
          by_cases hz : vKat ks x n k = 0
          · have HN := hid (fun (W : World) (hW : Up wr W) => rflag_no R b0 (n - pos ks x n k) (sh (pos ks x n k) x) W (HRB.out.up hW) (by rw [← hv]; exact hz))
            try unfold ended at *
            clear HVar HOwn hv
            go_wp2_with (go_at_call 20; refine (HN.out _ ((Up.refl wr).alloc _)).mono ?_; rintro e w1 ⟨rfl, r1, c1⟩; have H1 := hid r1; have C1 := hid c1; clear r1 c1)
            exact ⟨rfl, .inr ⟨rfl, 30, .inr ⟨rfl, k, hlt, hz⟩, H1.out, HG.out.chg.trans ((Chg.up ((Up.refl wr).alloc _) C1.out).mono (by simp))⟩⟩
          · have HN := hid (fun (W : World) (hW : Up wr W) => rflag_ok R b0 (n - pos ks x n k) (sh (pos ks x n k) x) W (HRB.out.up hW) hbR (by rw [← hv]; exact hz))
            rw [← hv] at HN
            have hxx : ∀ i, i < (n - pos ks x n k) → (sh (pos ks x n k) x) i < 256 := by obtain ⟨v, _, hr, _⟩ := HRB.out; exact hr.lt
            have hin0 : Hid (∀ W, PV.In W ⟨4, 0, 0, .slice none 0 0, 0, fun _ => 0, lfV (sh (pos ks x n k) x) (n - pos ks x n k)⟩) := fun W => ⟨by simp, by simp, by simp, .inl ⟨rfl, none, 0, rfl, fun _ => rfl⟩⟩
            have hp : Hid (IsVat ks x n k ⟨4, 0, 0, .slice none 0 0, 0, fun _ => 0, lfV (sh (pos ks x n k) x) (n - pos ks x n k)⟩) := by unfold IsVat; rw [hqk]; exact ⟨rfl, rfl, rfl, rfl, fun i hi => absurd hi (by simp), rfl, fun _ _ => rfl⟩
            clear HRB hxx hv
            generalize lfV (sh (pos ks x n k) x) (n - pos ks x n k) = V at *
            go_wp2_with (go_at_call 20; fail)
            refine (HN.out _ ((Up.refl wr).alloc _)).mono ?_
            rintro e w1 ⟨rfl, r1, c1⟩
            have hbox : Box (wr.alloc (.cells #[.int .i64 4, .int .i64 0, .float .f64 0, .slice none 0 0, .bool false] 35)) wr.heap.size #[.int .i64 4, .int .i64 0, .float .f64 0, .slice none 0 0, .bool false] := heap_new _ _
            have hb1 : Box w1 wr.heap.size #[.int .i64 4, .int .i64 0, .float .f64 0, .slice none 0 0, .bool false] := (c1.block _ hbox.lt (by simp; omega)).trans hbox
            have hs1 : wr.heap.size + 1 ≤ w1.heap.size := by have := c1.size; simp at this; omega
            have hb2 : Box (w1.setCell ⟨wr.heap.size, 4, none⟩ (.bool V)) wr.heap.size #[.int .i64 4, .int .i64 0, .float .f64 0, .slice none 0 0, .bool V] := heap_setCell_same w1 wr.heap.size 4 _ _ (.bool V) hb1
            have fz := hb1.free 4
            have zz := hb1.cell 4 _ rfl
            have z0 := hb2.cell 0 _ rfl
            have z1 := hb2.cell 1 _ rfl
            have z2 := hb2.cell 2 _ rfl
            have z3 := hb2.cell 3 _ rfl
            have z4 := hb2.cell 4 _ rfl
            have C1 : Hid (Chg [R] wr w1) := Chg.up ((Up.refl wr).alloc _) c1
            have C2 : Hid (Chg [R] wr (w1.setCell ⟨wr.heap.size, 4, none⟩ (.bool V))) := C1.out.new _ _ (by simp)
            have hv2 : (w1.setCell ⟨wr.heap.size, 4, none⟩ (.bool V)).heap[bv]? = some (.cells #[v] tv (0, 0)) := (C2.out.block bv (by omega) (by simp; exact fun e => hRv e.symm)).trans HVar.out
            have cv2 := cell_of_one hv2
            have cv2a : ((w1.setCell ⟨wr.heap.size, 4, none⟩ (.bool V)).alloc (.cells #[.int .i64 4, .int .i64 0, .float .f64 0, .slice none 0 0, .bool V] 35)).cell? ⟨bv, 0, none⟩ = some v := ((Up.refl _).alloc _).keep cv2
            have HV2 := hid hv2
            have hw2 : Hid ((w1.setCell ⟨wr.heap.size, 4, none⟩ (.bool V)).ownsRow 0 35 5 v k (vl k f)) := World.ownsRow.kept HOwn.out (row := some R) ⟨C2.out.os, C2.out.tape, C2.out.output, C2.out.size, fun i hi' hne => C2.out.block i hi' (by simp; exact fun e => hne (by rw [e]))⟩ (.inr (fun e => by have := HG.out.ob R e; omega))
            have HR2 := hid (r1.chg (Chg.set (S := [wr.heap.size]) w1 ⟨wr.heap.size, 4, none⟩ (.bool V) (by simp)) (by simp; omega) (by simp; omega))
            have HIn := hid (hin0.out (w1.setCell ⟨wr.heap.size, 4, none⟩ (.bool V)))
            have hs2 : (w1.setCell ⟨wr.heap.size, 4, none⟩ (.bool V)).heap.size = w1.heap.size := by simp
            have hsig : Hid (∀ W : World, W = w1.setCell ⟨wr.heap.size, 4, none⟩ (.bool V) → True) := fun _ _ => trivial
            clear hbox hb1 hb2 hv2 r1 c1
            go_wp2_with (at_builtin; refine wpList_append_lies _ rfl (.tmp 39) (.tmp 41) 25 rfl 0 35 i0 _ 5 56 Try.underlying25 hi hz0 hz1 hz2 rfl (by decide) v k (vl k f) (by rfl) (hw2.out.alloc _) ⟨w1.heap.size, 0, none⟩ 1 1 [.int .i64 4, .int .i64 0, .float .f64 0, .slice none 0 0, .bool V] (by first | rfl | simp) rfl (fun jj uu hj => by have := World.news_of_block (cs := #[.int .i64 4, .int .i64 0, .float .f64 0, .slice none 0 0, .bool V]) (t := 35) (fr := (0, 0)) (heap_alloc_new (w1.setCell ⟨wr.heap.size, 4, none⟩ (.bool V)) _) jj uu hj; simpa using this) (by simp [Value.oneCell']) (by omega) (by unfold maxLen; omega) (by omega) (Nat.zero_le _) (w1.heap.size + 1) (by simp) ?_; intro g cap w3 hown hgr hat hgl3; have hv3 : w3.heap[bv]? = some (.cells #[v] tv (0, 0)) := (hgr.block bv (by have := lt_of_block HV2.out; simp at this ⊢; omega) (fun e => by have := HG.out.ob bv e.symm; omega)).trans ((Below.heap_alloc _ _ _ (lt_of_block HV2.out)).trans HV2.out); have cv3 : w3.cell? ⟨bv, 0, none⟩ = some v := cell_of_one hv3; have fv3 : w3.frozen? ⟨bv, 0, none⟩ = false := free_of_one hv3; have HO3 := hid hown; have HG3 := hid hgr; have HAt := hid hat; clear hv3 hown hgr hat)
            go_roundw
            case rel => exact ⟨k + 1, _, _, hlt, by go_num, GT.step (p := ⟨4, 0, 0, .slice none 0 0, 0, fun _ => 0, V⟩) HG.out hRl hbvl hb0 hRv hbb hbR hgR hgv hgb hgl hz hq14 hp.out HIn.out (.inl rfl) HR2.out C2.out HO3.out HG3.out (by rw [hs2]; exact HAt.out)⟩
            case measure => simp [intOf]; omega
    · obtain rfl : m = k := by omega
      have hce : wr.heap[be]? = some (.cells #[.bool false] te (0, 0)) := (HG.out.chg.block be hbel (by simp; exact ⟨heR, hebv, heg⟩)).trans HEV.out
      have ce := cell_of_one hce
      have fe := free_of_one hce
      clear HKA HNE
      go_wp2
      go_end0
      exact .inl ⟨rfl, _, _, wr, HG.out, rfl⟩
end Go.Proofs.Ytpofccnifecpfaa
