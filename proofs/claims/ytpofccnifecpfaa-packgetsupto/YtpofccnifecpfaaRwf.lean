/- What the function that Get hands to Read does at any row of kinds: the values that are there, or the Reader's own end; conditions: the rows and the variables lie in memory, at most 4194304 kinds. -/
import Derived.Test.YtpofccnifecpfaaRvf
import Derived.Test.YtpofccnifecpfaaVk
import Derived.Test.YtpofccnifecpfaaGa
import Derived.Deep.AppendLies
import Derived.Deep.RegionLaw
import Derived.Deep.RegionHeld3
namespace Go.Proofs.Ytpofccnifecpfaa
open Go.RowKit
set_option linter.unusedVariables false
/-- A call of a Go function of two arguments that ends by a panic, as one step of a region that draws. -/
theorem step_end2 {P : Program} {ops : Array Oper} {o : Oper} {a : Act} {w : World} {K : Act → World → Prop} {Q : Exit → Act → World → Prop} {E : Prop} (hg : o.guard = none) (F : FuncId) (s x : Operand) (ts : Array TypeId)
    (hop : o.op = Op.call { callee := Callee.value (Operand.func F), args := #[s, x], argTypes := ts }) (u v : Value) (hs : a.eval s = u) (hx : a.eval x = v) (hF : a.eval (Operand.func F) = .func (.func F) #[] #[])
    (henter : (callFunc F #[u, v]).run P w = .ok (.enter F #[u, v]) w)
    (hc : Calls P F #[u, v] w fun e w' => ∃ c, e = .panicked c ∧ Q (.panic c) a w') :
    if Region.wanted o (yielded ops a.tmps) = true then Oper.wp P o a w K Q else E := by
  have hw : Region.wanted o (yielded ops a.tmps) = true := by simp [Region.wanted, hg]
  rw [if_pos hw]
  unfold Oper.wp
  simp [execOp, hop, resolve, invoke, hs, hx, hF, Deferred.ofValue]
  rw [henter]
  refine hc.mono ?_
  rintro e w' ⟨r, rfl, hk⟩
  exact hk
/-- Where the k-th value begins. -/
def pos (ks : Nat → Int) (x : Nat → Nat) (n : Nat) : Nat → Nat | 0 => 0 | k + 1 => pos ks x n k + vK (ks k) (sh (pos ks x n k) x) (n - pos ks x n k)
theorem pos_le (ks : Nat → Int) (x : Nat → Nat) (n : Nat) : ∀ k, pos ks x n k ≤ n
  | 0 => Nat.zero_le _
  | k + 1 => by
    have h1 := pos_le ks x n k
    have h2 := vK_le (ks k) (sh (pos ks x n k) x) (n - pos ks x n k)
    show pos ks x n k + _ ≤ n
    omega
/-- What the k-th value has. -/
def vKat (ks : Nat → Int) (x : Nat → Nat) (n k : Nat) : Nat := vK (ks k) (sh (pos ks x n k) x) (n - pos ks x n k)
def IsVat (ks : Nat → Int) (x : Nat → Nat) (n k : Nat) (p : PV) : Prop := IsV (ks k) (sh (pos ks x n k) x) (n - pos ks x n k) p
/-- Values k of which were read, in the row v that the variable bv holds. -/
structure GS (w0 : World) (R bv b0 n : Nat) (x : Nat → Nat) (ks : Nat → Int) (tv : TypeId) (k : Nat) (v : Value) (f : Nat → PV) (wr : World) : Prop where
  rb : RB wr R b0 (n - pos ks x n k) (sh (pos ks x n k) x)
  var : wr.heap[bv]? = some (.cells #[v] tv (0, 0))
  own : OwnV w0.heap.size wr v k f
  each : ∀ j, j < k → vKat ks x n j ≠ 0 ∧ IsVat ks x n j (f j) ∧ PVF wr (f j) ∧ ((f j).bn = 0 ∨ ∃ g, (f j).b.ownBlock = some g ∧ w0.heap.size ≤ g ∧ v.ownBlock ≠ some g)
  chg : Chg [R, bv] w0 wr
theorem PV.In.chg {S : List Nat} {w w' : World} {p : PV} (h : PV.In w p) (c : Chg S w w') (hb : p.bn = 0 ∨ ∀ b, p.b.ownBlock = some b → b ∉ S) : PV.In w' p := ⟨h.kin, h.nin, h.xin, h.row.chg c hb⟩
theorem PV.In.blk {w : World} {p : PV} (h : PV.In w p) (hn : p.bn ≠ 0) (g : Nat) (hg : p.b.ownBlock = some g) : g < w.heap.size := by
  obtain ⟨b, off, cap, hv, hc, _⟩ := h.row.cells (by omega)
  rw [hv] at hg
  have := World.block_lt_of_cell? w _ (hc 0 (by omega)).2
  simp [Value.ownBlock] at hg this
  omega
theorem PVF.blk {w : World} {p : PV} (h : PVF w p) (hn : p.bn ≠ 0) (g : Nat) (hg : p.b.ownBlock = some g) : g < w.heap.size := h.inn.blk hn g hg
theorem PVF.chg {S : List Nat} {w w' : World} {p : PV} (h : PVF w p) (c : Chg S w w') (hb : p.bn = 0 ∨ ∀ b, p.b.ownBlock = some b → b ∉ S) : PVF w' p := by
  refine ⟨h.inn.chg c hb, ?_⟩
  by_cases hz : p.bn = 0
  · exact .inl hz
  · right
    intro g hg j
    rw [World.frozen?_of_block (w := w) (c.block g (h.blk hz g hg) (by rcases hb with e | e; exact absurd e hz; exact e g hg))]
    rcases h.fz with e | e
    · exact absurd e hz
    · exact e g hg j
theorem vl_one1 (p : PV) : vl 1 (fun _ => p) = [.int .i64 p.k, .int .i64 p.n, .float .f64 p.x, p.b, .bool p.on] := rfl
theorem GS.step {w0 : World} {R bv b0 n : Nat} {x : Nat → Nat} {ks : Nat → Int} {tv : TypeId} {k : Nat} {v : Value} {f : Nat → PV} {wr w1 w3 : World} {p : PV} {g cap : Nat} {o : Obj}
    (G : GS w0 R bv b0 n x ks tv k v f wr) (hR : R < w0.heap.size) (hbv : bv < w0.heap.size) (hb0 : b0 < w0.heap.size) (hRv : R ≠ bv) (hbb : b0 ≠ bv) (hbR : b0 ≠ R)
    (hz : vKat ks x n k ≠ 0) (hp : IsVat ks x n k p) (hin : PVF w1 p) (hfr : p.bn = 0 ∨ ∃ g, p.b.ownBlock = some g ∧ wr.heap.size ≤ g)
    (hrb : RB w1 R b0 (n - pos ks x n k - vKat ks x n k) (sh (vKat ks x n k) (sh (pos ks x n k) x))) (hc : Chg [R] wr w1)
    (hown : w3.ownsRow w0.heap.size 35 5 (.slice (some ⟨g, 0, none⟩) (k + 1) cap) (k + 1) (vl k f ++ [.int .i64 p.k, .int .i64 p.n, .float .f64 p.x, p.b, .bool p.on]))
    (hgr : (w1.alloc o).grownBy w3 v.ownBlock) (hat : v.ownBlock = some g ∨ g = w1.heap.size + 1) :
    GS w0 R bv b0 n x ks tv (k + 1) (.slice (some ⟨g, 0, none⟩) (k + 1) cap) (catP k f (fun _ => p)) (w3.setCell ⟨bv, 0, none⟩ (.slice (some ⟨g, 0, none⟩) (k + 1) cap)) := by
  have s0 := G.chg.size
  have s1 := hc.size
  have ownlt : ∀ b, v.ownBlock = some b → w0.heap.size ≤ b ∧ b < wr.heap.size := fun b hb => World.ownsRow.lt G.own b hb
  have hg0 : w0.heap.size ≤ g := by
    rcases hat with h | h
    · exact (ownlt g h).1
    · omega
  have hg1 : v.ownBlock = some g ∨ w1.heap.size ≤ g := by rcases hat with h | h; exact .inl h; exact .inr (by omega)
  let T : List Nat := match v.ownBlock with | some b => [b] | none => []
  have hT : ∀ b, b ∈ T ↔ v.ownBlock = some b := by
    intro b
    show b ∈ (match v.ownBlock with | some b => [b] | none => []) ↔ _
    cases v.ownBlock with
    | none => simp
    | some c => simp; exact eq_comm
  have c3 : Chg T w1 w3 := by
    refine ⟨hgr.os, hgr.tape, hgr.output, ?_, fun i hi hn => ?_⟩
    · have := hgr.size; simp at this; omega
    · exact (hgr.block i (by simp; omega) (fun e => hn ((hT i).2 e.symm))).trans (Below.heap_alloc _ _ _ hi)
  have c4 : Chg (bv :: T) w1 (w3.setCell ⟨bv, 0, none⟩ (.slice (some ⟨g, 0, none⟩) (k + 1) cap)) := (c3.mono (fun i hi => by simp [hi])).trans (Chg.set _ _ _ (by simp))
  have cR : Chg (R :: bv :: T) wr (w3.setCell ⟨bv, 0, none⟩ (.slice (some ⟨g, 0, none⟩) (k + 1) cap)) := (hc.mono (fun i hi => by simp at hi; simp [hi])).trans (c4.mono (fun i hi => by simp at hi ⊢; right; exact hi))
  have notT : ∀ i, i < w0.heap.size → i ∉ T := fun i hi h => by have := (ownlt i ((hT i).1 h)).1; omega
  have hv1 : w3.heap[bv]? = some (.cells #[v] tv (0, 0)) := (c3.block bv (by omega) (notT bv hbv)).trans ((hc.block bv (by omega) (by simp; exact fun e => hRv e.symm)).trans G.var)
  have epos : pos ks x n (k + 1) = pos ks x n k + vKat ks x n k := rfl
  refine ⟨?_, one_setCell hv1, ?_, ?_, ?_⟩
  · rw [epos, show n - (pos ks x n k + vKat ks x n k) = n - pos ks x n k - vKat ks x n k by omega, ← sh_sh]
    exact hrb.chg c4 (by simp; exact ⟨hRv, notT R hR⟩) (by simp; exact ⟨hbb, notT b0 hb0⟩)
  · unfold OwnV
    rw [← vl_cat, vl_one1]
    exact ownsRow_setCell_other hown (by simp [Value.ownBlock]; omega) _
  · intro j hj
    by_cases hjk : j < k
    · obtain ⟨e1, e2, e3, e4⟩ := G.each j hjk
      rw [show catP k f (fun _ => p) j = f j by simp [catP, hjk]]
      refine ⟨e1, e2, ?_, ?_⟩
      · refine e3.chg cR ?_
        rcases e4 with h | ⟨gj, h1, h2, h3⟩
        · exact .inl h
        · right
          intro b hb
          rw [h1] at hb; cases hb
          simp
          refine ⟨by omega, by omega, fun h => h3 ((hT gj).1 h)⟩
      · rcases e4 with h | ⟨gj, h1, h2, h3⟩
        · exact .inl h
        · by_cases hz0 : (f j).bn = 0
          · exact .inl hz0
          · right
            refine ⟨gj, h1, h2, ?_⟩
            have := e3.blk hz0 gj h1
            simp [Value.ownBlock]
            rcases hg1 with h | h
            · intro e; subst e; exact h3 h
            · omega
    · obtain rfl : j = k := by omega
      rw [show catP j f (fun _ => p) j = p by simp [catP]]
      refine ⟨hz, hp, ?_, ?_⟩
      · refine hin.chg c4 ?_
        rcases hfr with h | ⟨gp, h1, h2⟩
        · exact .inl h
        · right
          intro b hb
          rw [h1] at hb; cases hb
          simp
          refine ⟨by omega, fun h => by have := (ownlt gp ((hT gp).1 h)).2; omega⟩
      · rcases hfr with h | ⟨gp, h1, h2⟩
        · exact .inl h
        · by_cases hz0 : p.bn = 0
          · exact .inl hz0
          · right
            refine ⟨gp, h1, by omega, ?_⟩
            have := hin.blk hz0 gp h1
            simp [Value.ownBlock]
            rcases hg1 with h | h
            · have := (ownlt g h).2; omega
            · omega
  · exact ⟨cR.os.trans G.chg.os, cR.tape.trans G.chg.tape, cR.output.trans G.chg.output, Nat.le_trans s0 cR.size, fun i hi hn => (cR.block i (by omega) (by simp at hn ⊢; exact ⟨hn.1, hn.2, notT i hi⟩)).trans (G.chg.block i hi hn)⟩
/-- A row of kinds, n of them, in blocks that are neither R nor bv. -/
def KAt (w : World) (ka : Option Addr) (m : Nat) (ks : Nat → Int) : Prop := ∀ i, i < m → ∃ b off, ka = some ⟨b, off, none⟩ ∧ w.cell? ⟨b, off + i, none⟩ = some (.int .i64 (ks i))
theorem enter_val (args : Array Value) (w : World) : (callFunc 28 args).run Try.prog w = .ok (.enter 28 args) w := by kernel_rfl
theorem enter_get1 (args : Array Value) (w : World) : (callFunc 27 args).run Try.prog w = .ok (.enter 27 args) w := by kernel_rfl
set_option maxHeartbeats 4000000 in
theorem get1_any (R bk bv b0 n m kc : Nat) (ka : Option Addr) (tk tv : TypeId) (x : Nat → Nat) (ks : Nat → Int) (w : World) (h : RB w R b0 n x) (hm : m ≤ 4194304) (hkr : ∀ i, i < m → 1 ≤ ks i ∧ ks i ≤ 4)
    (hkv : w.heap[bk]? = some (.cells #[.slice ka m kc] tk (0, 0))) (hka : KAt w ka m ks) (hne : ∀ b off, 0 < m → ka = some ⟨b, off, none⟩ → b ≠ R ∧ b ≠ bv) (hvv : w.heap[bv]? = some (.cells #[.slice none 0 0] tv (0, 0))) (hRv : R ≠ bv) (hbR : b0 ≠ R) (hbb : b0 ≠ bv) (hb0 : b0 < w.heap.size) :
    Calls Try.prog 27 #[.pointer (some ⟨R, 0, none⟩), .pointer (some ⟨bk, 0, none⟩), .pointer (some ⟨bv, 0, none⟩)] w fun e w' => (e = .returned (.tuple #[]) ∧ ∃ v f, GS w R bv b0 n x ks tv m v f w') ∨ (e = .panicked (ended R) ∧ (∃ i, i < m ∧ vKat ks x n i = 0) ∧ RF w' R 30 ∧ Chg [R, bv] w w') := by
  obtain ⟨i0, hi, hz0, hz1, hz2⟩ := info_parts infoVal
  have hRl := h.lt
  have hbvl := lt_of_block hvv
  have ck : w.cell? ⟨bk, 0, none⟩ = some (.slice ka m kc) := cell_of_one hkv
  have G0 : Hid (GS w R bv b0 n x ks tv 0 (.slice none 0 0) (fun _ => ⟨0, 0, 0, .slice none 0 0, 0, fun _ => 0, false⟩) w) := ⟨by simpa [pos] using (show RB w R b0 (n - 0) (sh 0 x) by rw [show sh 0 x = x by funext i; simp [sh]]; exact h), hvv, World.ownsRow_nil _ _ _ _, fun j hj => by omega, Chg.refl _ _⟩
  have HKA := hid hka
  have HKR := hid hkr
  have HNE := hid hne
  clear h hkv hka hkr hne hvv
  go_enter Try.func27, Try.ntmps27
  go_wp2
  go_loopw [8] (fun i wr => ∃ (k : Nat) (v : Value) (f : Nat → PV), k ≤ m ∧ i = .int .i64 (k : Nat) ∧ GS w R bv b0 n x ks tv k v f wr) (fun i _ => m - (intOf i).toNat)
  case atStart => exact ⟨0, _, _, Nat.zero_le _, rfl, G0.out⟩
  case round =>
    obtain ⟨k, v, f, hk, rfl, G⟩ := hrel
    have HG := hid G
    clear G
    by_cases hlt : k < m
    · obtain ⟨kb, ko, rfl, kcell⟩ := HKA.out k hlt
      have hne := HNE.out kb ko (by omega) rfl
      have kcr := HG.out.chg.cell kcell (by simp; exact hne)
      have cv := cell_of_one HG.out.var
      have sz := HG.out.chg.size
      by_cases hz : vKat ks x n k = 0
      · have HV := hid (fun (W : World) (hW : W = wr.drew) => (val_any (ks k) (HKR.out k hlt) R b0 (n - pos ks x n k) (sh (pos ks x n k) x) W (by rw [hW]; exact HG.out.rb.up ((Up.refl wr).drew)) hbR (by rw [hW]; exact Nat.lt_of_lt_of_le hb0 sz)).mono (fun e w' (h : _ ∨ _) => (show ∃ c, e = .panicked c ∧ (c = ended R ∧ RF w' R 30 ∧ Chg [R] W w') by rcases h with ⟨h1, _⟩ | ⟨_, h2, h3, h4⟩; exact absurd hz h1; exact ⟨_, h2, rfl, h3, h4⟩)))
        clear HKR HNE HKA kcell
        generalize ks k = q at *
        go_wp2
        refine wp_region_held_drew (S := fun _ => True) (by kernel_rfl) trivial (fun hHeld => ?_)
        (try simp only [Act.put]); (try simp only [List.setIfInBounds_toArray]); (try simp only [List.set_cons_succ]); (try simp only [List.set_cons_zero])
        clear hHeld
        refine wpAnyH_take (i := 1) (oi := { dst := some 13, op := Op.move (Operand.tmp 0), type := 41, pos := "pack.go:97", after := #[], guard := none }) (v := ?vk1) rfl (by kernel_rfl) (by kernel_rfl) (by kernel_rfl) (fun _ _ _ h => h) (Or.inl ⟨by rfl, ?hk1⟩) trivial ?rk1
        case hk1 => (intro wz hSw; (try dsimp only at hSw); go_simp; try with_reducible rfl)
        (try simp only [Act.put]); (try simp only [List.setIfInBounds_toArray]); (try simp only [List.set_cons_succ]); (try simp only [List.set_cons_zero])
        refine wpAnyH_take (i := 2) (oi := { dst := some 14, op := Op.move (Operand.tmp 5), type := 3, pos := "pack.go:97", after := #[], guard := none }) (v := ?vk2) rfl (by kernel_rfl) (by kernel_rfl) (by kernel_rfl) (fun _ _ _ h => h) (Or.inl ⟨by rfl, ?hk2⟩) trivial ?rk2
        case hk2 => (intro wz hSw; (try dsimp only at hSw); go_simp; try with_reducible rfl)
        (try simp only [Act.put]); (try simp only [List.setIfInBounds_toArray]); (try simp only [List.set_cons_succ]); (try simp only [List.set_cons_zero])
        refine wpAnyH_ready (rs := [0, 3]) (by kernel_rfl) (by simp) ?_
        refine AllReadyH.cons (o := { dst := some 12, op := Op.load 25 (Operand.tmp 2), type := 25, pos := "pack.go:97", after := #[], guard := none }) rfl (fun K hK => ?_) (AllReadyH.cons (o := { dst := some 15, op := Op.call { callee := Callee.value (Operand.func 28), args := #[Operand.tmp 13, Operand.tmp 14], argTypes := #[41, 3] }, type := 35, pos := "pack.go:97", after := #[{ on := 1, ground := Ground.data }, { on := 2, ground := Ground.data }], guard := none }) rfl (fun K hK => ?_) AllReadyH.nil)
        · go_simp
          refine hK.out _ _ trivial (fun _ => ?_)
          clear hK K
          (try simp only [Act.put]); (try simp only [List.setIfInBounds_toArray]); (try simp only [List.set_cons_succ]); (try simp only [List.set_cons_zero])
          refine wpAnyH_ready (rs := [3]) (by kernel_rfl) (by simp) ?_
          refine AllReadyH.cons (o := { dst := some 15, op := Op.call { callee := Callee.value (Operand.func 28), args := #[Operand.tmp 13, Operand.tmp 14], argTypes := #[41, 3] }, type := 35, pos := "pack.go:97", after := #[{ on := 1, ground := Ground.data }, { on := 2, ground := Ground.data }], guard := none }) rfl (fun K hK => ?_) AllReadyH.nil
          refine step_end2 rfl 28 (.tmp 13) (.tmp 14) _ rfl (.pointer (some ⟨R, 0, none⟩)) (.int .i64 q) (by rfl) (by rfl) (by rfl) (enter_val _ _) ?_
          refine (HV.out _ rfl).mono ?_
          rintro e w1 ⟨c, rfl, rfl, r1, c1⟩
          refine ⟨_, rfl, ?_⟩
          exact ⟨rfl, .inr ⟨rfl, ⟨k, hlt, hz⟩, r1, HG.out.chg.trans ((Chg.up ((Up.refl wr).drew) c1).mono (by simp))⟩⟩
        · refine step_end2 rfl 28 (.tmp 13) (.tmp 14) _ rfl (.pointer (some ⟨R, 0, none⟩)) (.int .i64 q) (by rfl) (by rfl) (by rfl) (enter_val _ _) ?_
          refine (HV.out _ rfl).mono ?_
          rintro e w1 ⟨c, rfl, rfl, r1, c1⟩
          refine ⟨_, rfl, ?_⟩
          exact ⟨rfl, .inr ⟨rfl, ⟨k, hlt, hz⟩, r1, HG.out.chg.trans ((Chg.up ((Up.refl wr).drew) c1).mono (by simp))⟩⟩

      · have HV := hid (fun (W : World) (hW : W = wr.drew) => (val_any (ks k) (HKR.out k hlt) R b0 (n - pos ks x n k) (sh (pos ks x n k) x) W (by rw [hW]; exact HG.out.rb.up ((Up.refl wr).drew)) hbR (by rw [hW]; exact Nat.lt_of_lt_of_le hb0 sz)).mono (fun e w' (h : _ ∨ _) => (show ∃ (p : PV) (pa : Option Addr) (pc : Nat), e = .returned (.agg #[.int .i64 p.k, .int .i64 p.n, .float .f64 p.x, .slice pa p.bn pc, .bool p.on]) ∧ p.b = .slice pa p.bn pc ∧ IsVat ks x n k p ∧ PVF w' p ∧ (p.bn = 0 ∨ ∃ g, p.b.ownBlock = some g ∧ W.heap.size ≤ g) ∧ RB w' R b0 (n - pos ks x n k - vKat ks x n k) (sh (vKat ks x n k) (sh (pos ks x n k) x)) ∧ Chg [R] W w' by
          rcases h with ⟨_, p, h1, h2, h3, h4, h5, h6⟩ | ⟨h1, _⟩
          · obtain ⟨pa, pc, hpb⟩ := PV.slice h3.inn
            exact ⟨p, pa, pc, by rw [h1]; unfold PV.agg; rw [hpb], hpb, h2, h3, h4, h5, h6⟩
          · exact absurd h1 hz)))
        have hq : Hid (ks k = ks k) := rfl
        clear HKR HNE HKA kcell
        generalize hqk : ks k = q at kcr HV
        clear hq hqk
        have hl4 : k < 4194304 := by omega
        go_wp2
        go_region_law (first | (refine step_call rfl 28 (.tmp 13) (.tmp 14) _ rfl (.pointer (some ⟨R, 0, none⟩)) (.int .i64 q) (by rfl) (by rfl) (by rfl) (enter_val _ _) ?_; refine (HV.out _ rfl).mono ?_; rintro e w1 ⟨p, pa, pc, rfl, hpb, hp, hin, hfr, hrb, hc⟩; refine ⟨_, rfl, ?_⟩; have hs1 := hc.size; have hv1 : w1.heap[bv]? = some (.cells #[v] tv (0, 0)) := (hc.block bv (by simp; omega) (by simp; omega)).trans HG.out.var; have cv1 : w1.cell? ⟨bv, 0, none⟩ = some v := cell_of_one hv1; have cv1a : (w1.alloc (.cells #[.int .i64 p.k, .int .i64 p.n, .float .f64 p.x, .slice pa p.bn pc, .bool p.on] 35)).cell? ⟨bv, 0, none⟩ = some v := ((Up.refl w1).alloc _).keep cv1; have hw1 : w1.ownsRow w.heap.size 35 5 v k (vl k f) := World.ownsRow.kept HG.out.own (row := some R) ⟨hc.os, hc.tape, hc.output, hc.size, fun i hi' hne => hc.block i hi' (by simp; exact fun e => hne (by rw [e]))⟩ (.inr (fun e => by have := (World.ownsRow.lt HG.out.own R e).1; omega)); have HV1 := hid hv1; have HRb := hid hrb; have HC1 := hid hc; have HIn := hid hin; have HFr := hid hfr; have HP := hid hp; have HPb := hid hpb; have HW1 := hid hw1; clear hrb hc hv1 hin hfr hp hpb hw1) | (refine step_append_lies _ rfl (.tmp 12) (.tmp 16) 25 rfl w.heap.size 35 i0 _ 5 56 Try.underlying25 hi hz0 hz1 hz2 rfl (by decide) v k (vl k f) (by rfl) (HW1.out.alloc _) ⟨w1.heap.size, 0, none⟩ 1 1 [.int .i64 p.k, .int .i64 p.n, .float .f64 p.x, .slice pa p.bn pc, .bool p.on] (by rfl) rfl (World.news_of_block (cs := #[.int .i64 p.k, .int .i64 p.n, .float .f64 p.x, .slice pa p.bn pc, .bool p.on]) (t := 35) (fr := (0, 0)) (heap_alloc_new w1 _)) (by simp [Value.oneCell']) (by omega) (by unfold maxLen; omega) (by omega) (by simp at *; omega) (w1.heap.size + 1) (by simp) ?_; intro g cap w3 hown hgr hat hgl; have hv3 : w3.heap[bv]? = some (.cells #[v] tv (0, 0)) := (hgr.block bv (by have := lt_of_block HV1.out; simp; omega) (fun e => by have := (World.ownsRow.lt HW1.out bv e.symm).1; omega)).trans ((Below.heap_alloc _ _ _ (lt_of_block HV1.out)).trans HV1.out); have cv3 : w3.cell? ⟨bv, 0, none⟩ = some v := cell_of_one hv3; have fv3 : w3.frozen? ⟨bv, 0, none⟩ = false := free_of_one hv3; have HV3 := hid hv3; have HO3 := hid hown; have HG3 := hid hgr; have HAt := hid hat; clear hv3 hown hgr hat))
        all_goals go_wp2
        all_goals go_roundw
        all_goals first
          | exact ⟨k + 1, _, _, hlt, by go_num, GS.step HG.out hRl hbvl hb0 hRv hbb hbR hz HP.out HIn.out HFr.out HRb.out (Chg.up ((Up.refl wr).drew) HC1.out) (by rw [HPb.out]; exact HO3.out) HG3.out HAt.out⟩
          | (simp [intOf]; omega)
    · obtain rfl : k = m := by omega
      go_wp2
      go_end0
      exact .inl ⟨rfl, _, _, HG.out⟩
end Go.Proofs.Ytpofccnifecpfaa
