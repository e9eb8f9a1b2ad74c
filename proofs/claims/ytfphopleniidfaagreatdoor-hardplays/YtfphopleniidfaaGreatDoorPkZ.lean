/- What a Reader's val does at each kind: the value that is there, or the Reader's own end; conditions: the Reader lies in memory, alive. -/
import Derived.Test.YtfphopleniidfaaGreatDoorPkY
import Derived.Deep.AppendLies
import Derived.Deep.RegionLaw
import Derived.Deep.RegionHeld3
import Derived.Deep.MidRow
import Derived.Deep.Cut
namespace Go.Proofs.YtfphopleniidfaaGreatDoor.Pk
set_option maxRecDepth 20000
open Go.RowKit
set_option linter.unusedVariables false
attribute [local go_sem] run_store_float
theorem ByRow.slice {w : World} {v : Value} {n : Nat} {x : Nat → Nat} (hv : ByRow w v n x) : ∃ a c, v = .slice a n c := by
  rcases hv with ⟨rfl, a, c, rfl, _⟩ | ⟨_, _, b, off, cap, rfl, _⟩
  · exact ⟨a, c, rfl⟩
  · exact ⟨_, _, rfl⟩
theorem Chg.up {S : List Nat} {a b c : World} (u : Up a b) (h : Chg S b c) : Chg S a c :=
  ⟨h.os.trans u.os, h.tape.trans u.tape, h.output.trans u.output, Nat.le_trans (Below.size u) h.size, fun k hk hn => (h.block k (Nat.lt_of_lt_of_le hk (Below.size u)) hn).trans (u.block k hk)⟩
theorem Chg.ofUp {a b : World} (u : Up a b) (S : List Nat) : Chg S a b := ⟨u.os, u.tape, u.output, u.size, fun k hk _ => u.block k hk⟩
theorem RB.up {w w' : World} {R b0 n : Nat} {x : Nat → Nat} (h : RB w R b0 n x) (u : Up w w') : RB w' R b0 n x := h.chg (Chg.ofUp u []) (by simp) (by simp)
/-- A value whose bytes may be written. -/
structure PVF (w : World) (p : PV) : Prop where
  inn : PV.In w p
  fz : p.bn = 0 ∨ ∀ g, p.b.ownBlock = some g → ∀ j, w.frozen? ⟨g, j, none⟩ = false
/-- How many bytes a value of a kind has; 0: there is none. -/
def vK (q : Int) (x : Nat → Nat) (n : Nat) : Nat := if q = 1 then lnK x n else if q = 2 then lkK x n else if q = 3 then lbK x n else lfK x n
theorem vK_le (q : Int) (x : Nat → Nat) (n : Nat) : vK q x n ≤ n := by
  unfold vK
  split
  · exact ln_le x n 11 0
  · split
    · exact lkK_le x n
    · split
      · exact lbK_le x n
      · exact lfK_le x n
/-- A value as it is read. -/
structure IsV (q : Int) (x : Nat → Nat) (n : Nat) (p : PV) : Prop where
  ek : p.k = q
  en : p.n = if q = 1 then lnV x n else 0
  ex : p.x = if q = 2 then lkV x n else 0
  ebn : p.bn = if q = 3 then (lnV x n).toNat else 0
  ebx : ∀ i, i < p.bn → p.bx i = x (lnK x n + i)
  eon : p.on = if q = 4 then lfV x n else false
  efr : p.bn = 0 → q ≠ 3 → p.b = .slice none 0 0
theorem lnV_in (x : Nat → Nat) (n : Nat) (hx : ∀ i, i < n → x i < 256) : -9223372036854775808 ≤ lnV x n ∧ lnV x n ≤ 9223372036854775807 := by
  have go : ∀ f k, k + f = 11 → -9223372036854775808 ≤ (ln x n f k).1 ∧ (ln x n f k).1 ≤ 9223372036854775807 := by
    intro f
    induction f with
    | zero => intro k _; unfold ln; exact ⟨by decide, by decide⟩
    | succ f ih =>
      intro k hk
      unfold ln
      split
      · split
        · exact ih (k + 1) (by omega)
        · split
          · exact ⟨by decide, by decide⟩
          · next h1 h2 h3 =>
            apply unf_in
            have ha := acc_lt x k
            show acc x k + x k % 128 * 128 ^ k < _
            by_cases h9 : k = 9
            · subst h9
              have : x 9 % 128 ≤ 1 := by omega
              have e : (128 : Nat) ^ 9 = 9223372036854775808 := by decide
              rw [e] at *
              have : x 9 % 128 * 9223372036854775808 ≤ 1 * 9223372036854775808 := Nat.mul_le_mul_right _ this
              omega
            · have hp : (128 : Nat) ^ (k + 1) ≤ 128 ^ 9 := Nat.pow_le_pow_right (by omega) (by omega)
              have e : (128 : Nat) ^ 9 = 9223372036854775808 := by decide
              have := acc_lt x (k + 1)
              have e2 : acc x (k + 1) = acc x k + x k % 128 * 128 ^ k := rfl
              omega
      · exact ⟨by decide, by decide⟩
  exact go 11 0 rfl
theorem lkV_lt (x : Nat → Nat) (n : Nat) (hx : ∀ i, i < n → x i < 256) : lkV x n < 18446744073709551616 := by
  unfold lkV
  split
  · next h => exact Fl.of_lt _ (Nat.lt_of_lt_of_le (lkC_lt x n hx 8 h.1) (by decide))
  · decide
end Go.Proofs.YtfphopleniidfaaGreatDoor.Pk
namespace Go.Proofs.YtfphopleniidfaaGreatDoor.Pk
set_option maxRecDepth 20000
open Go.RowKit
set_option linter.unusedVariables false
/-- A call of a Go function of two arguments that ends by a panic, as one step of a region that draws. -/
theorem step_end2 {P : Program} {ops : Array Oper} {o : Oper} {a : Act} {w : World} {K : Act → World → Prop} {Q : Exit → Act → World → Prop} {E : Prop} (hg : o.guard = none) (F : FuncId) (s x : Operand) (ts : Array TypeId)
    (hop : o.op = Op.call { callee := Callee.value (Operand.func F), args := #[s, x], argTypes := ts }) (u v : Value) (hs : a.eval s = u) (hx : a.eval x = v) (hF : a.eval (Operand.func F) = .func (.func F) #[] #[])
    (henter : (callFunc F #[u, v]).run P w = .ok (.enter F #[u, v]) w)
    (hc : Calls P F #[u, v] w fun e w' => ∃ c, e = .panicked c ∧ Q (.panic c) a w') :
    if Region.wanted o (yielded ops a.tmps) = true then Oper.wp P o a w K Q else E := by
  have hw : Region.wanted o (yielded ops a.tmps) = true := by simp [Region.wanted, hg]
  rw [if_pos hw]
  unfold Oper.wp
  simp [execOp, hop, resolve, invoke, hs, hx, hF, Deferred.ofValue]
  rw [henter]
  refine hc.mono ?_
  rintro e w' ⟨r, rfl, hk⟩
  exact hk
/-- Where the k-th value begins. -/
def pos (ks : Nat → Int) (x : Nat → Nat) (n : Nat) : Nat → Nat | 0 => 0 | k + 1 => pos ks x n k + vK (ks k) (sh (pos ks x n k) x) (n - pos ks x n k)
theorem pos_le (ks : Nat → Int) (x : Nat → Nat) (n : Nat) : ∀ k, pos ks x n k ≤ n
  | 0 => Nat.zero_le _
  | k + 1 => by
    have h1 := pos_le ks x n k
    have h2 := vK_le (ks k) (sh (pos ks x n k) x) (n - pos ks x n k)
    show pos ks x n k + _ ≤ n
    omega
/-- What the k-th value has. -/
def vKat (ks : Nat → Int) (x : Nat → Nat) (n k : Nat) : Nat := vK (ks k) (sh (pos ks x n k) x) (n - pos ks x n k)
def IsVat (ks : Nat → Int) (x : Nat → Nat) (n k : Nat) (p : PV) : Prop := IsV (ks k) (sh (pos ks x n k) x) (n - pos ks x n k) p
/-- Values k of which were read, in the row v that the variable bv holds. -/
structure GS (w0 : World) (R bv b0 n : Nat) (x : Nat → Nat) (ks : Nat → Int) (tv : TypeId) (k : Nat) (v : Value) (f : Nat → PV) (wr : World) : Prop where
  rb : RB wr R b0 (n - pos ks x n k) (sh (pos ks x n k) x)
  var : wr.heap[bv]? = some (.cells #[v] tv (0, 0))
  own : OwnV w0.heap.size wr v k f
  each : ∀ j, j < k → vKat ks x n j ≠ 0 ∧ IsVat ks x n j (f j) ∧ PVF wr (f j) ∧ ((f j).bn = 0 ∨ ∃ g, (f j).b.ownBlock = some g ∧ w0.heap.size ≤ g ∧ v.ownBlock ≠ some g)
  chg : Chg [R, bv] w0 wr
theorem PV.In.chg {S : List Nat} {w w' : World} {p : PV} (h : PV.In w p) (c : Chg S w w') (hb : p.bn = 0 ∨ ∀ b, p.b.ownBlock = some b → b ∉ S) : PV.In w' p := ⟨h.kin, h.nin, h.xin, h.row.chg c hb⟩
theorem PV.In.blk {w : World} {p : PV} (h : PV.In w p) (hn : p.bn ≠ 0) (g : Nat) (hg : p.b.ownBlock = some g) : g < w.heap.size := by
  obtain ⟨b, off, cap, hv, hc, _⟩ := h.row.cells (by omega)
  rw [hv] at hg
  have := World.block_lt_of_cell? w _ (hc 0 (by omega)).2
  simp [Value.ownBlock] at hg this
  omega
theorem PVF.blk {w : World} {p : PV} (h : PVF w p) (hn : p.bn ≠ 0) (g : Nat) (hg : p.b.ownBlock = some g) : g < w.heap.size := h.inn.blk hn g hg
theorem PVF.chg {S : List Nat} {w w' : World} {p : PV} (h : PVF w p) (c : Chg S w w') (hb : p.bn = 0 ∨ ∀ b, p.b.ownBlock = some b → b ∉ S) : PVF w' p := by
  refine ⟨h.inn.chg c hb, ?_⟩
  by_cases hz : p.bn = 0
  · exact .inl hz
  · right
    intro g hg j
    rw [World.frozen?_of_block (w := w) (c.block g (h.blk hz g hg) (by rcases hb with e | e; exact absurd e hz; exact e g hg))]
    rcases h.fz with e | e
    · exact absurd e hz
    · exact e g hg j
theorem vl_one1 (p : PV) : vl 1 (fun _ => p) = [.int .i64 p.k, .int .i64 p.n, .float .f64 p.x, p.b, .bool p.on] := rfl
theorem GS.step {w0 : World} {R bv b0 n : Nat} {x : Nat → Nat} {ks : Nat → Int} {tv : TypeId} {k : Nat} {v : Value} {f : Nat → PV} {wr w1 w3 : World} {p : PV} {g cap : Nat} {o : Obj}
    (G : GS w0 R bv b0 n x ks tv k v f wr) (hR : R < w0.heap.size) (hbv : bv < w0.heap.size) (hb0 : b0 < w0.heap.size) (hRv : R ≠ bv) (hbb : b0 ≠ bv) (hbR : b0 ≠ R)
    (hz : vKat ks x n k ≠ 0) (hp : IsVat ks x n k p) (hin : PVF w1 p) (hfr : p.bn = 0 ∨ ∃ g, p.b.ownBlock = some g ∧ wr.heap.size ≤ g)
    (hrb : RB w1 R b0 (n - pos ks x n k - vKat ks x n k) (sh (vKat ks x n k) (sh (pos ks x n k) x))) (hc : Chg [R] wr w1)
    (hown : w3.ownsRow w0.heap.size 142 5 (.slice (some ⟨g, 0, none⟩) (k + 1) cap) (k + 1) (vl k f ++ [.int .i64 p.k, .int .i64 p.n, .float .f64 p.x, p.b, .bool p.on]))
    (hgr : (w1.alloc o).grownBy w3 v.ownBlock) (hat : v.ownBlock = some g ∨ g = w1.heap.size + 1) :
    GS w0 R bv b0 n x ks tv (k + 1) (.slice (some ⟨g, 0, none⟩) (k + 1) cap) (catP k f (fun _ => p)) (w3.setCell ⟨bv, 0, none⟩ (.slice (some ⟨g, 0, none⟩) (k + 1) cap)) := by
  have s0 := G.chg.size
  have s1 := hc.size
  have ownlt : ∀ b, v.ownBlock = some b → w0.heap.size ≤ b ∧ b < wr.heap.size := fun b hb => World.ownsRow.lt G.own b hb
  have hg0 : w0.heap.size ≤ g := by
    rcases hat with h | h
    · exact (ownlt g h).1
    · omega
  have hg1 : v.ownBlock = some g ∨ w1.heap.size ≤ g := by rcases hat with h | h; exact .inl h; exact .inr (by omega)
  let T : List Nat := match v.ownBlock with | some b => [b] | none => []
  have hT : ∀ b, b ∈ T ↔ v.ownBlock = some b := by
    intro b
    show b ∈ (match v.ownBlock with | some b => [b] | none => []) ↔ _
    cases v.ownBlock with
    | none => simp
    | some c => simp; exact eq_comm
  have c3 : Chg T w1 w3 := by
    refine ⟨hgr.os, hgr.tape, hgr.output, ?_, fun i hi hn => ?_⟩
    · have := hgr.size; simp at this; omega
    · exact (hgr.block i (by simp; omega) (fun e => hn ((hT i).2 e.symm))).trans (Below.heap_alloc _ _ _ hi)
  have c4 : Chg (bv :: T) w1 (w3.setCell ⟨bv, 0, none⟩ (.slice (some ⟨g, 0, none⟩) (k + 1) cap)) := (c3.mono (fun i hi => by simp [hi])).trans (Chg.set _ _ _ (by simp))
  have cR : Chg (R :: bv :: T) wr (w3.setCell ⟨bv, 0, none⟩ (.slice (some ⟨g, 0, none⟩) (k + 1) cap)) := (hc.mono (fun i hi => by simp at hi; simp [hi])).trans (c4.mono (fun i hi => by simp at hi ⊢; right; exact hi))
  have notT : ∀ i, i < w0.heap.size → i ∉ T := fun i hi h => by have := (ownlt i ((hT i).1 h)).1; omega
  have hv1 : w3.heap[bv]? = some (.cells #[v] tv (0, 0)) := (c3.block bv (by omega) (notT bv hbv)).trans ((hc.block bv (by omega) (by simp; exact fun e => hRv e.symm)).trans G.var)
  have epos : pos ks x n (k + 1) = pos ks x n k + vKat ks x n k := rfl
  refine ⟨?_, one_setCell hv1, ?_, ?_, ?_⟩
  · rw [epos, show n - (pos ks x n k + vKat ks x n k) = n - pos ks x n k - vKat ks x n k by omega, ← sh_sh]
    exact hrb.chg c4 (by simp; exact ⟨hRv, notT R hR⟩) (by simp; exact ⟨hbb, notT b0 hb0⟩)
  · unfold OwnV
    rw [← vl_cat, vl_one1]
    exact ownsRow_setCell_other hown (by simp [Value.ownBlock]; omega) _
  · intro j hj
    by_cases hjk : j < k
    · obtain ⟨e1, e2, e3, e4⟩ := G.each j hjk
      rw [show catP k f (fun _ => p) j = f j by simp [catP, hjk]]
      refine ⟨e1, e2, ?_, ?_⟩
      · refine e3.chg cR ?_
        rcases e4 with h | ⟨gj, h1, h2, h3⟩
        · exact .inl h
        · right
          intro b hb
          rw [h1] at hb; cases hb
          simp
          refine ⟨by omega, by omega, fun h => h3 ((hT gj).1 h)⟩
      · rcases e4 with h | ⟨gj, h1, h2, h3⟩
        · exact .inl h
        · by_cases hz0 : (f j).bn = 0
          · exact .inl hz0
          · right
            refine ⟨gj, h1, h2, ?_⟩
            have := e3.blk hz0 gj h1
            simp [Value.ownBlock]
            rcases hg1 with h | h
            · intro e; subst e; exact h3 h
            · omega
    · obtain rfl : j = k := by omega
      rw [show catP j f (fun _ => p) j = p by simp [catP]]
      refine ⟨hz, hp, ?_, ?_⟩
      · refine hin.chg c4 ?_
        rcases hfr with h | ⟨gp, h1, h2⟩
        · exact .inl h
        · right
          intro b hb
          rw [h1] at hb; cases hb
          simp
          refine ⟨by omega, fun h => by have := (ownlt gp ((hT gp).1 h)).2; omega⟩
      · rcases hfr with h | ⟨gp, h1, h2⟩
        · exact .inl h
        · by_cases hz0 : p.bn = 0
          · exact .inl hz0
          · right
            refine ⟨gp, h1, by omega, ?_⟩
            have := hin.blk hz0 gp h1
            simp [Value.ownBlock]
            rcases hg1 with h | h
            · have := (ownlt g h).2; omega
            · omega
  · exact ⟨cR.os.trans G.chg.os, cR.tape.trans G.chg.tape, cR.output.trans G.chg.output, Nat.le_trans s0 cR.size, fun i hi hn => (cR.block i (by omega) (by simp at hn ⊢; exact ⟨hn.1, hn.2, notT i hi⟩)).trans (G.chg.block i hi hn)⟩
/-- A row of kinds, n of them, in blocks that are neither R nor bv. -/
def KAt (w : World) (ka : Option Addr) (m : Nat) (ks : Nat → Int) : Prop := ∀ i, i < m → ∃ b off, ka = some ⟨b, off, none⟩ ∧ w.cell? ⟨b, off + i, none⟩ = some (.int .i64 (ks i))
end Go.Proofs.YtfphopleniidfaaGreatDoor.Pk
namespace Go.Proofs.YtfphopleniidfaaGreatDoor.Pk
set_option maxRecDepth 20000
open Go.RowKit
set_option linter.unusedVariables false
theorem KAt.up {w w' : World} {ka : Option Addr} {m : Nat} {ks : Nat → Int} (h : KAt w ka m ks) (u : Up w w') : KAt w' ka m ks := fun i hi => by
  obtain ⟨b, off, h1, h2⟩ := h i hi
  exact ⟨b, off, h1, u.keep h2⟩
theorem OwnV.mono {base b' : Nat} {w : World} {v : Value} {n : Nat} {f : Nat → PV} (h : OwnV base w v n f) (hb : b' ≤ base) : OwnV b' w v n f := by
  refine ⟨h.1, ?_⟩
  rcases h.2 with h | ⟨g, cap, cur, hv, hg, rest⟩
  · exact .inl h
  · exact .inr ⟨g, cap, cur, hv, Nat.le_trans hb hg, rest⟩
theorem OwnV.chg {S : List Nat} {base : Nat} {w w' : World} {v : Value} {n : Nat} {f : Nat → PV} (h : OwnV base w v n f) (c : Chg S w w') (hb : ∀ b, v.ownBlock = some b → b ∉ S) : OwnV base w' v n f := by
  have h0 := h
  refine ⟨h.1, ?_⟩
  rcases h.2 with h | ⟨g, cap, cur, hv, hg, hh, rest⟩
  · exact .inl h
  · refine .inr ⟨g, cap, cur, hv, hg, ?_, rest⟩
    have e : v.ownBlock = some g := by rw [hv]; rfl
    rw [c.block g (World.ownsRow.lt h0 g e).2 (hb g e)]
    exact hh
def unk (ks : Nat → Int) (m : Nat) : Prop := ∃ i, i < m ∧ (ks i < 1 ∨ 4 < ks i)
/-- What Get answers. -/
def GetOut (w : World) (n m : Nat) (x : Nat → Nat) (ks : Nat → Int) (e : Ending) (w' : World) : Prop :=
  (unk ks m ∧ e = .returned (.tuple #[.slice none 0 0, .int .i64 1])) ∨
  (¬ unk ks m ∧ (∀ i, i < m → vKat ks x n i ≠ 0) ∧ pos ks x n m = n ∧ ∃ v f, e = .returned (.tuple #[v, .int .i64 0]) ∧ OwnV w.heap.size w' v m f ∧ ∀ j, j < m → IsVat ks x n j (f j) ∧ PVF w' (f j) ∧ ((f j).bn = 0 ∨ ∃ g, (f j).b.ownBlock = some g ∧ w.heap.size ≤ g ∧ v.ownBlock ≠ some g)) ∨
  (¬ unk ks m ∧ ((∃ i, i < m ∧ vKat ks x n i = 0) ∨ pos ks x n m < n) ∧ e = .returned (.tuple #[.slice none 0 0, .int .i64 30]))
/-- What its Read answers. -/
def GetRead (w : World) (n m : Nat) (x : Nat → Nat) (ks : Nat → Int) (e : Ending) (w' : World) : Prop :=
  ((∀ i, i < m → vKat ks x n i ≠ 0) ∧ pos ks x n m = n ∧ ∃ v f, e = .returned (.int .i64 0) ∧ w'.cell? ⟨w.heap.size + 1, 0, none⟩ = some v ∧ OwnV w.heap.size w' v m f ∧ ∀ j, j < m → IsVat ks x n j (f j) ∧ PVF w' (f j) ∧ ((f j).bn = 0 ∨ ∃ g, (f j).b.ownBlock = some g ∧ w.heap.size ≤ g ∧ v.ownBlock ≠ some g)) ∨
  (((∃ i, i < m ∧ vKat ks x n i = 0) ∨ pos ks x n m < n) ∧ e = .returned (.int .i64 30))
end Go.Proofs.YtfphopleniidfaaGreatDoor.Pk
namespace Go.Proofs.YtfphopleniidfaaGreatDoor.Pk
set_option maxRecDepth 20000
open Go.RowKit
set_option linter.unusedVariables false
attribute [local go_sem] run_bits run_frombits run_store_float
theorem infoRVal : (Tryz.prog.info? 82).map (fun i => (i.zero, i.size, i.bytes)) = some (some (.agg #[.int .i64 0, .int .i64 0, .float .f64 0, .slice none 0 0, .bool false]), 5, 56) := by kernel_rfl
def OwnR (base : Nat) (w : World) (v : Value) (n : Nat) (f : Nat → PV) : Prop := w.ownsRow base 82 5 v n (vl n f)
theorem OwnR.empty {base g : Nat} {w : World} {f : Nat → PV} (hb : base ≤ w.heap.size) (hg : w.heap.size = g) : OwnR base (w.alloc (.cells #[] 82)) (.slice (some ⟨g, 0, none⟩) 0 0) 0 f := by
  subst hg
  exact World.ownsRow_made w #[] 0 hb (by unfold maxLen; omega) rfl
theorem OwnR.shape {base : Nat} {w : World} {v : Value} {n : Nat} {f : Nat → PV} (h : OwnR base w v n f) : ∃ a c, v = .slice a n c ∧ ∀ i, i < n → ∃ b off, a = some ⟨b, off, none⟩ ∧ PV.At w b (off + i * 5) (f i) := by
  have h2 := h
  rcases h2.2 with ⟨hv, hn⟩ | ⟨g, cap, cur, hv, hb, hg, hnc, hcm, hcs, htk⟩
  · subst hn; exact ⟨none, 0, hv, fun i hi => by omega⟩
  · refine ⟨_, _, hv, fun i hi => ⟨g, 0, rfl, ?_⟩⟩
    subst hv
    have at_ : ∀ j, j < 5 → w.cell? ⟨g, 0 + i * 5 + j, none⟩ = some (pvc (f i) j) := by
      intro j hj
      rw [Nat.zero_add, World.ownsRow.cellAt h (i * 5 + j) (by omega), vl_get _ _ _ (by omega)]
      rw [show (i * 5 + j) / 5 = i by omega, show (i * 5 + j) % 5 = j by omega]
    exact ⟨at_ 0 (by omega), at_ 1 (by omega), at_ 2 (by omega), at_ 3 (by omega), at_ 4 (by omega)⟩
/-- 'append(s, x...)' of values, s the call's own, x any row of values. -/
theorem wp_appR {ops : Array Oper} {rest : List Oper} {o : Oper} {a : Act} {Q : Exit → Act → World → Prop} {w : World} (hgd : o.guard = none) (s x : Operand)
    (ho : o.op = .call { callee := .builtin .append, args := #[s, x], argTypes := #[75, 75] }) (base : Nat) (v u : Value) (n m : Nat) (f g : Nat → PV)
    (hs : a.eval s = v) (hx : a.eval x = u) (hown : OwnR base w v n f) (hrow : VRow w u m g) (hb : n + m ≤ 4194304) (hbase : base ≤ w.heap.size)
    (h : ∀ v' w', OwnR base w' v' (n + m) (catP n f g) → Below base w w' → wpList Tryz.prog ops Q rest (a.put o.dst v') w') : wpList Tryz.prog ops Q (o :: rest) a w := by
  obtain ⟨i0, hi, hz0, hz1, hz2⟩ := info_parts infoRVal
  have bel : ∀ w', w.grownBy w' v.ownBlock → Below base w w' := fun w' hg => Below.grown (Below.refl _ _) hg hbase (fun k hk => (World.ownsRow.lt hown k hk).1)
  have one : ∀ (ad : Addr) (c : Nat), u = .slice (some ad) m c → (∀ i, i < m → PV.In w (g i)) → (∀ j, j < m * 5 → w.cell? (ad.add j) = some (pvc (g (j / 5)) (j % 5))) → wpList Tryz.prog ops Q (o :: rest) a w := by
    intro ad c hu hin hc
    have news : ∀ j t, (vl m g)[j]? = some t → w.cell? (ad.add j) = some t := by
      intro j t hj
      by_cases hjm : j < m * 5
      · rw [vl_get _ _ _ hjm] at hj; cases hj; exact hc j hjm
      · rw [vl_get_ge _ _ _ (by omega)] at hj; cases hj
    refine wpList_append_own w hgd s x 75 ho base 82 i0 _ 5 56 Tryz.underlying75 hi hz0 hz1 hz2 rfl (by decide) v n (vl n f) hs hown ad m c (vl m g) (hx.trans hu) (vl_len _ _) news (vl_one w m g hin) (by unfold maxLen; omega) (by omega) hbase ?_
    intro v' w' h1 h2 h3
    rw [vl_cat] at h1
    exact h v' w' h1 (bel w' h2)
  rcases hrow with ⟨rfl, ad, c, rfl, hz⟩ | ⟨hm, b, off, cap, rfl, hc, _⟩
  · cases ad with
    | none =>
      obtain rfl := hz rfl
      refine wpList_append_own_none hgd s x 75 ho base 82 i0 5 Tryz.underlying75 hi v n (vl n f) hs hown hx ?_
      refine h v w ?_ (Below.refl _ _)
      unfold OwnR
      rw [← vl_cat]
      simpa [OwnR, vl] using hown
    | some ad => exact one ad c rfl (fun i hi => by omega) (fun j hj => by omega)
  · refine one ⟨b, off, none⟩ cap rfl (fun i hi => (hc i hi).2) (fun j hj => ?_)
    rw [Go.WideShapes.add_plain]
    obtain ⟨h0, h1, h2, h3, h4⟩ := (hc (j / 5) (by omega)).1
    have hj5 : j % 5 < 5 := Nat.mod_lt _ (by omega)
    have e : off + j = off + j / 5 * 5 + j % 5 := by omega
    rw [e]
    generalize j % 5 = r at *
    match r, hj5 with
    | 0, _ => exact h0
    | 1, _ => exact h1
    | 2, _ => exact h2
    | 3, _ => exact h3
    | 4, _ => exact h4

theorem VRow.up {w w' : World} {v : Value} {n : Nat} {f : Nat → PV} (h : VRow w v n f) (u : Up w w') : VRow w' v n f := by
  rcases h with h | ⟨hn, b, off, cap, hv, hc, hcp⟩
  · exact .inl h
  · exact .inr ⟨hn, b, off, cap, hv, fun i hi => ⟨(hc i hi).1.up u, (hc i hi).2.up u⟩, hcp⟩
theorem VRow.open {w : World} {v : Value} {n : Nat} {f : Nat → PV} (h : VRow w v n f) : ∃ a c, v = .slice a n c ∧ ∀ i, i < n → ∃ b off, a = some ⟨b, off, none⟩ ∧ PV.At w b (off + i * 5) (f i) ∧ PV.In w (f i) := by
  rcases h with ⟨rfl, a, c, hv, _⟩ | ⟨hn, b, off, cap, hv, hc, hcp⟩
  · exact ⟨a, c, hv, fun i hi => by omega⟩
  · exact ⟨_, _, hv, fun i hi => ⟨b, off, rfl, hc i hi⟩⟩
/-- A row of one value, new. -/
theorem row1V (w : World) (p : PV) (h : PV.In w p) (t : TypeId) (g : Nat) (hg : w.heap.size = g) : VRow (w.alloc (.cells #[.int .i64 p.k, .int .i64 p.n, .float .f64 p.x, p.b, .bool p.on] t)) (.slice (some ⟨g, 0, none⟩) 1 1) 1 (fun _ => p) := by
  subst hg
  have cc := fun j u (hj : (#[.int .i64 p.k, .int .i64 p.n, .float .f64 p.x, p.b, .bool p.on] : Array Value)[j]? = some u) => cell_new w #[.int .i64 p.k, .int .i64 p.n, .float .f64 p.x, p.b, .bool p.on] t (0, 0) j u hj
  refine .inr ⟨by omega, w.heap.size, 0, 1, rfl, fun i hi => ?_, by omega, by unfold maxLen; omega⟩
  obtain rfl : i = 0 := by omega
  exact ⟨⟨cc 0 _ rfl, cc 1 _ rfl, cc 2 _ rfl, cc 3 _ rfl, cc 4 _ rfl⟩, h.up ((Up.refl _).alloc _)⟩
theorem OwnR.up {base : Nat} {w w' : World} {v : Value} {n : Nat} {f : Nat → PV} (h : OwnR base w v n f) (u : Up w w') : OwnR base w' v n f := by
  refine ⟨h.1, ?_⟩
  rcases h.2 with e | ⟨g, cap, cur, e, hb', hg, r⟩
  · exact .inl e
  · exact .inr ⟨g, cap, cur, e, hb', by rw [u.block g (lt_of_block hg)]; exact hg, r⟩
theorem OwnR.congr {base : Nat} {w : World} {v : Value} {n : Nat} {f g : Nat → PV} (h : OwnR base w v n f) (e : ∀ i, i < n → f i = g i) : OwnR base w v n g := by
  unfold OwnR at *
  have q : vl n f = vl n g := by
    unfold vl
    apply List.map_congr_left
    intro j hj
    rw [e (j / 5) (by have := List.mem_range.1 hj; omega)]
  rw [← q]; exact h
end Go.Proofs.YtfphopleniidfaaGreatDoor.Pk
namespace Go.Proofs.YtfphopleniidfaaGreatDoor.Pk
set_option maxRecDepth 20000
open Go.RowKit
set_option linter.unusedVariables false
attribute [local go_sem] run_bits run_frombits run_store_float
/-- A value's five cells. -/
abbrev VAt (b o : Nat) (k n : Int) (x : Nat) (v : Value) (on : Bool) (w : World) : Prop := w.cell? ⟨b, o, none⟩ = some (.int .i64 k) ∧ w.cell? ⟨b, o + 1, none⟩ = some (.int .i64 n) ∧ w.cell? ⟨b, o + 2, none⟩ = some (.float .f64 x) ∧ w.cell? ⟨b, o + 3, none⟩ = some v ∧ w.cell? ⟨b, o + 4, none⟩ = some (.bool on)
theorem VAt.up {b o : Nat} {k n : Int} {x : Nat} {v : Value} {on : Bool} {w w' : World} (u : Up w w') (h : VAt b o k n x v on w) : VAt b o k n x v on w' := ⟨u.keep h.1, u.keep h.2.1, u.keep h.2.2.1, u.keep h.2.2.2.1, u.keep h.2.2.2.2⟩
/-- A variable of the document's value. -/
def BoxR (w : World) (b : Nat) (p : Array Value) : Prop := w.heap[b]? = some (.cells p 82 (0, 0))
theorem BoxR.up {w w' : World} {b : Nat} {p : Array Value} (h : BoxR w b p) (u : Up w w') : BoxR w' b p := (u.block b (lt_of_block h)).trans h
theorem BoxR.cell {w : World} {b : Nat} {p : Array Value} (h : BoxR w b p) (j : Nat) (u : Value) (hj : p[j]? = some u) : w.cell? ⟨b, j, none⟩ = some u := by unfold BoxR at h; simp [World.cell?, h, hj]
theorem BoxR.put {w : World} {b : Nat} {p : Array Value} (h : BoxR w b p) (j : Nat) (u : Value) : BoxR (w.setCell ⟨b, j, none⟩ u) b (p.setIfInBounds j u) := heap_setCell_same w b j _ _ u h
theorem BoxR.far {w : World} {b c : Nat} {p : Array Value} (h : BoxR w b p) (hn : b ≠ c) (vs : List Value) : ∀ o, BoxR (w.setCells c o vs) b p := by
  induction vs generalizing w with
  | nil => intro o; exact h
  | cons v r ih => intro o; rw [World.setCells]; exact ih ((Below.heap_setCell w ⟨c, o, none⟩ v b hn).trans h) (o + 1)
theorem BoxR.stored {w : World} {b : Nat} (h : BoxR w b #[.int .i64 0, .int .i64 0, .float .f64 0, .slice none 0 0, .bool false]) (c0 c1 c2 c3 c4 : Value) : BoxR (w.setCells b 0 [c0, c1, c2, c3, c4]) b #[c0, c1, c2, c3, c4] := ((((h.put 0 c0).put 1 c1).put 2 c2).put 3 c3).put 4 c4
theorem BoxR.there {w : World} {b : Nat} (h : BoxR w b #[.int .i64 0, .int .i64 0, .float .f64 0, .slice none 0 0, .bool false]) : w.there b 0 5 := by
  intro j hj
  unfold BoxR at h
  rw [Nat.zero_add]
  match j, hj with
  | 0, _ => simp [World.cell?, World.frozen?, h]
  | 1, _ => simp [World.cell?, World.frozen?, h]
  | 2, _ => simp [World.cell?, World.frozen?, h]
  | 3, _ => simp [World.cell?, World.frozen?, h]
  | 4, _ => simp [World.cell?, World.frozen?, h]
theorem upSet {a : World} {b : Nat} (hb : a.heap.size ≤ b) : ∀ (vs : List Value) (o : Nat) {w : World}, Up a w → Up a (w.setCells b o vs)
  | [], _, _, h => h
  | v :: r, o, _, h => by rw [World.setCells]; exact upSet hb r (o + 1) (h.setCell hb v)
theorem infoRSize : (Tryz.prog.info? 82).map (·.size) = some 5 := by kernel_rfl
theorem stepAllocV {ops : Array Oper} {o : Oper} {a : Act} {w : World} {K : Act → World → Prop} {Q : Exit → Act → World → Prop} {E : Prop} (hg : o.guard = none) (hop : o.op = Op.alloc 82)
    (hK : ∀ m w', m = w.heap.size → w' = w.alloc (.cells #[.int .i64 0, .int .i64 0, .float .f64 0, .slice none 0 0, .bool false] 82) → K (a.put o.dst (.pointer (some ⟨m, 0, none⟩))) w') :
    if Region.wanted o (yielded ops a.tmps) = true then Oper.wp Tryz.prog o a w K Q else E := by
  have hw : Region.wanted o (yielded ops a.tmps) = true := by simp [Region.wanted, hg]
  rw [if_pos hw]
  obtain ⟨d, p, t, ps, af, gd⟩ := o
  subst hop
  go_simp
  exact hK _ _ rfl rfl
theorem stepStoreV {ops : Array Oper} {o : Oper} {a : Act} {w : World} {K : Act → World → Prop} {Q : Exit → Act → World → Prop} {E : Prop} (hg : o.guard = none) (x y : Operand) (hop : o.op = Op.store 82 x y) (m : Nat) (k n : Int) (fx : Nat) (va : Option Addr) (vm vc : Nat) (on : Bool)
    (hx : a.eval x = .pointer (some ⟨m, 0, none⟩)) (hy : a.eval y = .agg #[.int .i64 k, .int .i64 n, .float .f64 fx, .slice va vm vc, .bool on]) (ht : w.there m 0 5)
    (hK : K (a.put o.dst undef) (w.setCells m 0 [.int .i64 k, .int .i64 n, .float .f64 fx, .slice va vm vc, .bool on])) :
    if Region.wanted o (yielded ops a.tmps) = true then Oper.wp Tryz.prog o a w K Q else E := by
  have hw : Region.wanted o (yielded ops a.tmps) = true := by simp [Region.wanted, hg]
  rw [if_pos hw]
  exact wp_store_mid _ x y hop m 0 _ hx hy ht infoRSize (by simp [Value.oneCell']) hK
def J2v (w0 : World) (f g : Option Nat) (w : World) : Prop := Up w0 w ∧ (∀ m, f = some m → w0.heap.size ≤ m ∧ BoxR w m #[.int .i64 0, .int .i64 0, .float .f64 0, .slice none 0 0, .bool false]) ∧ (∀ m, g = some m → w0.heap.size ≤ m ∧ BoxR w m #[.int .i64 0, .int .i64 0, .float .f64 0, .slice none 0 0, .bool false]) ∧ (∀ m n, f = some m → g = some n → n ≠ m)
theorem J2v.start (w0 : World) : J2v w0 none none w0.drew := ⟨(Up.refl _).drew, fun _ h => (by cases h), fun _ h => (by cases h), fun _ _ h => (by cases h)⟩
theorem J2v.up {w0 : World} {f g : Option Nat} {w w' : World} (j : J2v w0 f g w) (u : Up w w') : J2v w0 f g w' :=
  ⟨j.1.trans u, fun m h => ⟨(j.2.1 m h).1, (j.2.1 m h).2.up u⟩, fun m h => ⟨(j.2.2.1 m h).1, (j.2.2.1 m h).2.up u⟩, j.2.2.2⟩
theorem J2v.nF {w0 : World} {g : Option Nat} {w w' : World} {m : Nat} (j : J2v w0 none g w) (hm : m = w.heap.size) (hw : w' = w.alloc (.cells #[.int .i64 0, .int .i64 0, .float .f64 0, .slice none 0 0, .bool false] 82)) : J2v w0 (some m) g w' := by
  subst hm hw
  have k := j.up ((Up.refl w).alloc (.cells #[.int .i64 0, .int .i64 0, .float .f64 0, .slice none 0 0, .bool false] 82))
  refine ⟨k.1, ?_, k.2.2.1, ?_⟩
  · rintro m h; cases h; exact ⟨j.1.size, heap_new w _⟩
  · rintro m n h h' e; cases h; subst e; exact absurd (lt_of_block (j.2.2.1 _ h').2) (Nat.lt_irrefl _)
theorem J2v.nG {w0 : World} {f : Option Nat} {w w' : World} {m : Nat} (j : J2v w0 f none w) (hm : m = w.heap.size) (hw : w' = w.alloc (.cells #[.int .i64 0, .int .i64 0, .float .f64 0, .slice none 0 0, .bool false] 82)) : J2v w0 f (some m) w' := by
  subst hm hw
  have k := j.up ((Up.refl w).alloc (.cells #[.int .i64 0, .int .i64 0, .float .f64 0, .slice none 0 0, .bool false] 82))
  refine ⟨k.1, k.2.1, ?_, ?_⟩
  · rintro m h; cases h; exact ⟨j.1.size, heap_new w _⟩
  · rintro m n h h' e; cases h'; subst e; exact absurd (lt_of_block (j.2.1 _ h).2) (Nat.lt_irrefl _)
theorem J2v.thereF {w0 : World} {m : Nat} {g : Option Nat} {w : World} (j : J2v w0 (some m) g w) : w.there m 0 5 := (j.2.1 m rfl).2.there
theorem J2v.upF {w0 : World} {m : Nat} {g : Option Nat} {w : World} (j : J2v w0 (some m) g w) (vs : List Value) : Up w0 (w.setCells m 0 vs) := upSet (j.2.1 m rfl).1 _ _ j.1
theorem J2v.thereG {w0 : World} {m n : Nat} {w : World} (j : J2v w0 (some m) (some n) w) (c0 c1 c2 c3 c4 : Value) : (w.setCells m 0 [c0, c1, c2, c3, c4]).there n 0 5 := ((j.2.2.1 n rfl).2.far (j.2.2.2 m n rfl rfl) _ _).there
theorem J2v.fin {w0 : World} {m n : Nat} {w : World} (j : J2v w0 (some m) (some n) w) (k1 n1 : Int) (x1 : Nat) (v1 : Value) (o1 : Bool) (k2 n2 : Int) (x2 : Nat) (v2 : Value) (o2 : Bool) :
    BoxR ((w.setCells m 0 [.int .i64 k1, .int .i64 n1, .float .f64 x1, v1, .bool o1]).setCells n 0 [.int .i64 k2, .int .i64 n2, .float .f64 x2, v2, .bool o2]) m #[.int .i64 k1, .int .i64 n1, .float .f64 x1, v1, .bool o1] ∧ BoxR ((w.setCells m 0 [.int .i64 k1, .int .i64 n1, .float .f64 x1, v1, .bool o1]).setCells n 0 [.int .i64 k2, .int .i64 n2, .float .f64 x2, v2, .bool o2]) n #[.int .i64 k2, .int .i64 n2, .float .f64 x2, v2, .bool o2] ∧ Up w0 ((w.setCells m 0 [.int .i64 k1, .int .i64 n1, .float .f64 x1, v1, .bool o1]).setCells n 0 [.int .i64 k2, .int .i64 n2, .float .f64 x2, v2, .bool o2]) :=
  ⟨((j.2.1 m rfl).2.stored _ _ _ _ _).far (fun e => j.2.2.2 m n rfl rfl e.symm) _ _, ((j.2.2.1 n rfl).2.far (j.2.2.2 m n rfl rfl) _ _).stored _ _ _ _ _, upSet (j.2.2.1 n rfl).1 _ _ (j.upF _)⟩
end Go.Proofs.YtfphopleniidfaaGreatDoor.Pk
namespace Go.Proofs.YtfphopleniidfaaGreatDoor.Pk
set_option maxRecDepth 20000
open Go.RowKit
set_option linter.unusedVariables false
attribute [local go_sem] run_bits run_frombits run_store_float
theorem BoxR.free {w : World} {b : Nat} {p : Array Value} (h : BoxR w b p) (j : Nat) : w.frozen? ⟨b, j, none⟩ = false := by unfold BoxR at h; simp [World.frozen?, h]
theorem BoxR.lt {w : World} {b : Nat} {p : Array Value} (h : BoxR w b p) : b < w.heap.size := lt_of_block h
theorem boxes (w : World) (q : Int) : (BoxR ((w.alloc (.cells #[.int .i64 0, .int .i64 0, .float .f64 0, .slice none 0 0, .bool false] 82)).alloc (.cells #[.int .i64 q, .int .i64 0, .float .f64 0, .slice none 0 0, .bool false] 82)) w.heap.size #[.int .i64 0, .int .i64 0, .float .f64 0, .slice none 0 0, .bool false] ∧ BoxR ((w.alloc (.cells #[.int .i64 0, .int .i64 0, .float .f64 0, .slice none 0 0, .bool false] 82)).alloc (.cells #[.int .i64 q, .int .i64 0, .float .f64 0, .slice none 0 0, .bool false] 82)) (w.heap.size + 1) #[.int .i64 q, .int .i64 0, .float .f64 0, .slice none 0 0, .bool false]) ∧ Up w ((w.alloc (.cells #[.int .i64 0, .int .i64 0, .float .f64 0, .slice none 0 0, .bool false] 82)).alloc (.cells #[.int .i64 q, .int .i64 0, .float .f64 0, .slice none 0 0, .bool false] 82)) := by
  refine ⟨⟨?_, ?_⟩, ((Up.refl w).alloc _).alloc _⟩
  · unfold BoxR; rw [Below.heap_alloc _ _ _ (by simp)]; exact heap_new _ _
  · have := heap_new (w.alloc (.cells #[.int .i64 0, .int .i64 0, .float .f64 0, .slice none 0 0, .bool false] 82)) (.cells #[.int .i64 q, .int .i64 0, .float .f64 0, .slice none 0 0, .bool false] 82)
    rw [show (w.alloc (.cells #[.int .i64 0, .int .i64 0, .float .f64 0, .slice none 0 0, .bool false] 82)).heap.size = w.heap.size + 1 by simp] at this
    exact this
theorem one_nil (W : World) : ByRow W (.slice none 0 0) 0 (fun _ => 0) := .inl ⟨rfl, none, 0, rfl, fun _ => rfl⟩
/-- What One answers. -/
def OneOut (w : World) (q : Int) (n : Nat) (x : Nat → Nat) (e : Ending) (w' : World) : Prop := ∃ p : PV, e = .returned (.tuple #[p.agg, .int .i64 (vK q x n : Nat)]) ∧ PV.In w' p ∧ (vK q x n ≠ 0 → IsV q x n p ∧ (p.bn = 0 ∨ ∃ g, p.b.ownBlock = some g ∧ w.heap.size ≤ g)) ∧ Up w w'
set_option maxHeartbeats 400000 in
set_option maxRecDepth 20000 in
theorem one_1 (v : Value) (n : Nat) (x : Nat → Nat) (w : World) (hv : ByRow w v n x) :
    Calls Tryz.prog 54 #[v, .int .i64 1] w fun e w' => OneOut w 1 n x e w' := by
  have hvin := hid (lnV_in x n hv.lt)
  have HN := hid (fun (W : World) (hW : Up w W) => refGetNum_any v n x W (hv.up hW))
  have HK : vK 1 x n = lnK x n := by simp [vK]
  have HI : Hid (∀ b, IsV 1 x n ⟨1, lnV x n, 0, .slice none 0 0, 0, b, false⟩) := fun b => ⟨rfl, rfl, rfl, rfl, fun i hi => absurd hi (by simp), rfl, fun _ _ => rfl⟩
  obtain ⟨va, vc, rfl⟩ := hv.slice
  unfold OneOut
  rw [HK]
  clear hv HK
  generalize lnV x n = V at *
  generalize lnK x n = K at *
  go_enter Tryz.func54, Tryz.ntmps54
  go_upto_region 2 with fail
  have hbx := boxes w 1
  generalize ((w.alloc (.cells #[.int .i64 0, .int .i64 0, .float .f64 0, .slice none 0 0, .bool false] 82)).alloc (.cells #[.int .i64 1, .int .i64 0, .float .f64 0, .slice none 0 0, .bool false] 82)) = WW at hbx ⊢
  obtain ⟨⟨hb4, hb5⟩, uW⟩ := hbx
  have hb6 : BoxR (WW.setCell ⟨w.heap.size + 1, 1, none⟩ (.int .i64 V)) (w.heap.size + 1) #[.int .i64 1, .int .i64 V, .float .f64 0, .slice none 0 0, .bool false] := heap_setCell_same _ (w.heap.size + 1) 1 _ _ (.int .i64 V) hb5
  have hb7 : BoxR (WW.setCell ⟨w.heap.size + 1, 1, none⟩ (.int .i64 V)) w.heap.size #[.int .i64 0, .int .i64 0, .float .f64 0, .slice none 0 0, .bool false] := (Below.heap_setCell _ _ _ _ (by simp)).trans hb4
  have f1 := hb5.free 1
  have d1 := hb5.cell 1 _ rfl
  have q0 := (hb6).cell 0 _ rfl
  have q1 := (hb6).cell 1 _ rfl
  have q2 := (hb6).cell 2 _ rfl
  have q3 := (hb6).cell 3 _ rfl
  have q4 := (hb6).cell 4 _ rfl
  have p0 := (hb7).cell 0 _ rfl
  have p1 := (hb7).cell 1 _ rfl
  have p2 := (hb7).cell 2 _ rfl
  have p3 := (hb7).cell 3 _ rfl
  have p4 := (hb7).cell 4 _ rfl
  have z0 := (hb7).free 0
  have z1 := (hb7).free 1
  have z2 := (hb7).free 2
  have z3 := (hb7).free 3
  have z4 := (hb7).free 4
  have HX4 := hid (hb7)
  have UW := hid uW
  clear hb4 hb5 hb6 hb7
  go_wp2_with (go_at_call 83; refine (HN.out _ UW.out).mono ?_; rintro e w1 ⟨rfl, hw⟩; have hw2 := hw.symm; subst hw2)
  have hfin := (((((HX4.out.put 0 (.int .i64 1)).put 1 (.int .i64 V)).put 2 (.float .f64 0)).put 3 (.slice none 0 0)).put 4 (.bool false))
  have UF : Up w ((((((WW.setCell ⟨w.heap.size + 1, 1, none⟩ (.int .i64 V)).setCell ⟨w.heap.size, 0, none⟩ (.int .i64 1)).setCell ⟨w.heap.size, 1, none⟩ (.int .i64 V)).setCell ⟨w.heap.size, 2, none⟩ (.float .f64 0)).setCell ⟨w.heap.size, 3, none⟩ (.slice none 0 0)).setCell ⟨w.heap.size, 4, none⟩ (.bool false)) := (((((uW.setCell (p := ⟨w.heap.size + 1, 1, none⟩) (Nat.le_succ _) _).setCell (Nat.le_refl _) _).setCell (Nat.le_refl _) _).setCell (Nat.le_refl _) _).setCell (Nat.le_refl _) _).setCell (Nat.le_refl _) _
  have g0 := hfin.cell 0 (.int .i64 1) rfl
  have g1 := hfin.cell 1 (.int .i64 V) rfl
  have g2 := hfin.cell 2 (.float .f64 0) rfl
  have g3 := hfin.cell 3 (.slice none 0 0) rfl
  have g4 := hfin.cell 4 (.bool false) rfl
  refine bodyPost_ret (v := .tuple #[.agg #[.int .i64 1, .int .i64 V, .float .f64 0, .slice none 0 0, .bool false], .int .i64 (K : Nat)]) (by simp [results, Tryz.results54, go_sem, g0, g1, g2, g3, g4]) rfl ⟨⟨1, V, 0, .slice none 0 0, 0, fun _ => 0, false⟩, by first | rfl | (simp [PV.agg]; done), ⟨by simp, hvin.out, by simp, one_nil _⟩, fun _ => ⟨HI.out _, .inl rfl⟩, UF⟩
set_option maxHeartbeats 400000 in
set_option maxRecDepth 20000 in
theorem one_2short (v : Value) (n : Nat) (x : Nat → Nat) (w : World) (hv : ByRow w v n x) (hn : n < 8) :
    Calls Tryz.prog 54 #[v, .int .i64 2] w fun e w' => OneOut w 2 n x e w' := by
  have HK : vK 2 x n = 0 := by show lkK x n = 0; unfold lkK; rw [if_neg (by omega)]
  obtain ⟨va, vc, rfl⟩ := hv.slice
  unfold OneOut
  rw [HK]
  clear hv HK
  go_enter Tryz.func54, Tryz.ntmps54
  go_upto_region 2 with fail
  have hbx := boxes w 2
  generalize ((w.alloc (.cells #[.int .i64 0, .int .i64 0, .float .f64 0, .slice none 0 0, .bool false] 82)).alloc (.cells #[.int .i64 2, .int .i64 0, .float .f64 0, .slice none 0 0, .bool false] 82)) = WW at hbx ⊢
  obtain ⟨⟨hb4, hb5⟩, uW⟩ := hbx
  have q0 := (hb5).cell 0 _ rfl
  have q1 := (hb5).cell 1 _ rfl
  have q2 := (hb5).cell 2 _ rfl
  have q3 := (hb5).cell 3 _ rfl
  have q4 := (hb5).cell 4 _ rfl
  have p0 := (hb4).cell 0 _ rfl
  have p1 := (hb4).cell 1 _ rfl
  have p2 := (hb4).cell 2 _ rfl
  have p3 := (hb4).cell 3 _ rfl
  have p4 := (hb4).cell 4 _ rfl
  have z0 := (hb4).free 0
  have z1 := (hb4).free 1
  have z2 := (hb4).free 2
  have z3 := (hb4).free 3
  have z4 := (hb4).free 4
  have HX4 := hid (hb4)
  clear hb4 hb5
  go_wp2
  have hfin := (((((HX4.out.put 0 (.int .i64 2)).put 1 (.int .i64 0)).put 2 (.float .f64 0)).put 3 (.slice none 0 0)).put 4 (.bool false))
  have UF : Up w (((((WW.setCell ⟨w.heap.size, 0, none⟩ (.int .i64 2)).setCell ⟨w.heap.size, 1, none⟩ (.int .i64 0)).setCell ⟨w.heap.size, 2, none⟩ (.float .f64 0)).setCell ⟨w.heap.size, 3, none⟩ (.slice none 0 0)).setCell ⟨w.heap.size, 4, none⟩ (.bool false)) := (((((uW).setCell (Nat.le_refl _) _).setCell (Nat.le_refl _) _).setCell (Nat.le_refl _) _).setCell (Nat.le_refl _) _).setCell (Nat.le_refl _) _
  have g0 := hfin.cell 0 (.int .i64 2) rfl
  have g1 := hfin.cell 1 (.int .i64 0) rfl
  have g2 := hfin.cell 2 (.float .f64 0) rfl
  have g3 := hfin.cell 3 (.slice none 0 0) rfl
  have g4 := hfin.cell 4 (.bool false) rfl
  refine bodyPost_ret (v := .tuple #[.agg #[.int .i64 2, .int .i64 0, .float .f64 0, .slice none 0 0, .bool false], .int .i64 0]) (by simp [results, Tryz.results54, go_sem, g0, g1, g2, g3, g4]) rfl ⟨⟨2, 0, 0, .slice none 0 0, 0, fun _ => 0, false⟩, by first | rfl | (simp [PV.agg]; done), ⟨by simp, by simp, by simp, one_nil _⟩, fun h => absurd rfl h, UF⟩
set_option maxHeartbeats 1000000 in
set_option maxRecDepth 20000 in
theorem one_2 (b off n cap : Nat) (x : Nat → Nat) (w : World) (hn : 8 ≤ n) (hnc : n ≤ cap) (hm : cap ≤ maxLen) (hc : ∀ i, i < n → x i < 256 ∧ w.cell? ⟨b, off + i, none⟩ = some (.int .u8 (x i : Int))) :
    Calls Tryz.prog 54 #[.slice (some ⟨b, off, none⟩) n cap, .int .i64 2] w fun e w' => OneOut w 2 n x e w' := by
  unfold maxLen at hm
  have HL := hid (lkC_lt x n (fun i hi => (hc i hi).1))
  have HW : Fl.W (lkC x 8) := by have := HL.out 8 hn; unfold Fl.W; exact Nat.lt_of_lt_of_le this (by decide)
  have HIC := hid (fun W => isCode_any (lkC x 8) HW W)
  have HOF := hid (fun W => rof_any (lkC x 8) HW W)
  have HLT := hid (Fl.of_lt (lkC x 8) HW)
  have HC := hid (fun (W : World) (hW : Up w W) i hi => (⟨(hc i hi).1, hW.keep (hc i hi).2⟩ : x i < 256 ∧ W.cell? ⟨b, off + i, none⟩ = some (.int .u8 (x i : Int))))
  have HKy : Hid (Fl.isCode (lkC x 8) = true → vK 2 x n = 8 ∧ lkV x n = Fl.of (lkC x 8)) := fun h => ⟨by show lkK x n = 8; unfold lkK; rw [if_pos ⟨hn, h⟩], by unfold lkV; rw [if_pos ⟨hn, h⟩]⟩
  have HKn : Hid (Fl.isCode (lkC x 8) = false → vK 2 x n = 0) := fun h => by show lkK x n = 0; unfold lkK; rw [if_neg (by simp [h])]
  clear hc HW
  unfold OneOut
  generalize hKK : vK 2 x n = KK
  have HKK := hid hKK
  clear hKK
  go_enter Tryz.func54, Tryz.ntmps54
  go_upto_region 2 with fail
  have hbx := boxes w 2
  generalize ((w.alloc (.cells #[.int .i64 0, .int .i64 0, .float .f64 0, .slice none 0 0, .bool false] 82)).alloc (.cells #[.int .i64 2, .int .i64 0, .float .f64 0, .slice none 0 0, .bool false] 82)) = WW at hbx ⊢
  obtain ⟨⟨hb4, hb5⟩, uW⟩ := hbx
  have HB4 := hid hb4
  have HB5 := hid hb5
  have UW := hid uW
  clear hb4 hb5 uW
  go_wp2
  go_loop [9, 10] (fun u i => ∃ k : Nat, k ≤ 8 ∧ i = .int .i64 (k : Nat) ∧ u = .int .u64 (lkC x k : Nat)) (fun _ i => 8 - (intOf i).toNat)
  case atStart => exact ⟨0, by omega, rfl, rfl⟩
  case round =>
    obtain ⟨k, hk, rfl, rfl⟩ := hrel
    by_cases hlt : k < 8
    · obtain ⟨hx, hcell⟩ := HC.out _ UW.out k (by omega)
      have h1 := HL.out k (by omega)
      have h2 : (256 : Nat) ^ k ≤ 256 ^ 7 := Nat.pow_le_pow_right (by omega) (by omega)
      have h3 : lkC x k < 72057594037927936 := Nat.lt_of_lt_of_le h1 (Nat.le_trans h2 (by decide))
      have HS : Hid (lkC x (k + 1) = lkC x k * 256 + x k) := rfl
      clear HC h1 h2 HL HKy HKn HIC HOF HLT
      generalize lkC x k = A at *
      have e1 : IntKind.u64.wrap ((A : Int) * 256) = (A : Int) * 256 := by rw [IntKind.wrap_u64]; omega
      have e2 : IntKind.u64.wrap ((A : Int) * 256 + (x k : Int)) = ((A * 256 + x k : Nat) : Int) := by rw [IntKind.wrap_u64]; omega
      go_wp2
      go_round
      case rel => exact ⟨k + 1, by omega, by go_num, by rw [HS.out]; first | rfl | (simp; done)⟩
      case measure => simp [intOf]; omega
    · obtain rfl : k = 8 := by omega
      have hb4 := HB4.out
      have hb5 := HB5.out
      have uW := UW.out
      cases hcode : Fl.isCode (lkC x 8)
      · rw [hcode] at HIC
        have hK0 : KK = 0 := HKK.out.symm.trans (HKn.out hcode)
        subst hK0
        clear HKy HKn HOF HLT HL HC hcode HKK
        generalize lkC x 8 = A at *
        have q0 := (hb5).cell 0 _ rfl
        have q1 := (hb5).cell 1 _ rfl
        have q2 := (hb5).cell 2 _ rfl
        have q3 := (hb5).cell 3 _ rfl
        have q4 := (hb5).cell 4 _ rfl
        have p0 := (hb4).cell 0 _ rfl
        have p1 := (hb4).cell 1 _ rfl
        have p2 := (hb4).cell 2 _ rfl
        have p3 := (hb4).cell 3 _ rfl
        have p4 := (hb4).cell 4 _ rfl
        have z0 := (hb4).free 0
        have z1 := (hb4).free 1
        have z2 := (hb4).free 2
        have z3 := (hb4).free 3
        have z4 := (hb4).free 4
        have HX4 := hid (hb4)
        clear hb4 hb5
        go_wp2_with (go_at_call 84; refine (HIC.out _).mono ?_; rintro e w1 ⟨rfl, hw⟩; have hw2 := hw.symm; subst hw2)
        have hfin := (((((HX4.out.put 0 (.int .i64 2)).put 1 (.int .i64 0)).put 2 (.float .f64 0)).put 3 (.slice none 0 0)).put 4 (.bool false))
        have UF : Up w (((((WW.setCell ⟨w.heap.size, 0, none⟩ (.int .i64 2)).setCell ⟨w.heap.size, 1, none⟩ (.int .i64 0)).setCell ⟨w.heap.size, 2, none⟩ (.float .f64 0)).setCell ⟨w.heap.size, 3, none⟩ (.slice none 0 0)).setCell ⟨w.heap.size, 4, none⟩ (.bool false)) := (((((uW).setCell (Nat.le_refl _) _).setCell (Nat.le_refl _) _).setCell (Nat.le_refl _) _).setCell (Nat.le_refl _) _).setCell (Nat.le_refl _) _
        have g0 := hfin.cell 0 (.int .i64 2) rfl
        have g1 := hfin.cell 1 (.int .i64 0) rfl
        have g2 := hfin.cell 2 (.float .f64 0) rfl
        have g3 := hfin.cell 3 (.slice none 0 0) rfl
        have g4 := hfin.cell 4 (.bool false) rfl
        refine bodyPost_ret (v := .tuple #[.agg #[.int .i64 2, .int .i64 0, .float .f64 0, .slice none 0 0, .bool false], .int .i64 0]) (by simp [results, Tryz.results54, go_sem, g0, g1, g2, g3, g4]) rfl ⟨⟨2, 0, 0, .slice none 0 0, 0, fun _ => 0, false⟩, by first | rfl | (simp [PV.agg]; done), ⟨by simp, by simp, by simp, one_nil _⟩, fun h => absurd rfl h, UF⟩
      · rw [hcode] at HIC
        obtain ⟨hK8', hV8⟩ := HKy.out hcode
        have hK8 : KK = 8 := HKK.out.symm.trans hK8'
        subst hK8
        have HI : Hid (∀ bb, IsV 2 x n ⟨2, 0, Fl.of (lkC x 8), .slice none 0 0, 0, bb, false⟩) := fun bb => ⟨rfl, rfl, hV8.symm, rfl, fun i hi => absurd hi (by simp), rfl, fun _ _ => rfl⟩
        clear HKy HKn HL HC hcode hK8' hV8 HKK
        generalize Fl.of (lkC x 8) = V at *
        generalize lkC x 8 = A at *
        have hb6 : BoxR (WW.setCell ⟨w.heap.size + 1, 2, none⟩ (.float .f64 V)) (w.heap.size + 1) #[.int .i64 2, .int .i64 0, .float .f64 V, .slice none 0 0, .bool false] := heap_setCell_same _ (w.heap.size + 1) 2 _ _ (.float .f64 V) hb5
        have hb7 : BoxR (WW.setCell ⟨w.heap.size + 1, 2, none⟩ (.float .f64 V)) w.heap.size #[.int .i64 0, .int .i64 0, .float .f64 0, .slice none 0 0, .bool false] := (Below.heap_setCell _ _ _ _ (by simp)).trans hb4
        have f2 := hb5.free 2
        have d2 := hb5.cell 2 _ rfl
        have q0 := (hb6).cell 0 _ rfl
        have q1 := (hb6).cell 1 _ rfl
        have q2 := (hb6).cell 2 _ rfl
        have q3 := (hb6).cell 3 _ rfl
        have q4 := (hb6).cell 4 _ rfl
        have p0 := (hb7).cell 0 _ rfl
        have p1 := (hb7).cell 1 _ rfl
        have p2 := (hb7).cell 2 _ rfl
        have p3 := (hb7).cell 3 _ rfl
        have p4 := (hb7).cell 4 _ rfl
        have z0 := (hb7).free 0
        have z1 := (hb7).free 1
        have z2 := (hb7).free 2
        have z3 := (hb7).free 3
        have z4 := (hb7).free 4
        have HX4 := hid (hb7)
        clear hb4 hb5 hb6 hb7
        go_wp2_with (first | (go_at_call 84; refine (HIC.out _).mono ?_; rintro e w1 ⟨rfl, hw⟩; have hw2 := hw.symm; subst hw2) | (go_at_call 85; refine (HOF.out _).mono ?_; rintro e w1 ⟨rfl, hw⟩; have hw2 := hw.symm; subst hw2))
        have hfin := (((((HX4.out.put 0 (.int .i64 2)).put 1 (.int .i64 0)).put 2 (.float .f64 V)).put 3 (.slice none 0 0)).put 4 (.bool false))
        have UF : Up w ((((((WW.setCell ⟨w.heap.size + 1, 2, none⟩ (.float .f64 V)).setCell ⟨w.heap.size, 0, none⟩ (.int .i64 2)).setCell ⟨w.heap.size, 1, none⟩ (.int .i64 0)).setCell ⟨w.heap.size, 2, none⟩ (.float .f64 V)).setCell ⟨w.heap.size, 3, none⟩ (.slice none 0 0)).setCell ⟨w.heap.size, 4, none⟩ (.bool false)) := (((((uW.setCell (p := ⟨w.heap.size + 1, 2, none⟩) (Nat.le_succ _) _).setCell (Nat.le_refl _) _).setCell (Nat.le_refl _) _).setCell (Nat.le_refl _) _).setCell (Nat.le_refl _) _).setCell (Nat.le_refl _) _
        have g0 := hfin.cell 0 (.int .i64 2) rfl
        have g1 := hfin.cell 1 (.int .i64 0) rfl
        have g2 := hfin.cell 2 (.float .f64 V) rfl
        have g3 := hfin.cell 3 (.slice none 0 0) rfl
        have g4 := hfin.cell 4 (.bool false) rfl
        refine bodyPost_ret (v := .tuple #[.agg #[.int .i64 2, .int .i64 0, .float .f64 V, .slice none 0 0, .bool false], .int .i64 8]) (by simp [results, Tryz.results54, go_sem, g0, g1, g2, g3, g4]) rfl ⟨⟨2, 0, V, .slice none 0 0, 0, fun _ => 0, false⟩, by first | rfl | (simp [PV.agg]; done), ⟨by simp, by simp, HLT.out, one_nil _⟩, fun _ => ⟨HI.out _, .inl rfl⟩, UF⟩
set_option maxHeartbeats 1000000 in
set_option maxRecDepth 20000 in
theorem one_4 (v : Value) (n : Nat) (x : Nat → Nat) (w : World) (hv : ByRow w v n x) :
    Calls Tryz.prog 54 #[v, .int .i64 4] w fun e w' => OneOut w 4 n x e w' := by
  by_cases hg : 0 < n ∧ x 0 ≤ 1
  · have HK : vK 4 x n = 1 := by show lfK x n = 1; unfold lfK; rw [if_pos hg]
    obtain ⟨b, off, cap, rfl, hc, hnc, hm⟩ := hv.cells hg.1
    have HC0 := hid (fun (W : World) (hW : Up w W) => show W.cell? ⟨b, off, none⟩ = some (.int .u8 (x 0 : Int)) from hW.keep (by have := (hc 0 hg.1).2; rw [Nat.add_zero] at this; exact this))
    unfold maxLen at hm
    have hn0 : 0 < n := hg.1
    have tn : ((n : Int) == 0) = false := by rw [beq_eq_false_iff_ne]; omega
    have HI : Hid (∀ bb, IsV 4 x n ⟨4, 0, 0, .slice none 0 0, 0, bb, lfV x n⟩) := fun bb => ⟨rfl, rfl, rfl, rfl, fun i hi => absurd hi (by simp), rfl, fun _ _ => rfl⟩
    have HF : lfV x n = ((x 0 : Int) == 1) := by
      unfold lfV
      by_cases h1 : x 0 = 1
      · simp [h1, hg.1]
      · have h2 : x 0 = 0 := by omega
        simp [h2]
    have t1 : decide ((1 : Int) < (x 0 : Int)) = false := by rw [decide_eq_false_iff_not]; omega
    unfold OneOut
    rw [HK]
    clear hv hc hg HK
    generalize lfV x n = V at *
    have t2 : ((x 0 : Int) == 1) = V := HF.symm
    clear HF
    go_enter Tryz.func54, Tryz.ntmps54
    go_upto_region 2 with fail
    have hbx := boxes w 4
    generalize ((w.alloc (.cells #[.int .i64 0, .int .i64 0, .float .f64 0, .slice none 0 0, .bool false] 82)).alloc (.cells #[.int .i64 4, .int .i64 0, .float .f64 0, .slice none 0 0, .bool false] 82)) = WW at hbx ⊢
    obtain ⟨⟨hb4, hb5⟩, uW⟩ := hbx
    have c0 := HC0.out _ uW
    have hb6 : BoxR (WW.setCell ⟨w.heap.size + 1, 4, none⟩ (.bool V)) (w.heap.size + 1) #[.int .i64 4, .int .i64 0, .float .f64 0, .slice none 0 0, .bool V] := heap_setCell_same _ (w.heap.size + 1) 4 _ _ (.bool V) hb5
    have hb7 : BoxR (WW.setCell ⟨w.heap.size + 1, 4, none⟩ (.bool V)) w.heap.size #[.int .i64 0, .int .i64 0, .float .f64 0, .slice none 0 0, .bool false] := (Below.heap_setCell _ _ _ _ (by simp)).trans hb4
    have f4 := hb5.free 4
    have d4 := hb5.cell 4 _ rfl
    have q0 := (hb6).cell 0 _ rfl
    have q1 := (hb6).cell 1 _ rfl
    have q2 := (hb6).cell 2 _ rfl
    have q3 := (hb6).cell 3 _ rfl
    have q4 := (hb6).cell 4 _ rfl
    have p0 := (hb7).cell 0 _ rfl
    have p1 := (hb7).cell 1 _ rfl
    have p2 := (hb7).cell 2 _ rfl
    have p3 := (hb7).cell 3 _ rfl
    have p4 := (hb7).cell 4 _ rfl
    have z0 := (hb7).free 0
    have z1 := (hb7).free 1
    have z2 := (hb7).free 2
    have z3 := (hb7).free 3
    have z4 := (hb7).free 4
    have HX4 := hid (hb7)
    clear hb4 hb5 hb6 hb7 HC0
    go_wp2
    have hfin := (((((HX4.out.put 0 (.int .i64 4)).put 1 (.int .i64 0)).put 2 (.float .f64 0)).put 3 (.slice none 0 0)).put 4 (.bool V))
    have UF : Up w ((((((WW.setCell ⟨w.heap.size + 1, 4, none⟩ (.bool V)).setCell ⟨w.heap.size, 0, none⟩ (.int .i64 4)).setCell ⟨w.heap.size, 1, none⟩ (.int .i64 0)).setCell ⟨w.heap.size, 2, none⟩ (.float .f64 0)).setCell ⟨w.heap.size, 3, none⟩ (.slice none 0 0)).setCell ⟨w.heap.size, 4, none⟩ (.bool V)) := (((((uW.setCell (p := ⟨w.heap.size + 1, 4, none⟩) (Nat.le_succ _) _).setCell (Nat.le_refl _) _).setCell (Nat.le_refl _) _).setCell (Nat.le_refl _) _).setCell (Nat.le_refl _) _).setCell (Nat.le_refl _) _
    have g0 := hfin.cell 0 (.int .i64 4) rfl
    have g1 := hfin.cell 1 (.int .i64 0) rfl
    have g2 := hfin.cell 2 (.float .f64 0) rfl
    have g3 := hfin.cell 3 (.slice none 0 0) rfl
    have g4 := hfin.cell 4 (.bool V) rfl
    refine bodyPost_ret (v := .tuple #[.agg #[.int .i64 4, .int .i64 0, .float .f64 0, .slice none 0 0, .bool V], .int .i64 1]) (by simp [results, Tryz.results54, go_sem, g0, g1, g2, g3, g4]) rfl ⟨⟨4, 0, 0, .slice none 0 0, 0, fun _ => 0, V⟩, by first | rfl | (simp [PV.agg]; done), ⟨by simp, by simp, by simp, one_nil _⟩, fun _ => ⟨HI.out _, .inl rfl⟩, UF⟩
  · have HK : vK 4 x n = 0 := by show lfK x n = 0; unfold lfK; rw [if_neg hg]
    unfold OneOut
    rw [HK]
    by_cases h0 : 0 < n
    · obtain ⟨b, off, cap, rfl, hc, hnc, hm⟩ := hv.cells h0
      have HC0 := hid (fun (W : World) (hW : Up w W) => show W.cell? ⟨b, off, none⟩ = some (.int .u8 (x 0 : Int)) from hW.keep (by have := (hc 0 h0).2; rw [Nat.add_zero] at this; exact this))
      unfold maxLen at hm
      have tn : ((n : Int) == 0) = false := by rw [beq_eq_false_iff_ne]; omega
      have t1 : decide ((1 : Int) < (x 0 : Int)) = true := by rw [decide_eq_true_eq]; omega
      clear hv hc hg HK
      go_enter Tryz.func54, Tryz.ntmps54
      go_upto_region 2 with fail
      have hbx := boxes w 4
      generalize ((w.alloc (.cells #[.int .i64 0, .int .i64 0, .float .f64 0, .slice none 0 0, .bool false] 82)).alloc (.cells #[.int .i64 4, .int .i64 0, .float .f64 0, .slice none 0 0, .bool false] 82)) = WW at hbx ⊢
      obtain ⟨⟨hb4, hb5⟩, uW⟩ := hbx
      have c0 := HC0.out _ uW
      have q0 := (hb5).cell 0 _ rfl
      have q1 := (hb5).cell 1 _ rfl
      have q2 := (hb5).cell 2 _ rfl
      have q3 := (hb5).cell 3 _ rfl
      have q4 := (hb5).cell 4 _ rfl
      have p0 := (hb4).cell 0 _ rfl
      have p1 := (hb4).cell 1 _ rfl
      have p2 := (hb4).cell 2 _ rfl
      have p3 := (hb4).cell 3 _ rfl
      have p4 := (hb4).cell 4 _ rfl
      have z0 := (hb4).free 0
      have z1 := (hb4).free 1
      have z2 := (hb4).free 2
      have z3 := (hb4).free 3
      have z4 := (hb4).free 4
      have HX4 := hid (hb4)
      clear hb4 hb5 HC0
      go_wp2
      have hfin := (((((HX4.out.put 0 (.int .i64 4)).put 1 (.int .i64 0)).put 2 (.float .f64 0)).put 3 (.slice none 0 0)).put 4 (.bool false))
      have UF : Up w (((((WW.setCell ⟨w.heap.size, 0, none⟩ (.int .i64 4)).setCell ⟨w.heap.size, 1, none⟩ (.int .i64 0)).setCell ⟨w.heap.size, 2, none⟩ (.float .f64 0)).setCell ⟨w.heap.size, 3, none⟩ (.slice none 0 0)).setCell ⟨w.heap.size, 4, none⟩ (.bool false)) := (((((uW).setCell (Nat.le_refl _) _).setCell (Nat.le_refl _) _).setCell (Nat.le_refl _) _).setCell (Nat.le_refl _) _).setCell (Nat.le_refl _) _
      have g0 := hfin.cell 0 (.int .i64 4) rfl
      have g1 := hfin.cell 1 (.int .i64 0) rfl
      have g2 := hfin.cell 2 (.float .f64 0) rfl
      have g3 := hfin.cell 3 (.slice none 0 0) rfl
      have g4 := hfin.cell 4 (.bool false) rfl
      refine bodyPost_ret (v := .tuple #[.agg #[.int .i64 4, .int .i64 0, .float .f64 0, .slice none 0 0, .bool false], .int .i64 0]) (by simp [results, Tryz.results54, go_sem, g0, g1, g2, g3, g4]) rfl ⟨⟨4, 0, 0, .slice none 0 0, 0, fun _ => 0, false⟩, by first | rfl | (simp [PV.agg]; done), ⟨by simp, by simp, by simp, one_nil _⟩, fun h => absurd rfl h, UF⟩
    · obtain rfl : n = 0 := by omega
      obtain ⟨va, vc, rfl⟩ := hv.slice
      clear hv hg HK
      go_enter Tryz.func54, Tryz.ntmps54
      go_upto_region 2 with fail
      have hbx := boxes w 4
      generalize ((w.alloc (.cells #[.int .i64 0, .int .i64 0, .float .f64 0, .slice none 0 0, .bool false] 82)).alloc (.cells #[.int .i64 4, .int .i64 0, .float .f64 0, .slice none 0 0, .bool false] 82)) = WW at hbx ⊢
      obtain ⟨⟨hb4, hb5⟩, uW⟩ := hbx
      have q0 := (hb5).cell 0 _ rfl
      have q1 := (hb5).cell 1 _ rfl
      have q2 := (hb5).cell 2 _ rfl
      have q3 := (hb5).cell 3 _ rfl
      have q4 := (hb5).cell 4 _ rfl
      have p0 := (hb4).cell 0 _ rfl
      have p1 := (hb4).cell 1 _ rfl
      have p2 := (hb4).cell 2 _ rfl
      have p3 := (hb4).cell 3 _ rfl
      have p4 := (hb4).cell 4 _ rfl
      have z0 := (hb4).free 0
      have z1 := (hb4).free 1
      have z2 := (hb4).free 2
      have z3 := (hb4).free 3
      have z4 := (hb4).free 4
      have HX4 := hid (hb4)
      clear hb4 hb5
      go_wp2
      have hfin := (((((HX4.out.put 0 (.int .i64 4)).put 1 (.int .i64 0)).put 2 (.float .f64 0)).put 3 (.slice none 0 0)).put 4 (.bool false))
      have UF : Up w (((((WW.setCell ⟨w.heap.size, 0, none⟩ (.int .i64 4)).setCell ⟨w.heap.size, 1, none⟩ (.int .i64 0)).setCell ⟨w.heap.size, 2, none⟩ (.float .f64 0)).setCell ⟨w.heap.size, 3, none⟩ (.slice none 0 0)).setCell ⟨w.heap.size, 4, none⟩ (.bool false)) := (((((uW).setCell (Nat.le_refl _) _).setCell (Nat.le_refl _) _).setCell (Nat.le_refl _) _).setCell (Nat.le_refl _) _).setCell (Nat.le_refl _) _
      have g0 := hfin.cell 0 (.int .i64 4) rfl
      have g1 := hfin.cell 1 (.int .i64 0) rfl
      have g2 := hfin.cell 2 (.float .f64 0) rfl
      have g3 := hfin.cell 3 (.slice none 0 0) rfl
      have g4 := hfin.cell 4 (.bool false) rfl
      refine bodyPost_ret (v := .tuple #[.agg #[.int .i64 4, .int .i64 0, .float .f64 0, .slice none 0 0, .bool false], .int .i64 0]) (by simp [results, Tryz.results54, go_sem, g0, g1, g2, g3, g4]) rfl ⟨⟨4, 0, 0, .slice none 0 0, 0, fun _ => 0, false⟩, by first | rfl | (simp [PV.agg]; done), ⟨by simp, by simp, by simp, one_nil _⟩, fun h => absurd rfl h, UF⟩
set_option maxHeartbeats 1000000 in
set_option maxRecDepth 20000 in
theorem one_3 (v : Value) (n : Nat) (x : Nat → Nat) (w : World) (hv : ByRow w v n x) (hg : lnK x n ≠ 0 ∧ 0 ≤ lnV x n ∧ lnV x n ≤ 4096 ∧ (lnV x n).toNat ≤ n - lnK x n) :
    Calls Tryz.prog 54 #[v, .int .i64 3] w fun e w' => OneOut w 3 n x e w' := by
  have HN := hid (fun (W : World) (hW : Up w W) => refGetNum_any v n x W (hv.up hW))
  have hkn : lnK x n ≤ n := ln_le x n 11 0
  have hmx := hv.max
  have HK : vK 3 x n = lnK x n + (lnV x n).toNat := by show lbK x n = _; unfold lbK; rw [if_pos hg]
  obtain ⟨h1, h2, h3, h4⟩ := hg
  obtain ⟨b, off, cap, rfl, hc, hnc, hm⟩ := hv.cells (by omega)
  have HI : Hid (∀ bv, IsV 3 x n ⟨3, 0, 0, bv, (lnV x n).toNat, sh (lnK x n) x, false⟩) := fun bv => ⟨rfl, rfl, rfl, rfl, fun i hi => rfl, rfl, fun _ h => absurd rfl h⟩
  have HX : Hid (∀ i, i < (lnV x n).toNat → sh (lnK x n) x i < 256 ∧ w.cell? ⟨b, off + lnK x n + i, none⟩ = some (.int .u8 (sh (lnK x n) x i : Int))) := fun i hi => by have := hc (lnK x n + i) (by omega); rw [Nat.add_assoc]; exact this
  unfold OneOut
  rw [HK]
  obtain ⟨m, hmV⟩ : ∃ m : Nat, lnV x n = (m : Int) := ⟨(lnV x n).toNat, by omega⟩
  rw [hmV] at HN h2 h3 h4 HI HX ⊢
  simp only [Int.toNat_natCast] at h4 HI HX ⊢
  unfold maxLen at hm hmx
  clear hv hc HK hmV
  generalize sh (lnK x n) x = Y at *
  generalize lnK x n = K at *
  have tk : ((K : Int) == 0) = false := by rw [beq_eq_false_iff_ne]; omega
  have hrow : Hid (∀ W, Up w W → ByRow W (.slice (some ⟨b, if cap = K then off else off + K, none⟩) m (cap - K)) m Y) := by
    intro W hW
    by_cases hz : m = 0
    · subst hz; exact .inl ⟨rfl, _, _, rfl, fun h => by cases h⟩
    · rw [if_neg (by omega)]
      exact .inr ⟨by omega, by unfold maxLen; omega, b, off + K, cap - K, rfl, fun i hi => ⟨(HX.out i hi).1, hW.keep (HX.out i hi).2⟩, by omega, by unfold maxLen; omega⟩
  have HJ := hid (fun (W : World) (hW : Up w W) => join_any W.heap.size (.slice none 0 0) _ 0 m (fun _ => 0) Y (by omega) W (OwnB.nil _ _ _) (Nat.le_refl _) (hrow.out W hW) (.inr (by simp [Value.ownBlock])))
  have HJ2 : Hid (∀ (W : World) (hW : Up w W), Calls Tryz.prog 52 #[.slice none 0 0, .slice (some ⟨b, if cap = K then off else off + K, none⟩) m (cap - K)] W fun e w' => ∃ ja jc, e = .returned (.slice ja m jc) ∧ OwnB W.heap.size w' (.slice ja m jc) m Y ∧ Up W w') := fun W hW => (HJ.out W hW).mono (fun e w' h => by
    obtain ⟨v', h1, h2, h3⟩ := h
    have h4 : OwnB W.heap.size w' v' m Y := by
      have h5 := h2.congr (y := Y) (fun i hi => by simp [cat])
      rw [Nat.zero_add] at h5; exact h5
    obtain ⟨ja, jc, rfl, _⟩ := h4.len
    exact ⟨ja, jc, h1, h4, h3.below (OwnB.nil W.heap.size W (fun _ => 0)) (Nat.le_refl _)⟩)
  clear HJ hrow HX
  by_cases hcK : cap = K
  · rw [if_pos hcK] at HJ2
    subst hcK
    rw [Nat.sub_self] at HJ2
    go_enter Tryz.func54, Tryz.ntmps54
    go_upto_region 2 with fail
    have hbx := boxes w 3
    generalize ((w.alloc (.cells #[.int .i64 0, .int .i64 0, .float .f64 0, .slice none 0 0, .bool false] 82)).alloc (.cells #[.int .i64 3, .int .i64 0, .float .f64 0, .slice none 0 0, .bool false] 82)) = WW at hbx ⊢
    obtain ⟨⟨hb4, hb5⟩, uW⟩ := hbx
    have UW := hid uW
    have HB4 := hid hb4
    have HB5 := hid hb5
    have hszW : w.heap.size + 2 ≤ WW.heap.size := by have := hb5.lt; omega
    clear hb4 hb5 uW
    go_wp2_with (first | (go_at_call 83; refine (HN.out _ UW.out).mono ?_; rintro e w1 ⟨rfl, hw⟩; have hw2 := hw.symm; subst hw2) | (go_at_call 52; fail))
    refine (HJ2.out _ UW.out).mono ?_
    rintro e w1 ⟨ja, jc, rfl, o1, u1⟩
    have hb4 := HB4.out.up u1
    have hb5 := HB5.out.up u1
    have uW := Up.trans UW.out u1
    have HRow : Hid (ByRow ((((((w1.setCell ⟨w.heap.size + 1, 3, none⟩ (.slice ja m jc)).setCell ⟨w.heap.size, 0, none⟩ (.int .i64 3)).setCell ⟨w.heap.size, 1, none⟩ (.int .i64 0)).setCell ⟨w.heap.size, 2, none⟩ (.float .f64 0)).setCell ⟨w.heap.size, 3, none⟩ (.slice ja m jc)).setCell ⟨w.heap.size, 4, none⟩ (.bool false)) (.slice ja m jc) m Y) := o1.row.chg ((((((Chg.set (S := [w.heap.size, w.heap.size + 1]) _ _ _ (by simp)).trans (Chg.set _ _ _ (by simp))).trans (Chg.set _ _ _ (by simp))).trans (Chg.set _ _ _ (by simp))).trans (Chg.set _ _ _ (by simp))).trans (Chg.set _ _ _ (by simp))) (.inr (fun bb hb => by have := (World.ownsRow.lt o1.own bb hb).1; simp; omega))
    have HFr : Hid (m = 0 ∨ ∃ g, (Value.slice ja m jc).ownBlock = some g ∧ w.heap.size ≤ g) := by
      by_cases hz0 : m = 0
      · exact .inl hz0
      · obtain ⟨ad, c', e5, h5, h6⟩ := o1.len
        cases e5
        right
        cases ja with
        | none => exact absurd (h5 rfl).1 hz0
        | some ad =>
          refine ⟨ad.block, rfl, ?_⟩
          have := (h6 ad rfl).2.2.1
          omega
    clear o1 u1
    have hb6 : BoxR (w1.setCell ⟨w.heap.size + 1, 3, none⟩ (.slice ja m jc)) (w.heap.size + 1) #[.int .i64 3, .int .i64 0, .float .f64 0, .slice ja m jc, .bool false] := heap_setCell_same _ (w.heap.size + 1) 3 _ _ (.slice ja m jc) hb5
    have hb7 : BoxR (w1.setCell ⟨w.heap.size + 1, 3, none⟩ (.slice ja m jc)) w.heap.size #[.int .i64 0, .int .i64 0, .float .f64 0, .slice none 0 0, .bool false] := (Below.heap_setCell _ _ _ _ (by simp)).trans hb4
    have f3 := hb5.free 3
    have d3 := hb5.cell 3 _ rfl
    have q0 := (hb6).cell 0 _ rfl
    have q1 := (hb6).cell 1 _ rfl
    have q2 := (hb6).cell 2 _ rfl
    have q3 := (hb6).cell 3 _ rfl
    have q4 := (hb6).cell 4 _ rfl
    have p0 := (hb7).cell 0 _ rfl
    have p1 := (hb7).cell 1 _ rfl
    have p2 := (hb7).cell 2 _ rfl
    have p3 := (hb7).cell 3 _ rfl
    have p4 := (hb7).cell 4 _ rfl
    have z0 := (hb7).free 0
    have z1 := (hb7).free 1
    have z2 := (hb7).free 2
    have z3 := (hb7).free 3
    have z4 := (hb7).free 4
    have HX4 := hid (hb7)
    clear hb4 hb5 hb6 hb7
    go_wp2
    have hfin := (((((HX4.out.put 0 (.int .i64 3)).put 1 (.int .i64 0)).put 2 (.float .f64 0)).put 3 (.slice ja m jc)).put 4 (.bool false))
    have UF : Up w ((((((w1.setCell ⟨w.heap.size + 1, 3, none⟩ (.slice ja m jc)).setCell ⟨w.heap.size, 0, none⟩ (.int .i64 3)).setCell ⟨w.heap.size, 1, none⟩ (.int .i64 0)).setCell ⟨w.heap.size, 2, none⟩ (.float .f64 0)).setCell ⟨w.heap.size, 3, none⟩ (.slice ja m jc)).setCell ⟨w.heap.size, 4, none⟩ (.bool false)) := (((((uW.setCell (p := ⟨w.heap.size + 1, 3, none⟩) (Nat.le_succ _) _).setCell (Nat.le_refl _) _).setCell (Nat.le_refl _) _).setCell (Nat.le_refl _) _).setCell (Nat.le_refl _) _).setCell (Nat.le_refl _) _
    have g0 := hfin.cell 0 (.int .i64 3) rfl
    have g1 := hfin.cell 1 (.int .i64 0) rfl
    have g2 := hfin.cell 2 (.float .f64 0) rfl
    have g3 := hfin.cell 3 (.slice ja m jc) rfl
    have g4 := hfin.cell 4 (.bool false) rfl
    refine bodyPost_ret (v := .tuple #[.agg #[.int .i64 3, .int .i64 0, .float .f64 0, .slice ja m jc, .bool false], .int .i64 ((cap + m : Nat) : Int)]) (by simp [results, Tryz.results54, go_sem, g0, g1, g2, g3, g4]) rfl ⟨⟨3, 0, 0, .slice ja m jc, m, Y, false⟩, by first | rfl | (simp [PV.agg]; done), ⟨by simp, by simp, by simp, HRow.out⟩, fun _ => ⟨HI.out _, HFr.out⟩, UF⟩
  · rw [if_neg hcK] at HJ2
    go_enter Tryz.func54, Tryz.ntmps54
    go_upto_region 2 with fail
    have hbx := boxes w 3
    generalize ((w.alloc (.cells #[.int .i64 0, .int .i64 0, .float .f64 0, .slice none 0 0, .bool false] 82)).alloc (.cells #[.int .i64 3, .int .i64 0, .float .f64 0, .slice none 0 0, .bool false] 82)) = WW at hbx ⊢
    obtain ⟨⟨hb4, hb5⟩, uW⟩ := hbx
    have UW := hid uW
    have HB4 := hid hb4
    have HB5 := hid hb5
    have hszW : w.heap.size + 2 ≤ WW.heap.size := by have := hb5.lt; omega
    clear hb4 hb5 uW
    go_wp2_with (first | (go_at_call 83; refine (HN.out _ UW.out).mono ?_; rintro e w1 ⟨rfl, hw⟩; have hw2 := hw.symm; subst hw2) | (go_at_call 52; fail))
    refine (HJ2.out _ UW.out).mono ?_
    rintro e w1 ⟨ja, jc, rfl, o1, u1⟩
    have hb4 := HB4.out.up u1
    have hb5 := HB5.out.up u1
    have uW := Up.trans UW.out u1
    have HRow : Hid (ByRow ((((((w1.setCell ⟨w.heap.size + 1, 3, none⟩ (.slice ja m jc)).setCell ⟨w.heap.size, 0, none⟩ (.int .i64 3)).setCell ⟨w.heap.size, 1, none⟩ (.int .i64 0)).setCell ⟨w.heap.size, 2, none⟩ (.float .f64 0)).setCell ⟨w.heap.size, 3, none⟩ (.slice ja m jc)).setCell ⟨w.heap.size, 4, none⟩ (.bool false)) (.slice ja m jc) m Y) := o1.row.chg ((((((Chg.set (S := [w.heap.size, w.heap.size + 1]) _ _ _ (by simp)).trans (Chg.set _ _ _ (by simp))).trans (Chg.set _ _ _ (by simp))).trans (Chg.set _ _ _ (by simp))).trans (Chg.set _ _ _ (by simp))).trans (Chg.set _ _ _ (by simp))) (.inr (fun bb hb => by have := (World.ownsRow.lt o1.own bb hb).1; simp; omega))
    have HFr : Hid (m = 0 ∨ ∃ g, (Value.slice ja m jc).ownBlock = some g ∧ w.heap.size ≤ g) := by
      by_cases hz0 : m = 0
      · exact .inl hz0
      · obtain ⟨ad, c', e5, h5, h6⟩ := o1.len
        cases e5
        right
        cases ja with
        | none => exact absurd (h5 rfl).1 hz0
        | some ad =>
          refine ⟨ad.block, rfl, ?_⟩
          have := (h6 ad rfl).2.2.1
          omega
    clear o1 u1
    have hb6 : BoxR (w1.setCell ⟨w.heap.size + 1, 3, none⟩ (.slice ja m jc)) (w.heap.size + 1) #[.int .i64 3, .int .i64 0, .float .f64 0, .slice ja m jc, .bool false] := heap_setCell_same _ (w.heap.size + 1) 3 _ _ (.slice ja m jc) hb5
    have hb7 : BoxR (w1.setCell ⟨w.heap.size + 1, 3, none⟩ (.slice ja m jc)) w.heap.size #[.int .i64 0, .int .i64 0, .float .f64 0, .slice none 0 0, .bool false] := (Below.heap_setCell _ _ _ _ (by simp)).trans hb4
    have f3 := hb5.free 3
    have d3 := hb5.cell 3 _ rfl
    have q0 := (hb6).cell 0 _ rfl
    have q1 := (hb6).cell 1 _ rfl
    have q2 := (hb6).cell 2 _ rfl
    have q3 := (hb6).cell 3 _ rfl
    have q4 := (hb6).cell 4 _ rfl
    have p0 := (hb7).cell 0 _ rfl
    have p1 := (hb7).cell 1 _ rfl
    have p2 := (hb7).cell 2 _ rfl
    have p3 := (hb7).cell 3 _ rfl
    have p4 := (hb7).cell 4 _ rfl
    have z0 := (hb7).free 0
    have z1 := (hb7).free 1
    have z2 := (hb7).free 2
    have z3 := (hb7).free 3
    have z4 := (hb7).free 4
    have HX4 := hid (hb7)
    clear hb4 hb5 hb6 hb7
    go_wp2
    have hfin := (((((HX4.out.put 0 (.int .i64 3)).put 1 (.int .i64 0)).put 2 (.float .f64 0)).put 3 (.slice ja m jc)).put 4 (.bool false))
    have UF : Up w ((((((w1.setCell ⟨w.heap.size + 1, 3, none⟩ (.slice ja m jc)).setCell ⟨w.heap.size, 0, none⟩ (.int .i64 3)).setCell ⟨w.heap.size, 1, none⟩ (.int .i64 0)).setCell ⟨w.heap.size, 2, none⟩ (.float .f64 0)).setCell ⟨w.heap.size, 3, none⟩ (.slice ja m jc)).setCell ⟨w.heap.size, 4, none⟩ (.bool false)) := (((((uW.setCell (p := ⟨w.heap.size + 1, 3, none⟩) (Nat.le_succ _) _).setCell (Nat.le_refl _) _).setCell (Nat.le_refl _) _).setCell (Nat.le_refl _) _).setCell (Nat.le_refl _) _).setCell (Nat.le_refl _) _
    have g0 := hfin.cell 0 (.int .i64 3) rfl
    have g1 := hfin.cell 1 (.int .i64 0) rfl
    have g2 := hfin.cell 2 (.float .f64 0) rfl
    have g3 := hfin.cell 3 (.slice ja m jc) rfl
    have g4 := hfin.cell 4 (.bool false) rfl
    refine bodyPost_ret (v := .tuple #[.agg #[.int .i64 3, .int .i64 0, .float .f64 0, .slice ja m jc, .bool false], .int .i64 ((K + m : Nat) : Int)]) (by simp [results, Tryz.results54, go_sem, g0, g1, g2, g3, g4]) rfl ⟨⟨3, 0, 0, .slice ja m jc, m, Y, false⟩, by first | rfl | (simp [PV.agg]; done), ⟨by simp, by simp, by simp, HRow.out⟩, fun _ => ⟨HI.out _, HFr.out⟩, UF⟩
set_option maxHeartbeats 1000000 in
set_option maxRecDepth 20000 in
theorem one_3bad (v : Value) (n : Nat) (x : Nat → Nat) (w : World) (hv : ByRow w v n x) (hg : ¬ (lnK x n ≠ 0 ∧ 0 ≤ lnV x n ∧ lnV x n ≤ 4096 ∧ (lnV x n).toNat ≤ n - lnK x n)) :
    Calls Tryz.prog 54 #[v, .int .i64 3] w fun e w' => OneOut w 3 n x e w' := by
  have HN := hid (fun (W : World) (hW : Up w W) => refGetNum_any v n x W (hv.up hW))
  have hkn : lnK x n ≤ n := ln_le x n 11 0
  have hmx := hv.max
  have HK : vK 3 x n = 0 := by show lbK x n = 0; unfold lbK; rw [if_neg hg]
  obtain ⟨va, vc, rfl⟩ := hv.slice
  unfold OneOut
  rw [HK]
  clear hv HK
  unfold maxLen at hmx
  generalize lnV x n = V at *
  generalize lnK x n = K at *
  by_cases c1 : K = 0
  · subst c1
    go_enter Tryz.func54, Tryz.ntmps54
    go_upto_region 2 with fail
    have hbx := boxes w 3
    generalize ((w.alloc (.cells #[.int .i64 0, .int .i64 0, .float .f64 0, .slice none 0 0, .bool false] 82)).alloc (.cells #[.int .i64 3, .int .i64 0, .float .f64 0, .slice none 0 0, .bool false] 82)) = WW at hbx ⊢
    obtain ⟨⟨hb4, hb5⟩, uW⟩ := hbx
    have q0 := (hb5).cell 0 _ rfl
    have q1 := (hb5).cell 1 _ rfl
    have q2 := (hb5).cell 2 _ rfl
    have q3 := (hb5).cell 3 _ rfl
    have q4 := (hb5).cell 4 _ rfl
    have p0 := (hb4).cell 0 _ rfl
    have p1 := (hb4).cell 1 _ rfl
    have p2 := (hb4).cell 2 _ rfl
    have p3 := (hb4).cell 3 _ rfl
    have p4 := (hb4).cell 4 _ rfl
    have z0 := (hb4).free 0
    have z1 := (hb4).free 1
    have z2 := (hb4).free 2
    have z3 := (hb4).free 3
    have z4 := (hb4).free 4
    have HX4 := hid (hb4)
    have UW := hid uW
    clear hb4 hb5
    go_wp2_with (go_at_call 83; refine (HN.out _ UW.out).mono ?_; rintro e w1 ⟨rfl, hw⟩; have hw2 := hw.symm; subst hw2)
    have hfin := (((((HX4.out.put 0 (.int .i64 3)).put 1 (.int .i64 0)).put 2 (.float .f64 0)).put 3 (.slice none 0 0)).put 4 (.bool false))
    have UF : Up w (((((WW.setCell ⟨w.heap.size, 0, none⟩ (.int .i64 3)).setCell ⟨w.heap.size, 1, none⟩ (.int .i64 0)).setCell ⟨w.heap.size, 2, none⟩ (.float .f64 0)).setCell ⟨w.heap.size, 3, none⟩ (.slice none 0 0)).setCell ⟨w.heap.size, 4, none⟩ (.bool false)) := (((((uW).setCell (Nat.le_refl _) _).setCell (Nat.le_refl _) _).setCell (Nat.le_refl _) _).setCell (Nat.le_refl _) _).setCell (Nat.le_refl _) _
    have g0 := hfin.cell 0 (.int .i64 3) rfl
    have g1 := hfin.cell 1 (.int .i64 0) rfl
    have g2 := hfin.cell 2 (.float .f64 0) rfl
    have g3 := hfin.cell 3 (.slice none 0 0) rfl
    have g4 := hfin.cell 4 (.bool false) rfl
    refine bodyPost_ret (v := .tuple #[.agg #[.int .i64 3, .int .i64 0, .float .f64 0, .slice none 0 0, .bool false], .int .i64 0]) (by simp [results, Tryz.results54, go_sem, g0, g1, g2, g3, g4]) rfl ⟨⟨3, 0, 0, .slice none 0 0, 0, fun _ => 0, false⟩, by first | rfl | (simp [PV.agg]; done), ⟨by simp, by simp, by simp, one_nil _⟩, fun h => absurd rfl h, UF⟩
  · have tk : ((K : Int) == 0) = false := by rw [beq_eq_false_iff_ne]; omega
    by_cases c2 : V < 0
    · have t2 : decide (V < 0) = true := by rw [decide_eq_true_eq]; exact c2
      go_enter Tryz.func54, Tryz.ntmps54
      go_upto_region 2 with fail
      have hbx := boxes w 3
      generalize ((w.alloc (.cells #[.int .i64 0, .int .i64 0, .float .f64 0, .slice none 0 0, .bool false] 82)).alloc (.cells #[.int .i64 3, .int .i64 0, .float .f64 0, .slice none 0 0, .bool false] 82)) = WW at hbx ⊢
      obtain ⟨⟨hb4, hb5⟩, uW⟩ := hbx
      have q0 := (hb5).cell 0 _ rfl
      have q1 := (hb5).cell 1 _ rfl
      have q2 := (hb5).cell 2 _ rfl
      have q3 := (hb5).cell 3 _ rfl
      have q4 := (hb5).cell 4 _ rfl
      have p0 := (hb4).cell 0 _ rfl
      have p1 := (hb4).cell 1 _ rfl
      have p2 := (hb4).cell 2 _ rfl
      have p3 := (hb4).cell 3 _ rfl
      have p4 := (hb4).cell 4 _ rfl
      have z0 := (hb4).free 0
      have z1 := (hb4).free 1
      have z2 := (hb4).free 2
      have z3 := (hb4).free 3
      have z4 := (hb4).free 4
      have HX4 := hid (hb4)
      have UW := hid uW
      clear hb4 hb5
      go_wp2_with (go_at_call 83; refine (HN.out _ UW.out).mono ?_; rintro e w1 ⟨rfl, hw⟩; have hw2 := hw.symm; subst hw2)
      have hfin := (((((HX4.out.put 0 (.int .i64 3)).put 1 (.int .i64 0)).put 2 (.float .f64 0)).put 3 (.slice none 0 0)).put 4 (.bool false))
      have UF : Up w (((((WW.setCell ⟨w.heap.size, 0, none⟩ (.int .i64 3)).setCell ⟨w.heap.size, 1, none⟩ (.int .i64 0)).setCell ⟨w.heap.size, 2, none⟩ (.float .f64 0)).setCell ⟨w.heap.size, 3, none⟩ (.slice none 0 0)).setCell ⟨w.heap.size, 4, none⟩ (.bool false)) := (((((uW).setCell (Nat.le_refl _) _).setCell (Nat.le_refl _) _).setCell (Nat.le_refl _) _).setCell (Nat.le_refl _) _).setCell (Nat.le_refl _) _
      have g0 := hfin.cell 0 (.int .i64 3) rfl
      have g1 := hfin.cell 1 (.int .i64 0) rfl
      have g2 := hfin.cell 2 (.float .f64 0) rfl
      have g3 := hfin.cell 3 (.slice none 0 0) rfl
      have g4 := hfin.cell 4 (.bool false) rfl
      refine bodyPost_ret (v := .tuple #[.agg #[.int .i64 3, .int .i64 0, .float .f64 0, .slice none 0 0, .bool false], .int .i64 0]) (by simp [results, Tryz.results54, go_sem, g0, g1, g2, g3, g4]) rfl ⟨⟨3, 0, 0, .slice none 0 0, 0, fun _ => 0, false⟩, by first | rfl | (simp [PV.agg]; done), ⟨by simp, by simp, by simp, one_nil _⟩, fun h => absurd rfl h, UF⟩
    · have t2 : decide (V < 0) = false := by rw [decide_eq_false_iff_not]; exact c2
      by_cases c3 : 4096 < V
      · have t3 : decide (4096 < V) = true := by rw [decide_eq_true_eq]; exact c3
        go_enter Tryz.func54, Tryz.ntmps54
        go_upto_region 2 with fail
        have hbx := boxes w 3
        generalize ((w.alloc (.cells #[.int .i64 0, .int .i64 0, .float .f64 0, .slice none 0 0, .bool false] 82)).alloc (.cells #[.int .i64 3, .int .i64 0, .float .f64 0, .slice none 0 0, .bool false] 82)) = WW at hbx ⊢
        obtain ⟨⟨hb4, hb5⟩, uW⟩ := hbx
        have q0 := (hb5).cell 0 _ rfl
        have q1 := (hb5).cell 1 _ rfl
        have q2 := (hb5).cell 2 _ rfl
        have q3 := (hb5).cell 3 _ rfl
        have q4 := (hb5).cell 4 _ rfl
        have p0 := (hb4).cell 0 _ rfl
        have p1 := (hb4).cell 1 _ rfl
        have p2 := (hb4).cell 2 _ rfl
        have p3 := (hb4).cell 3 _ rfl
        have p4 := (hb4).cell 4 _ rfl
        have z0 := (hb4).free 0
        have z1 := (hb4).free 1
        have z2 := (hb4).free 2
        have z3 := (hb4).free 3
        have z4 := (hb4).free 4
        have HX4 := hid (hb4)
        have UW := hid uW
        clear hb4 hb5
        go_wp2_with (go_at_call 83; refine (HN.out _ UW.out).mono ?_; rintro e w1 ⟨rfl, hw⟩; have hw2 := hw.symm; subst hw2)
        have hfin := (((((HX4.out.put 0 (.int .i64 3)).put 1 (.int .i64 0)).put 2 (.float .f64 0)).put 3 (.slice none 0 0)).put 4 (.bool false))
        have UF : Up w (((((WW.setCell ⟨w.heap.size, 0, none⟩ (.int .i64 3)).setCell ⟨w.heap.size, 1, none⟩ (.int .i64 0)).setCell ⟨w.heap.size, 2, none⟩ (.float .f64 0)).setCell ⟨w.heap.size, 3, none⟩ (.slice none 0 0)).setCell ⟨w.heap.size, 4, none⟩ (.bool false)) := (((((uW).setCell (Nat.le_refl _) _).setCell (Nat.le_refl _) _).setCell (Nat.le_refl _) _).setCell (Nat.le_refl _) _).setCell (Nat.le_refl _) _
        have g0 := hfin.cell 0 (.int .i64 3) rfl
        have g1 := hfin.cell 1 (.int .i64 0) rfl
        have g2 := hfin.cell 2 (.float .f64 0) rfl
        have g3 := hfin.cell 3 (.slice none 0 0) rfl
        have g4 := hfin.cell 4 (.bool false) rfl
        refine bodyPost_ret (v := .tuple #[.agg #[.int .i64 3, .int .i64 0, .float .f64 0, .slice none 0 0, .bool false], .int .i64 0]) (by simp [results, Tryz.results54, go_sem, g0, g1, g2, g3, g4]) rfl ⟨⟨3, 0, 0, .slice none 0 0, 0, fun _ => 0, false⟩, by first | rfl | (simp [PV.agg]; done), ⟨by simp, by simp, by simp, one_nil _⟩, fun h => absurd rfl h, UF⟩
      · have t3 : decide (4096 < V) = false := by rw [decide_eq_false_iff_not]; exact c3
        have t4 : decide ((n : Int) - (K : Int) < V) = true := by rw [decide_eq_true_eq]; omega
        have c4 : (n : Int) - (K : Int) < V := by omega
        go_enter Tryz.func54, Tryz.ntmps54
        go_upto_region 2 with fail
        have hbx := boxes w 3
        generalize ((w.alloc (.cells #[.int .i64 0, .int .i64 0, .float .f64 0, .slice none 0 0, .bool false] 82)).alloc (.cells #[.int .i64 3, .int .i64 0, .float .f64 0, .slice none 0 0, .bool false] 82)) = WW at hbx ⊢
        obtain ⟨⟨hb4, hb5⟩, uW⟩ := hbx
        have q0 := (hb5).cell 0 _ rfl
        have q1 := (hb5).cell 1 _ rfl
        have q2 := (hb5).cell 2 _ rfl
        have q3 := (hb5).cell 3 _ rfl
        have q4 := (hb5).cell 4 _ rfl
        have p0 := (hb4).cell 0 _ rfl
        have p1 := (hb4).cell 1 _ rfl
        have p2 := (hb4).cell 2 _ rfl
        have p3 := (hb4).cell 3 _ rfl
        have p4 := (hb4).cell 4 _ rfl
        have z0 := (hb4).free 0
        have z1 := (hb4).free 1
        have z2 := (hb4).free 2
        have z3 := (hb4).free 3
        have z4 := (hb4).free 4
        have HX4 := hid (hb4)
        have UW := hid uW
        clear hb4 hb5
        go_wp2_with (go_at_call 83; refine (HN.out _ UW.out).mono ?_; rintro e w1 ⟨rfl, hw⟩; have hw2 := hw.symm; subst hw2)
        have hfin := (((((HX4.out.put 0 (.int .i64 3)).put 1 (.int .i64 0)).put 2 (.float .f64 0)).put 3 (.slice none 0 0)).put 4 (.bool false))
        have UF : Up w (((((WW.setCell ⟨w.heap.size, 0, none⟩ (.int .i64 3)).setCell ⟨w.heap.size, 1, none⟩ (.int .i64 0)).setCell ⟨w.heap.size, 2, none⟩ (.float .f64 0)).setCell ⟨w.heap.size, 3, none⟩ (.slice none 0 0)).setCell ⟨w.heap.size, 4, none⟩ (.bool false)) := (((((uW).setCell (Nat.le_refl _) _).setCell (Nat.le_refl _) _).setCell (Nat.le_refl _) _).setCell (Nat.le_refl _) _).setCell (Nat.le_refl _) _
        have g0 := hfin.cell 0 (.int .i64 3) rfl
        have g1 := hfin.cell 1 (.int .i64 0) rfl
        have g2 := hfin.cell 2 (.float .f64 0) rfl
        have g3 := hfin.cell 3 (.slice none 0 0) rfl
        have g4 := hfin.cell 4 (.bool false) rfl
        refine bodyPost_ret (v := .tuple #[.agg #[.int .i64 3, .int .i64 0, .float .f64 0, .slice none 0 0, .bool false], .int .i64 0]) (by simp [results, Tryz.results54, go_sem, g0, g1, g2, g3, g4]) rfl ⟨⟨3, 0, 0, .slice none 0 0, 0, fun _ => 0, false⟩, by first | rfl | (simp [PV.agg]; done), ⟨by simp, by simp, by simp, one_nil _⟩, fun h => absurd rfl h, UF⟩
theorem one_any (q : Int) (hq : 1 ≤ q ∧ q ≤ 4) (v : Value) (n : Nat) (x : Nat → Nat) (w : World) (hv : ByRow w v n x) :
    Calls Tryz.prog 54 #[v, .int .i64 q] w fun e w' => OneOut w q n x e w' := by
  obtain rfl | rfl | rfl | rfl : q = 1 ∨ q = 2 ∨ q = 3 ∨ q = 4 := by omega
  · exact one_1 v n x w hv
  · by_cases h : 8 ≤ n
    · obtain ⟨b, off, cap, rfl, hc, hnc, hm⟩ := hv.cells (by omega)
      exact one_2 b off n cap x w h hnc hm hc
    · exact one_2short v n x w hv (by omega)
  · by_cases hg : lnK x n ≠ 0 ∧ 0 ≤ lnV x n ∧ lnV x n ≤ 4096 ∧ (lnV x n).toNat ≤ n - lnK x n
    · exact one_3 v n x w hv hg
    · exact one_3bad v n x w hv hg
  · exact one_4 v n x w hv
end Go.Proofs.YtfphopleniidfaaGreatDoor.Pk
namespace Go.Proofs.YtfphopleniidfaaGreatDoor.Pk
set_option maxRecDepth 20000
open Go.RowKit
set_option linter.unusedVariables false
attribute [local go_sem] run_bits run_frombits run_store_float
/-- What the document's Get answers. -/
def GetOutR (w : World) (n m : Nat) (x : Nat → Nat) (ks : Nat → Int) (e : Ending) (w' : World) : Prop :=
  (unk ks m ∧ e = .returned (.tuple #[.slice none 0 0, .int .i64 1])) ∨
  (¬ unk ks m ∧ (∀ i, i < m → vKat ks x n i ≠ 0) ∧ pos ks x n m = n ∧ ∃ v f, e = .returned (.tuple #[v, .int .i64 0]) ∧ OwnR w.heap.size w' v m f ∧ ∀ j, j < m → IsVat ks x n j (f j) ∧ PV.In w' (f j) ∧ ((f j).bn = 0 ∨ ∃ g, (f j).b.ownBlock = some g ∧ w.heap.size ≤ g)) ∨
  (¬ unk ks m ∧ ((∃ i, i < m ∧ vKat ks x n i = 0) ∨ pos ks x n m < n) ∧ e = .returned (.tuple #[.slice none 0 0, .int .i64 30]))
structure GU (w0 : World) (n : Nat) (x : Nat → Nat) (ks : Nat → Int) (k : Nat) (bb v : Value) (f : Nat → PV) (wr : World) : Prop where
  row : ByRow wr bb (n - pos ks x n k) (sh (pos ks x n k) x)
  rblk : n - pos ks x n k = 0 ∨ ∃ b, bb.ownBlock = some b ∧ b < w0.heap.size
  own : OwnR w0.heap.size wr v k f
  each : ∀ j, j < k → vKat ks x n j ≠ 0 ∧ IsVat ks x n j (f j) ∧ PV.In wr (f j) ∧ ((f j).bn = 0 ∨ ∃ g, (f j).b.ownBlock = some g ∧ w0.heap.size ≤ g ∧ v.ownBlock ≠ some g)
  up : Up w0 wr
theorem GU.step {w0 : World} {n : Nat} {x : Nat → Nat} {ks : Nat → Int} {k : Nat} {bb bb' v : Value} {f : Nat → PV} {wr w1 w2 w3 : World} {p : PV} {g cap : Nat} {o : Obj}
    (G : GU w0 n x ks k bb v f wr) (hz : vKat ks x n k ≠ 0) (hp : IsVat ks x n k p) (hin : PV.In w1 p) (hfr : p.bn = 0 ∨ ∃ g, p.b.ownBlock = some g ∧ wr.heap.size ≤ g) (hu : Up wr w1) (hu2 : Up w1 w2)
    (hrow : ByRow w1 bb' (n - pos ks x n k - vKat ks x n k) (sh (vKat ks x n k) (sh (pos ks x n k) x))) (hrb : n - pos ks x n k - vKat ks x n k = 0 ∨ ∃ b, bb'.ownBlock = some b ∧ b < w0.heap.size)
    (hown : w3.ownsRow w0.heap.size 82 5 (.slice (some ⟨g, 0, none⟩) (k + 1) cap) (k + 1) (vl k f ++ [.int .i64 p.k, .int .i64 p.n, .float .f64 p.x, p.b, .bool p.on]))
    (hgr : (w2.alloc o).grownBy w3 v.ownBlock) (hat : v.ownBlock = some g ∨ w1.heap.size ≤ g) :
    GU w0 n x ks (k + 1) bb' (.slice (some ⟨g, 0, none⟩) (k + 1) cap) (catP k f (fun _ => p)) w3 := by
  have s0 := G.up.size
  have s1 := hu.size
  have s2 := hu2.size
  have ownlt : ∀ b, v.ownBlock = some b → w0.heap.size ≤ b ∧ b < wr.heap.size := fun b hb => World.ownsRow.lt G.own b hb
  let T : List Nat := match v.ownBlock with | some b => [b] | none => []
  have hT : ∀ b, b ∈ T ↔ v.ownBlock = some b := by
    intro b
    show b ∈ (match v.ownBlock with | some b => [b] | none => []) ↔ _
    cases v.ownBlock with
    | none => simp
    | some c => simp; exact eq_comm
  have c3 : Chg T w1 w3 := by
    refine ⟨hgr.os.trans hu2.os, hgr.tape.trans hu2.tape, hgr.output.trans hu2.output, ?_, fun i hi hn => ?_⟩
    · have := hgr.size; simp at this; omega
    · exact (hgr.block i (by simp; omega) (fun e => hn ((hT i).2 e.symm))).trans ((Below.heap_alloc _ _ _ (by omega)).trans (hu2.block i hi))
  have cR : Chg T wr w3 := Chg.up hu c3
  have notT : ∀ i, i < w0.heap.size → i ∉ T := fun i hi h => by have := (ownlt i ((hT i).1 h)).1; omega
  have epos : pos ks x n (k + 1) = pos ks x n k + vKat ks x n k := rfl
  have e1 : n - pos ks x n (k + 1) = n - pos ks x n k - vKat ks x n k := by omega
  refine ⟨?_, ?_, ?_, ?_, ?_⟩
  · rw [e1, epos, ← sh_sh]
    refine hrow.chg c3 ?_
    rcases hrb with h | ⟨b, h1, h2⟩
    · exact .inl h
    · right; intro b' hb'; rw [h1] at hb'; cases hb'; exact notT b h2
  · rw [e1]; exact hrb
  · unfold OwnR
    rw [← vl_cat, vl_one1]
    exact hown
  · intro j hj
    by_cases hjk : j < k
    · obtain ⟨e1, e2, e3, e4⟩ := G.each j hjk
      rw [show catP k f (fun _ => p) j = f j by simp [catP, hjk]]
      refine ⟨e1, e2, ?_, ?_⟩
      · refine e3.chg cR ?_
        rcases e4 with h | ⟨gj, h1, h2, h3⟩
        · exact .inl h
        · right; intro b hb; rw [h1] at hb; cases hb; exact fun h => h3 ((hT gj).1 h)
      · rcases e4 with h | ⟨gj, h1, h2, h3⟩
        · exact .inl h
        · by_cases hz0 : (f j).bn = 0
          · exact .inl hz0
          · right
            refine ⟨gj, h1, h2, ?_⟩
            have := e3.blk hz0 gj h1
            simp [Value.ownBlock]
            rcases hat with h | h
            · intro e; subst e; exact h3 h
            · omega
    · obtain rfl : j = k := by omega
      rw [show catP j f (fun _ => p) j = p by simp [catP]]
      refine ⟨hz, hp, ?_, ?_⟩
      · refine hin.chg c3 ?_
        rcases hfr with h | ⟨gp, h1, h2⟩
        · exact .inl h
        · right; intro b hb; rw [h1] at hb; cases hb
          exact fun h => by have := (ownlt gp ((hT gp).1 h)).2; omega
      · rcases hfr with h | ⟨gp, h1, h2⟩
        · exact .inl h
        · by_cases hz0 : p.bn = 0
          · exact .inl hz0
          · right
            refine ⟨gp, h1, by omega, ?_⟩
            have := hin.blk hz0 gp h1
            simp [Value.ownBlock]
            rcases hat with h | h
            · have := (ownlt g h).2; omega
            · omega
  · exact ⟨cR.os.trans G.up.os, cR.tape.trans G.up.tape, cR.output.trans G.up.output, Nat.le_trans s0 cR.size, fun i hi => (cR.block i (by omega) (notT i hi)).trans (G.up.block i hi)⟩
set_option maxHeartbeats 1000000 in
set_option maxRecDepth 20000 in
theorem refGet_any (a : Option Addr) (n c m kc : Nat) (ka : Option Addr) (x : Nat → Nat) (ks : Nat → Int) (w : World) (hv : ByRow w (.slice a n c) n x) (hka : KAt w ka m ks) (hm : m ≤ 1048576) :
    Calls Tryz.prog 25 #[.slice a n c, .slice ka m kc] w fun e w' => GetOutR w n m x ks e w' ∧ Up w w' := by
  obtain ⟨i0, hi, hz0, hz1, hz2⟩ := info_parts infoRVal
  have HK := hid hka
  have HV := hid hv
  clear hka hv
  go_enter Tryz.func25, Tryz.ntmps25
  go_wp2
  go_loop [6] (fun i => ∃ k : Nat, k ≤ m ∧ i = .int .i64 (k : Nat) ∧ ¬ unk ks k) (fun i => m - (intOf i).toNat)
  case atStart => exact ⟨0, Nat.zero_le _, rfl, fun ⟨i, h, _⟩ => by omega⟩
  case round =>
    obtain ⟨k, hk, rfl, h0⟩ := hrel
    by_cases hlt : k < m
    · obtain ⟨b, off, rfl, cx⟩ := HK.out k hlt
      have l1 : (0 : Int) ≤ (k : Int) := by omega
      have l2 : (k : Int) < (m : Int) := by omega
      have H0 := hid h0
      clear h0
      by_cases hq1 : ks k < 1
      · have HT : Hid (unk ks m) := ⟨k, hlt, .inl hq1⟩
        have t1 : decide (ks k < 1) = true := by rw [decide_eq_true_eq]; exact hq1
        clear HK HV
        generalize ks k = q at *
        go_wp2
        go_ret2
        exact ⟨.inl ⟨HT.out, rfl⟩, Up.refl _⟩
      · have t1 : decide (ks k < 1) = false := by rw [decide_eq_false_iff_not]; exact hq1
        by_cases hq2 : 4 < ks k
        · have HT : Hid (unk ks m) := ⟨k, hlt, .inr hq2⟩
          have t2 : decide (4 < ks k) = true := by rw [decide_eq_true_eq]; exact hq2
          clear HK HV
          generalize ks k = q at *
          go_wp2
          go_ret2
          exact ⟨.inl ⟨HT.out, rfl⟩, Up.refl _⟩
        · have t2 : decide (4 < ks k) = false := by rw [decide_eq_false_iff_not]; exact hq2
          have HT : Hid (¬ unk ks (k + 1)) := by
            rintro ⟨i, h1, h2⟩
            by_cases e : i = k
            · subst e; omega
            · exact H0.out ⟨i, by omega, h2⟩
          clear HK HV
          generalize ks k = q at *
          go_wp2
          go_round
          case rel => exact ⟨k + 1, hlt, by go_num, HT.out⟩
          case measure => simp [intOf]; omega
    · obtain rfl : m = k := by omega
      have HUn := hid h0
      have hq : Hid (∀ i, i < m → 1 ≤ ks i ∧ ks i ≤ 4) := fun i hi => by
        by_cases h : ks i < 1 ∨ 4 < ks i
        · exact absurd ⟨i, hi, h⟩ h0
        · omega
      clear h0 hlt
      go_wp2
      have G0 : Hid (GU w n x ks 0 (.slice a n c) (.slice (some ⟨w.heap.size, 0, none⟩) 0 0) (fun _ => ⟨0, 0, 0, .slice none 0 0, 0, fun _ => 0, false⟩) (w.alloc (.cells #[] 82))) := by
        refine ⟨?_, ?_, OwnR.empty (Nat.le_refl _) rfl, fun j hj => by omega, (Up.refl w).alloc _⟩
        · have h1 := HV.out.up ((Up.refl w).alloc (.cells #[] 82))
          simpa [pos] using (show ByRow _ (.slice a n c) (n - 0) (sh 0 x) by rw [show sh 0 x = x by funext i; simp [sh]]; exact h1)
        · by_cases hz : n = 0
          · left; simp [pos, hz]
          · right
            obtain ⟨b, off, cap, e, hc, _⟩ := HV.out.cells (by omega)
            refine ⟨b, by rw [e]; rfl, ?_⟩
            have := World.block_lt_of_cell? w _ (hc 0 (by omega)).2
            simpa using this
      go_loopw [0, 7, 8] (fun bb o i wr => ∃ (k : Nat) (f : Nat → PV) (B O : Value), B = bb ∧ O = o ∧ k ≤ m ∧ i = .int .i64 (k : Nat) ∧ GU w n x ks k B O f wr) (fun _ _ i _ => m - (intOf i).toNat)
      case atStart => exact ⟨0, _, _, _, rfl, rfl, Nat.zero_le _, rfl, G0.out⟩
      case round =>
        obtain ⟨k, f, B, O, rfl, rfl, hk', rfl, G⟩ := hrel
        have HG := hid G
        clear G G0
        by_cases hlt : k < m
        · obtain ⟨kb, ko, rfl, kcell⟩ := HK.out k hlt
          have kcr := HG.out.up.keep kcell
          have l1 : (0 : Int) ≤ (k : Int) := by omega
          have l2 : (k : Int) < (m : Int) := by omega
          have hl4 : k < 1048576 := by omega
          have HO := hid ((one_any (ks k) (hq.out k hlt) B (n - pos ks x n k) (sh (pos ks x n k) x) wr HG.out.row).mono (fun e w' h => show ∃ (p : PV) (pa : Option Addr) (pc : Nat), e = .returned (.tuple #[.agg #[.int .i64 p.k, .int .i64 p.n, .float .f64 p.x, .slice pa p.bn pc, .bool p.on], .int .i64 (vKat ks x n k : Nat)]) ∧ p.b = .slice pa p.bn pc ∧ PV.In w' p ∧ (vKat ks x n k ≠ 0 → IsVat ks x n k p ∧ (p.bn = 0 ∨ ∃ g, p.b.ownBlock = some g ∧ wr.heap.size ≤ g)) ∧ Up wr w' by
            obtain ⟨p, h1, h2, h3, h4⟩ := h
            obtain ⟨pa, pc, hpb⟩ := PV.slice h2
            exact ⟨p, pa, pc, by rw [h1]; unfold PV.agg; rw [hpb]; rfl, hpb, h2, h3, h4⟩))
          have hKle : vKat ks x n k ≤ n - pos ks x n k := vK_le _ _ _
          obtain ⟨ba, bc, hB⟩ := HG.out.row.slice
          by_cases hz : vKat ks x n k = 0
          · rw [hz] at HO
            have HZ := hid hz
            subst hB
            clear HK HV hz hKle
            generalize ks k = q at *
            go_wp2_with (go_at_call 54; refine HO.out.mono ?_; rintro e w1 ⟨p, pa, pc, rfl, hpb, hin, hisv, hu1⟩; have U1 := hid hu1; clear hin hisv hu1 hpb)
            go_ret2
            exact ⟨.inr (.inr ⟨HUn.out, .inl ⟨k, hlt, HZ.out⟩, rfl⟩), (Up.trans HG.out.up U1.out).alloc _⟩
          · clear hB
            obtain ⟨b, off, cap, rfl, hc, hnc, hmx⟩ := HG.out.row.cells (by omega)
            have hbl : b < w.heap.size := by
              rcases HG.out.rblk with h | ⟨b', h1, h2⟩
              · omega
              · simp [Value.ownBlock] at h1; omega
            have HZ := hid hz
            have HR1 : Hid (∀ W, Up wr W → ByRow W (cutv b off (n - pos ks x n k) cap (vKat ks x n k)) (n - pos ks x n k - vKat ks x n k) (sh (vKat ks x n k) (sh (pos ks x n k) x))) := by
              intro W hW
              unfold cutv
              by_cases hz2 : n - pos ks x n k - vKat ks x n k = 0
              · rw [hz2]; exact .inl ⟨rfl, _, _, rfl, fun h => by cases h⟩
              · rw [if_neg (by omega)]
                exact slice_row (fun i hi => ⟨(hc i hi).1, hW.keep (hc i hi).2⟩) hmx _ _ _ (by omega) (by omega) (by omega) (by omega)
            have HCut : Hid (cutv b off (n - pos ks x n k) cap (vKat ks x n k) = .slice (some ⟨b, if cap = vKat ks x n k then off else off + vKat ks x n k, none⟩) (n - pos ks x n k - vKat ks x n k) (cap - vKat ks x n k)) := rfl
            have HOwn := hid HG.out.own
            have HFin := hid (fun (w1 w2 w3 : World) (p : PV) (g cp : Nat) (o : Obj) (hisv : IsVat ks x n k p ∧ (p.bn = 0 ∨ ∃ g, p.b.ownBlock = some g ∧ wr.heap.size ≤ g)) (hin : PV.In w1 p) (hu : Up wr w1) (hu2 : Up w1 w2) (hown : w3.ownsRow w.heap.size 82 5 (.slice (some ⟨g, 0, none⟩) (k + 1) cp) (k + 1) (vl k f ++ [.int .i64 p.k, .int .i64 p.n, .float .f64 p.x, p.b, .bool p.on])) (hgr : (w2.alloc o).grownBy w3 O.ownBlock) (hat : O.ownBlock = some g ∨ w1.heap.size ≤ g) => GU.step (bb' := cutv b off (n - pos ks x n k) cap (vKat ks x n k)) HG.out HZ.out hisv.1 hin hisv.2 hu hu2 (HR1.out w1 hu) (.inr ⟨b, rfl, hbl⟩) hown hgr hat)
            unfold maxLen at hmx
            have hsr := HG.out.up.size
            clear HK HV hz HR1 hc
            generalize cutv b off (n - pos ks x n k) cap (vKat ks x n k) = CV at *
            generalize hKg : vKat ks x n k = KV at HO HCut hKle
            have tkz : ((KV : Int) == 0) = false := by have := HZ.out; rw [beq_eq_false_iff_ne]; omega
            clear hKg
            generalize n - pos ks x n k = NN at *
            generalize ks k = q at *
            by_cases hcap : cap = KV
            · rw [if_pos hcap] at HCut
              subst hcap
              rw [Nat.sub_self] at HCut
              obtain rfl : NN = cap := by omega
              rw [Nat.sub_self] at HCut
              go_wp2_with (first | (go_at_call 54; refine HO.out.mono ?_; rintro e w1 ⟨p, pa, pc, rfl, hpb, hin, hisv, hu1⟩; have U1 := hid hu1; have HIn := hid hin; have HIs := hid hisv; have HPb := hid hpb; have O1 := hid (OwnR.up (OwnR.up (OwnR.up HOwn.out hu1) ((Up.refl _).alloc (.cells #[.int .i64 p.k, .int .i64 p.n, .float .f64 p.x, .slice pa p.bn pc, .bool p.on] 82))) ((Up.refl _).alloc (.cells #[.int .i64 p.k, .int .i64 p.n, .float .f64 p.x, .slice pa p.bn pc, .bool p.on] 82))); have hs1 := hu1.size; clear hin hisv hu1 hpb) | (at_builtin; refine wpList_append_lies _ rfl (.tmp 47) (.tmp 49) 75 rfl w.heap.size 82 i0 _ 5 56 Tryz.underlying75 hi hz0 hz1 hz2 rfl (by decide) O k (vl k f) (by rfl) O1.out ⟨w1.heap.size + 1, 0, none⟩ 1 1 [.int .i64 p.k, .int .i64 p.n, .float .f64 p.x, .slice pa p.bn pc, .bool p.on] (by first | rfl | simp) rfl (fun jj uu hj => by have := World.news_of_block (cs := #[.int .i64 p.k, .int .i64 p.n, .float .f64 p.x, .slice pa p.bn pc, .bool p.on]) (t := 82) (fr := (0, 0)) (heap_alloc_new (w1.alloc (.cells #[.int .i64 p.k, .int .i64 p.n, .float .f64 p.x, .slice pa p.bn pc, .bool p.on] 82)) _) jj uu hj; simpa using this) (by simp [Value.oneCell']) (by omega) (by unfold maxLen; omega) (by omega) (by simp; omega) (w1.heap.size + 1 + 1) (by simp) ?_; intro g cp w3 hown hgr hat hgl3; have HF3 := hid (HFin.out w1 _ w3 p g cp _ (HIs.out (fun h => by simp [h] at tkz)) HIn.out U1.out ((Up.refl w1).alloc _) (by rw [HPb.out]; exact hown) hgr (by rcases hat with h | h; exact .inl h; exact .inr (by omega))); clear hown hgr hat))
              go_roundw
              case rel => exact ⟨k + 1, _, _, _, rfl, rfl, hlt, by go_num, by first | exact HCut.out ▸ HF3.out | (have h := HF3.out; rw [HCut.out] at h; exact h)⟩
              case measure => simp [intOf]; omega
            · rw [if_neg hcap] at HCut
              go_wp2_with (first | (go_at_call 54; refine HO.out.mono ?_; rintro e w1 ⟨p, pa, pc, rfl, hpb, hin, hisv, hu1⟩; have U1 := hid hu1; have HIn := hid hin; have HIs := hid hisv; have HPb := hid hpb; have O1 := hid (OwnR.up (OwnR.up (OwnR.up HOwn.out hu1) ((Up.refl _).alloc (.cells #[.int .i64 p.k, .int .i64 p.n, .float .f64 p.x, .slice pa p.bn pc, .bool p.on] 82))) ((Up.refl _).alloc (.cells #[.int .i64 p.k, .int .i64 p.n, .float .f64 p.x, .slice pa p.bn pc, .bool p.on] 82))); have hs1 := hu1.size; clear hin hisv hu1 hpb) | (at_builtin; refine wpList_append_lies _ rfl (.tmp 47) (.tmp 49) 75 rfl w.heap.size 82 i0 _ 5 56 Tryz.underlying75 hi hz0 hz1 hz2 rfl (by decide) O k (vl k f) (by rfl) O1.out ⟨w1.heap.size + 1, 0, none⟩ 1 1 [.int .i64 p.k, .int .i64 p.n, .float .f64 p.x, .slice pa p.bn pc, .bool p.on] (by first | rfl | simp) rfl (fun jj uu hj => by have := World.news_of_block (cs := #[.int .i64 p.k, .int .i64 p.n, .float .f64 p.x, .slice pa p.bn pc, .bool p.on]) (t := 82) (fr := (0, 0)) (heap_alloc_new (w1.alloc (.cells #[.int .i64 p.k, .int .i64 p.n, .float .f64 p.x, .slice pa p.bn pc, .bool p.on] 82)) _) jj uu hj; simpa using this) (by simp [Value.oneCell']) (by omega) (by unfold maxLen; omega) (by omega) (by simp; omega) (w1.heap.size + 1 + 1) (by simp) ?_; intro g cp w3 hown hgr hat hgl3; have HF3 := hid (HFin.out w1 _ w3 p g cp _ (HIs.out (fun h => by simp [h] at tkz)) HIn.out U1.out ((Up.refl w1).alloc _) (by rw [HPb.out]; exact hown) hgr (by rcases hat with h | h; exact .inl h; exact .inr (by omega))); clear hown hgr hat))
              go_roundw
              case rel => exact ⟨k + 1, _, _, _, rfl, rfl, hlt, by go_num, by first | exact HCut.out ▸ HF3.out | (have h := HF3.out; rw [HCut.out] at h; exact h)⟩
              case measure => simp [intOf]; omega
        · obtain rfl : m = k := by omega
          obtain ⟨ba, bc, rfl⟩ := HG.out.row.slice
          have hple := pos_le ks x n m
          by_cases hp : pos ks x n m = n
          · have e0 : n - pos ks x n m = 0 := by omega
            have HP := hid hp
            clear hp hple HK HV
            rw [e0]
            go_wp2
            go_ret2
            refine ⟨.inr (.inl ⟨HUn.out, fun i hi => (HG.out.each i hi).1, HP.out, O, f, rfl, HG.out.own, fun j hj => ?_⟩), HG.out.up⟩
            obtain ⟨_, e2, e3, e4⟩ := HG.out.each j hj
            refine ⟨e2, e3, ?_⟩
            rcases e4 with h | ⟨g, h1, h2, _⟩
            · exact .inl h
            · exact .inr ⟨g, h1, h2⟩
          · have e0 : 0 < n - pos ks x n m := by omega
            have HP : Hid (pos ks x n m < n) := by show pos ks x n m < n; omega
            clear hp hple HK HV
            generalize hNN : n - pos ks x n m = NN at e0 ⊢
            clear hNN
            go_wp2
            go_ret2
            exact ⟨.inr (.inr ⟨HUn.out, .inr HP.out, rfl⟩), HG.out.up⟩
end Go.Proofs.YtfphopleniidfaaGreatDoor.Pk
