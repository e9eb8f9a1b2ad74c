/- The library's sort with a function, by its contract, laid at this dump; no condition. -/
import Derived.Test.YtbkbnfgjkefcmaaGreatDsm
import Derived.Shelf.SlSortCmp.NoneTotal
import Derived.Shelf.Lay
import Derived.Ground.SlsfProg
import Derived.Lib.RowBridge
import Derived.Lib.SortBridge
namespace Go.Proofs
open Go.Shelf
shelf_lay_g SlLaysF.n6 Slsf 6 at Tryz 104 as YtbkbnfgjkefcmaaGreat.sortLaidF
end Go.Proofs
namespace Go.Proofs.YtbkbnfgjkefcmaaGreat
open Go.Shelf Go.RowKit Go.Lib Go.Sort
set_option linter.unusedVariables false
/-- A number's form. -/
def Form : Type := { b : Nat // Fl.W b ∧ Fl.canon b = b }
instance : Inhabited Form := ⟨⟨0, by unfold Fl.W; omega, Fl.canon_zero 0 (.inl rfl)⟩⟩
def encF (x : Form) : Value := .float .f64 x.1
def cfF (x y : Form) : Int := Fl.cmpc x.1 y.1
theorem ltF (x y : Form) : ltOf cfF x y = decide (Fl.code x.1 < Fl.code y.1) := by
  unfold ltOf cfF
  rcases Fl.cmpc_cases x.1 y.1 with ⟨h1, h2⟩ | ⟨h1, h2⟩ | ⟨h1, h2⟩
  · rw [h1]; simp [h2]
  · rw [h1]; simp; omega
  · rw [h1]; simp; omega
theorem swoF : SWO (ltOf cfF) where
  irrefl x := by rw [ltF]; simp
  trans x y z h1 h2 := by rw [ltF] at *; simp at *; omega
  ntrans x y z h1 h2 := by rw [ltF] at *; simp at *; omega
theorem form_eq (x y : Form) (h : Fl.code x.1 = Fl.code y.1) : x = y := by
  apply Subtype.ext
  have e : Fl.canon x.1 = Fl.canon y.1 := by rw [← Fl.of_code x.1 x.2.1, ← Fl.of_code y.1 y.2.1, h]
  rw [x.2.2, y.2.2] at e
  exact e
theorem totF (x y : Form) (h1 : ltOf cfF x y = false) (h2 : ltOf cfF y x = false) : x = y := by
  rw [ltF] at *; simp at *; exact form_eq x y (by omega)
theorem enter_cmp : ∀ args w, (callFunc 100 args).run Tryz.prog w = .ok (.enter 100 args) w := enters_of Tryz.func100 (by kernel_rfl) rfl
theorem cmpReadsF (blk off size : Nat) (w : World) : CmpReads Tryz.prog 100 #[] encF cfF blk off size w := fun _ _ _ _ x y => (cmp_any x.1 y.1 x.2.1 y.2.1 _).mono (fun e w' h => ⟨h.1, 0, h.2⟩)
/-- slices.SortFunc with flo.Cmp: a row of forms, in order. -/
theorem sort_forms (blk off cap : Nat) (d : Array Form) (w : World) (hH : Holds encF w blk off d) (hblk : blk < w.heap.size) (hsz : d.size < 4611686018427387904) :
    Calls Tryz.prog 104 #[.slice (some ⟨blk, off, none⟩) d.size cap, .func (.func 100) #[] #[]] w fun e w' => e = .returned (.tuple #[]) ∧ ∃ n os, w' = sortWorld encF w blk off n (d.toList.mergeSort fun x y => !(ltOf cfF) y x).toArray os := by
  have hS := Any.slices_SortFunc_total sortLaidF encF (fun _ => rfl) cfF swoF 100 #[] blk off cap d w enter_cmp (cmpReadsF blk off d.size w).lays hH hblk hsz totF
  exact hS
theorem sort_noneF (p : Option Addr) (c : Nat) (fv : Value) (w : World) : Calls Tryz.prog 104 #[.slice p 0 c, fv] w fun e w' => e = .returned (.tuple #[]) ∧ w' = w :=
  AnyF.slices_SortFunc_none (P := Tryz.prog) (ρ := sortLaidF_ren) { sortLaidF with } p c fv w
end Go.Proofs.YtbkbnfgjkefcmaaGreat
