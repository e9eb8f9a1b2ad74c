/- HardWhole, plain; a step as a law is given it; no condition. -/
import Derived.Test.YtdjlkmghdpmdiaaDoorG7j
import Derived.Test.YtdjlkmghdpmdiaaDoorG7i
import Derived.Lib.SmallJoins
namespace Go.Proofs.YtdjlkmghdpmdiaaDoor
open Go.RowKit Go.Lib Go.ChangeShapes Go.WideShapes Go.Joins
set_option linter.unusedVariables false
set_option linter.unusedSimpArgs false
set_option maxRecDepth 20000
def OpOne (v : Value) : Prop := ∃ (k t x n : Int) (c : Value), v = .agg #[.int .i64 k, .int .i64 t, .int .i64 x, .int .i64 n, c] ∧ (-9223372036854775808 ≤ t ∧ t ≤ 9223372036854775807) ∧ (-9223372036854775808 ≤ x ∧ x ≤ 9223372036854775807)
theorem cellsOp : Tryd.prog.cellsOf 36 = 5 := by kernel_rfl
theorem cellsI64 : Tryd.prog.cellsOf 2 = 1 := by kernel_rfl
theorem cellsIn : Tryd.prog.cellsOf 3 = 1 := by kernel_rfl
theorem wfJ {a : Int} (h : (Lit.int .i64 a).wf = true) : -9223372036854775808 ≤ a ∧ a ≤ 9223372036854775807 := by
  have e1 : IntKind.i64.min = -9223372036854775808 := by decide
  have e2 : IntKind.i64.max = 9223372036854775807 := by decide
  simp [Lit.wf, e1, e2] at h
  exact h
theorem open_op {H : Type} {enc : TypeId × Value → H} {w : World} {base : Nat} {v : Value} {d : DataW H} {ps : List MemPlace} (hv : Value.okWide Tryd.prog w .any base 36 v) (h : DataW.Trod enc Tryd.prog w 0 (fun _ => true) true 36 v d ps) : OpOne v := by
  obtain ⟨cs, rfl, hsz⟩ := okWide_struct Tryd.underlying36 hv
  rw [cellsOp] at hsz
  obtain ⟨l⟩ := cs
  match l, hsz with
  | [c0, c1, c2, c3, c4], _ =>
    obtain ⟨fuel, hf0⟩ := h
    obtain ⟨xs, n, _, _, hl, hlen, hf⟩ := DataW.trod_struct Tryd.underlying36 hf0
    match xs, hlen with
    | [y0, y1, y2, y3, y4], _ =>
      have h0 := hf 0 _ rfl
      have h1 := hf 1 _ rfl
      have h2 := hf 2 _ rfl
      have h3 := hf 3 _ rfl
      simp [cellsI64, cellsIn, Value.cells] at h0 h1 h2 h3
      obtain ⟨a0, e0, _, q0⟩ := DataW.trod_int Tryd.underlying3 h0
      obtain ⟨a1, e1, _, q1⟩ := DataW.trod_int Tryd.underlying2 h1
      obtain ⟨a2, e2, _, q2⟩ := DataW.trod_int Tryd.underlying3 h2
      obtain ⟨a3, e3, _, q3⟩ := DataW.trod_int Tryd.underlying3 h3
      simp at e0 e1 e2 e3
      subst e0 e1 e2 e3
      exact ⟨a0, a1, a2, a3, c4, rfl, wfJ q1, wfJ q2⟩
theorem getP_app {s : ByteArray} {ys : PFs} (h : ∀ y ∈ ys, y.1 ≠ s) : ∀ fs : PFs, getP (fs ++ ys) s = getP fs s
  | [] => getP_none h
  | q :: t => by
    show getP (q :: (t ++ ys)) s = getP (q :: t) s
    unfold getP
    rw [getP_app h t]
theorem getP_put_self (s : ByteArray) (x : PF) : ∀ fs : PFs, getP (putP fs s x) s = some x
  | [] => by unfold putP getP; rw [if_pos rfl]
  | q :: t => by
    unfold putP
    by_cases c : q.1 = s
    · rw [if_pos c]; unfold getP; rw [if_pos rfl]
    · rw [if_neg c]; unfold getP; rw [if_neg c]; exact getP_put_self s x t
/-- The file system holds this term and this vote. -/
def Has (fs : PFs) (t v : Int) : Prop := (∃ F, getP fs sH = some ⟨F, F⟩ ∧ rdP F = (t, v)) ∨ (getP fs sH = none ∧ t = 0 ∧ v = 0)
/-- Behind a loss of power Open answers this. -/
def Gives (p : PD) (t v : Int) : Prop := ∀ (S : List ByteArray) (kp : List Bool), opE (crashP p S kp) = 0 ∧ opV (crashP p S kp) = (t, v)
theorem Has.gives {fs : PFs} {t v : Int} (h : Has fs t v) {p : PD} (hp : getP p.fs sH = getP fs sH) : Gives p t v := fun S kp => by
  obtain ⟨h1, h2, -, -⟩ := re_op p S kp
  refine ⟨h1, ?_⟩
  rw [h2]
  rcases h with ⟨F, hg, hr⟩ | ⟨hg, rfl, rfl⟩
  · rw [crash_get p S kp sH F (hp.trans hg)]; exact hr
  · rw [crash_no p S kp sH (hp.trans hg)]; exact rd_nil
theorem whole1 {t v : Int} (h : rgt t v = true) : ∃ fs, saveC pd0 t v 0 0 = 0 ∧ saveP pd0 t v 0 0 = ⟨fs, false, 0⟩ ∧ saveV pd0 t v 0 0 = (t, v) ∧ getP fs sT = none ∧ fs.length ≤ 255 ∧ Has fs t v := by
  by_cases hs : t = 0 ∧ v = 0
  · obtain ⟨rfl, rfl⟩ := hs
    obtain ⟨h1, h2, h3⟩ := st_same (p := pd0) h
    exact ⟨[], h1, h2, h3, rfl, by simp, .inr ⟨rfl, rfl, rfl⟩⟩
  · obtain ⟨h1, h2, h3⟩ := st_all (t0 := 0) (v0 := 0) [] 0 h hs (.inl rfl) rfl (by simp)
    refine ⟨[(sH, ⟨frB (payL t v), frB (payL t v)⟩)], h1, h2, h3, ?_, by simp, .inl ⟨frB (payL t v), ?_, rd_fr t v h⟩⟩
    · exact getP_none fun q hq => by rw [List.mem_singleton.1 hq]; exact fun e => ne_TH e.symm
    · unfold getP; rw [if_pos rfl]
theorem whole2 {fs : PFs} {t1 v1 : Int} (hT : getP fs sT = none) (hl : fs.length ≤ 255) (hh : Has fs t1 v1) (t v k : Int) (hk : 0 ≤ k) :
    (saveC ⟨fs, false, k⟩ t v t1 v1 = 1 ∧ Gives (saveP ⟨fs, false, k⟩ t v t1 v1) t1 v1) ∨ (saveC ⟨fs, false, k⟩ t v t1 v1 = 50 ∧ Gives (saveP ⟨fs, false, k⟩ t v t1 v1) t1 v1) ∨ (saveC ⟨fs, false, k⟩ t v t1 v1 = 0 ∧ Gives (saveP ⟨fs, false, k⟩ t v t1 v1) t v) := by
  cases hr : rgt t v with
  | false =>
    obtain ⟨h1, h2, -⟩ := st_wrong (p := ⟨fs, false, k⟩) (t0 := t1) (v0 := v1) hr
    exact .inl ⟨h1, hh.gives (by rw [h2])⟩
  | true =>
    by_cases hs : t = t1 ∧ v = v1
    · obtain ⟨rfl, rfl⟩ := hs
      obtain ⟨h1, h2, -⟩ := st_same (p := ⟨fs, false, k⟩) hr
      exact .inr (.inr ⟨h1, hh.gives (by rw [h2])⟩)
    · by_cases h4 : 1 ≤ k ∧ k ≤ 4
      · obtain ⟨h1, -, ys, h3, h5⟩ := st_few (t0 := t1) (v0 := v1) fs k hr hs h4 hT hl
        exact .inr (.inl ⟨h1, hh.gives (by rw [h3]; exact getP_app (fun y hy => by rw [h5 y hy]; exact ne_TH) fs)⟩)
      · obtain ⟨h1, h2, -⟩ := st_all (t0 := t1) (v0 := v1) fs k hr hs (by omega) hT hl
        refine .inr (.inr ⟨h1, Has.gives (fs := putP fs sH ⟨frB (payL t v), frB (payL t v)⟩) (.inl ⟨_, getP_put_self _ _ _, rd_fr t v hr⟩) (by rw [h2])⟩)
end Go.Proofs.YtdjlkmghdpmdiaaDoor
