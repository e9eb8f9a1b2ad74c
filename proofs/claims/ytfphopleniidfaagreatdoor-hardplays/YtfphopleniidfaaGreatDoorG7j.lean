/- Rows as a law is given them; a disk's keys; no condition. -/
import Derived.Test.YtfphopleniidfaaGreatDoorG7h
namespace Go.Proofs.YtfphopleniidfaaGreatDoor
open Go.RowKit Go.Lib Go.ChangeShapes Go.WideShapes
set_option linter.unusedVariables false
set_option linter.unusedSimpArgs false
set_option maxRecDepth 20000
theorem ByRow.rw {w : World} {v : Value} {n : Nat} {x : Nat → Nat} (h : Pk.ByRow w v n x) : ∃ L : List Nat, L.length = n ∧ Rw w v L := by
  refine ⟨(List.range n).map x, by simp, ?_⟩
  unfold Rw
  have e : ((List.range n).map x).length = n := by simp
  rw [e]
  rcases h with h | ⟨h0, hm, b, off, cap, hv, hc, hcp⟩
  · exact .inl h
  · refine .inr ⟨h0, hm, b, off, cap, hv, fun i hi => ?_, hcp⟩
    have q : gd ((List.range n).map x) i = x i := by simp [gd, hi]
    rw [q]
    exact hc i hi
/-- A row of truths as a law is given it. -/
def BArg (w : World) (v : Value) (kp : List Bool) : Prop := BRow w v kp ∧ (v = .slice none 0 0 ∨ (∃ b off n c, v = .slice (some ⟨b, off, none⟩) n c) ∨ ∃ a, v = .slice (some a) 0 0) ∧ (0 < kp.length → ∀ g, v.ownBlock = some g → g < w.heap.size)
theorem cellsBool : Tryz.prog.cellsOf 4 = 1 := by kernel_rfl
theorem open_bools {H : Type} {enc : TypeId × Value → H} {w : World} {base : Nat} {v : Value} {d : DataW H} {ps : List MemPlace} (hv : Value.okWide Tryz.prog w .any base 37 v) (h : DataW.Trod enc Tryz.prog w 0 (fun _ => true) true 37 v d ps) :
    ∃ kp, BArg w v kp := by
  obtain ⟨a0, len0, cap0, rfl⟩ := okWide_slice Tryz.underlying37 hv
  obtain ⟨fuel, hf⟩ := h
  rcases DataW.trod_slice Tryz.underlying37 hf with ⟨hcs, _⟩ | ⟨a, len, cap, elems, rest, m, _, hcs, _, hb, hl, hm, hlen, hel, hsp, _⟩
  · simp [Value.cells] at hcs
    obtain ⟨rfl, rfl, rfl⟩ := hcs
    exact ⟨[], BRow.none w, .inl rfl, fun h => by simp at h⟩
  · simp [Value.cells] at hcs
    obtain ⟨ha, hln, hcp⟩ := hcs
    rw [ha, hln, hcp]
    clear ha hln hcp hf hv a0 len0 cap0
    unfold maxLen at hm
    by_cases hz : len = 0
    · subst hz
      refine ⟨[], ⟨by simp, _, cap, rfl, by simp, by omega, fun i hi => by simp at hi⟩, ?_, fun h => by simp at h⟩
      by_cases hc : cap = 0
      · subst hc; exact .inr (.inr ⟨a, rfl⟩)
      · obtain ⟨hr, hcell⟩ := hsp rfl
        have h1 := hcell 0 (by omega)
        have h2 : rest[0]? = some (rest[0]'(by omega)) := List.getElem?_eq_getElem (by omega)
        rw [h2, cellsBool, Nat.mul_one, Option.bind_eq_some_iff] at h1
        obtain ⟨cs', hcs, hy'⟩ := h1
        obtain ⟨b, rfl, _⟩ := DataW.trod_bool Tryz.underlying4 hy'
        have h3 := cell_of_cells?_one hcs
        obtain ⟨b', off, spot⟩ := a
        have hspot : spot = none := by simpa [Addr.add] using World.cell?_spot h3
        subst hspot
        exact .inr (.inl ⟨_, _, _, _, rfl⟩)
    · have each : ∀ i, i < len → ∃ n : Bool, w.cell? (a.add i) = some (.bool n) := by
        intro i hi
        have h1 := hel i hi
        have h2 : elems[i]? = some (elems[i]'(by omega)) := List.getElem?_eq_getElem (by omega)
        rw [h2, cellsBool, Nat.mul_one, Option.bind_eq_some_iff] at h1
        obtain ⟨cs', hcs, hy'⟩ := h1
        obtain ⟨n, rfl, _⟩ := DataW.trod_bool Tryz.underlying4 hy'
        exact ⟨n, cell_of_cells?_one hcs⟩
      obtain ⟨b, off, spot⟩ := a
      obtain ⟨n0, h0⟩ := each 0 (by omega)
      have hspot : spot = none := by simpa [Addr.add] using World.cell?_spot h0
      subst hspot
      have hlen' : ((List.range len).map fun i => match w.cell? ⟨b, off + i, none⟩ with | some (.bool n) => n | _ => false).length = len := by simp
      refine ⟨(List.range len).map fun i => match w.cell? ⟨b, off + i, none⟩ with | some (.bool n) => n | _ => false, ⟨by rw [hlen']; omega, some ⟨b, off, none⟩, cap, by rw [hlen'], by rw [hlen']; omega, by omega, fun i hi => ⟨b, off, rfl, ?_⟩⟩, .inr (.inl ⟨_, _, _, _, rfl⟩), fun _ g e => ?_⟩
      · rw [hlen'] at hi
        obtain ⟨n, hn⟩ := each i hi
        rw [Go.WideShapes.add_plain] at hn
        rw [List.getD_eq_getElem?_getD, List.getElem?_map, List.getElem?_range hi]
        simp [hn]
      · cases e
        rw [Go.WideShapes.add_plain] at h0
        exact World.block_lt_of_cell? w _ h0
theorem writeK (p : PD) (s : ByteArray) (n : Int) (b : List Nat) (hd : p.down = false) (hf : p.fail = 0) : (writeP p s n b).down = false ∧ (writeP p s n b).fail = 0 ∧ keysP (writeP p s n b).fs = keysP p.fs := by
  unfold writeP
  split
  · refine ⟨?_, ?_, setP_keys _ _ _⟩
    · show (p.down || decide (p.fail = 1)) = false
      rw [hd, hf]; rfl
    · show max 0 (p.fail - 1) = 0
      rw [hf]; rfl
  · refine ⟨?_, ?_, rfl⟩
    · show (p.down || decide (p.fail = 1)) = false
      rw [hd, hf]; rfl
    · show max 0 (p.fail - 1) = 0
      rw [hf]; rfl
theorem createK (p : PD) (s : ByteArray) (hd : p.down = false) (hf : p.fail = 0) (hs : misN s = false) (hn : s ∉ keysP p.fs) (hl : p.fs.length < 256) : (createP p s).down = false ∧ (createP p s).fail = 0 ∧ keysP (createP p s).fs = keysP p.fs ++ [s] := by
  have sd : p.stepd = p := by
    obtain ⟨fs, d, f⟩ := p
    simp at hd hf
    subst hd hf
    rfl
  have e : createC p s = 0 := by
    rw [createC1, sd, hd, hs, keys_getP.2 hn, if_neg (by decide), if_neg (by decide), if_neg (by decide), if_neg (by omega)]
  unfold createP
  rw [if_pos e, sd]
  refine ⟨hd, hf, ?_⟩
  unfold keysP
  simp
theorem raw_keys (L M : List Nat) : keysP (writeP (createP (writeP (createP pd0 sH) sH 0 L) sT) sT 0 M).fs = [sH, sT] := by
  obtain ⟨a1, a2, a3⟩ := createK pd0 sH rfl rfl mH (by simp [keysP, pd0]) (by simp [pd0])
  obtain ⟨b1, b2, b3⟩ := writeK (createP pd0 sH) sH 0 L a1 a2
  have e3 : keysP (writeP (createP pd0 sH) sH 0 L).fs = [sH] := by rw [b3, a3]; rfl
  have l3 : (writeP (createP pd0 sH) sH 0 L).fs.length < 256 := by
    have e : (keysP (writeP (createP pd0 sH) sH 0 L).fs).length = 1 := by rw [e3]; rfl
    unfold keysP at e
    rw [List.length_map] at e
    omega
  obtain ⟨c1, c2, c3⟩ := createK _ sT b1 b2 mT (by rw [e3]; simpa using ne_TH) l3
  obtain ⟨d1, d2, d3⟩ := writeK _ sT 0 M c1 c2
  rw [d3, c3, e3]
  rfl
theorem filter_HT : ([sH, sT].filter (fun s => decide (s ≠ sT))) = [sH] := by
  rw [List.filter_cons, if_pos (by simpa using fun e : sH = sT => ne_TH e.symm), List.filter_cons, if_neg (by simp)]
  rfl
/-- Open behind a loss of power. -/
theorem re_op (p : PD) (S : List ByteArray) (kp : List Bool) : opE (crashP p S kp) = 0 ∧ opV (crashP p S kp) = rdP (nowOf (getP (crashP p S kp).fs sH)) ∧ getP (opP (crashP p S kp)).fs sH = getP (crashP p S kp).fs sH ∧ keysP (opP (crashP p S kp)).fs = (keysP p.fs).filter (fun s => decide (s ≠ sT)) := by
  obtain ⟨h1, h2, h3, h4, h5, h6⟩ := op_ok (crashP p S kp) rfl rfl
  exact ⟨h1, h6, h4, by rw [h5, (crash_op p S kp).2.2]⟩
theorem re_raw {p : PD} {S : List ByteArray} {kp : List Bool} (hp : keysP p.fs = [sH, sT]) (hS : S.Perm (keysP p.fs)) : opE (crashP p S kp) = 0 ∧ ∃ y, opV (crashP p S kp) = rdP y ∧ getP (opP (crashP p S kp)).fs sH = some ⟨y, y⟩ ∧ keysP (opP (crashP p S kp)).fs = [sH] := by
  obtain ⟨h1, h2, h3, h4⟩ := re_op p S kp
  obtain ⟨y, hy⟩ := crash_some p S kp sH (by rw [hp]; simp) hS
  exact ⟨h1, y, by rw [h2, hy]; rfl, by rw [h3, hy], by rw [h4, hp, filter_HT]⟩
theorem re_two {p : PD} {y : List Nat} (hg : getP p.fs sH = some ⟨y, y⟩) (hp : keysP p.fs = [sH]) (S : List ByteArray) : opE (crashP p S []) = 0 ∧ opV (crashP p S []) = rdP y ∧ (keysP (opP (crashP p S [])).fs).length = 1 := by
  obtain ⟨h1, h2, h3, h4⟩ := re_op p S []
  refine ⟨h1, by rw [h2, crash_get p S [] sH y hg]; rfl, ?_⟩
  rw [h4, hp, List.filter_cons, if_pos (by simpa using fun e : sH = sT => ne_TH e.symm)]
  rfl
end Go.Proofs.YtfphopleniidfaaGreatDoor
