/- Spans' values in memory; two spans held against each other; what Canon, Empty, One and Has of package span return at every span; no condition. -/
import Derived.Test.YtbkbnfgjkefcmaaGreatSa
import Derived.Test.YtbkbnfgjkefcmaaGreatSm
import Derived.Laws.StructEq
import Derived.Laws.Tables
import Derived.Deep.RegionHeld3
namespace Go.Proofs.YtbkbnfgjkefcmaaGreat
open Go.RowKit
theorem Up.keep {W w' : World} (h : Up W w') {p : Addr} {v : Value} (hc : W.cell? p = some v) : w'.cell? p = some v := by
  rw [Below.cell (p := p) h.toBelow (World.block_lt_of_cell? W p hc)]; exact hc
theorem Up.keepF {W w' : World} (h : Up W w') {p : Addr} {v : Value} (hc : W.cell? p = some v) (hf : W.frozen? p = false) : w'.frozen? p = false := by
  rw [Below.frozen (p := p) h.toBelow (World.block_lt_of_cell? W p hc)]; exact hf
/-- Block n holds a span. -/
abbrev SpAt (n a b : Nat) (p q : Bool) (w : World) : Prop :=
  w.cell? ⟨n, 0, none⟩ = some (.float .f64 a) ∧ w.cell? ⟨n, 1, none⟩ = some (.float .f64 b) ∧ w.cell? ⟨n, 2, none⟩ = some (.bool p) ∧ w.cell? ⟨n, 3, none⟩ = some (.bool q)
/-- Block n may be written. -/
abbrev FrAt (n : Nat) (w : World) : Prop :=
  w.frozen? ⟨n, 0, none⟩ = false ∧ w.frozen? ⟨n, 1, none⟩ = false ∧ w.frozen? ⟨n, 2, none⟩ = false ∧ w.frozen? ⟨n, 3, none⟩ = false
theorem SpAt.up {n a b : Nat} {p q : Bool} {W w' : World} (h : Up W w') (s : SpAt n a b p q W) : SpAt n a b p q w' := ⟨h.keep s.1, h.keep s.2.1, h.keep s.2.2.1, h.keep s.2.2.2⟩
theorem SpAt.frUp {n a b : Nat} {p q : Bool} {W w' : World} (h : Up W w') (s : SpAt n a b p q W) (f : FrAt n W) : FrAt n w' := ⟨h.keepF s.1 f.1, h.keepF s.2.1 f.2.1, h.keepF s.2.2.1 f.2.2.1, h.keepF s.2.2.2 f.2.2.2⟩
/-- Block n holds a span; block m holds one and may be written. -/
abbrev S2 (n a b : Nat) (p q : Bool) (m c d : Nat) (r s : Bool) (w : World) : Prop := SpAt n a b p q w ∧ SpAt m c d r s w ∧ FrAt m w
theorem S2.up {n a b : Nat} {p q : Bool} {m c d : Nat} {r s : Bool} {W w' : World} (h : Up W w') (k : S2 n a b p q m c d r s W) : S2 n a b p q m c d r s w' := ⟨SpAt.up h k.1, SpAt.up h k.2.1, SpAt.frUp h k.2.1 k.2.2⟩
theorem run_equalIn_float {P : Program} (w : World) (d : Nat) (t : TypeId) (a b : Nat) (h : P.underlying t = some (.float .f64)) : (Op.equalIn (d + 1) t (.float .f64 a) (.float .f64 b)).run P w = .ok (FloatKind.f64.format.order a b == some .eq) w := by
  simp [Op.equalIn, run_underlying h, Op.floatEq]
theorem eqF (w : World) (d a b : Nat) : (Op.equalIn (d + 1) 43 (.float .f64 a) (.float .f64 b)).run Tryz.prog w = .ok (FloatKind.f64.format.order a b == some .eq) w := run_equalIn_float w d _ a b Tryz.underlying43
attribute [local go_sem] run_bits run_frombits run_store_float eqF

set_option maxHeartbeats 1000000 in
set_option maxRecDepth 20000 in
theorem canonS_none (a b : Nat) (ha : Fl.W a) (hb : Fl.W b) (p q : Bool) (h : (Fl.nan a || Fl.nan b) = true ∨ (Fl.nan a = false ∧ Fl.nan b = false ∧ p = true ∧ a = Fl.INF)) (w : World) :
    Calls Tryz.prog 78 #[.agg #[.float .f64 a, .float .f64 b, .bool p, .bool q]] w fun e w' => e = .returned (.agg #[.float .f64 0, .float .f64 0, .bool true, .bool true]) ∧ Up w w' := by
  have HR := fun w => right_any a b ha hb p q w
  rcases h with h | ⟨h1, h2, rfl, h4⟩
  · have e : (!Fl.nan a && !Fl.nan b) = false := by revert h; cases Fl.nan a <;> cases Fl.nan b <;> decide
    rw [e] at HR
    have H : Hid _ := HR
    clear HR e h
    go_enter Tryz.func78, Tryz.ntmps78
    go_wp2_with (first | (go_at_call 91; refine (H.out _).mono ?_; rintro e w1 ⟨rfl, hb1⟩; have s1 : S2 w.heap.size a b p q (w.heap.size + 1) 0 0 false false w1 := S2.up hb1 (by simp [S2, SpAt, FrAt])) | (go_at_call 79; refine (none_any _).mono ?_; rintro e w2 ⟨rfl, hb2⟩; have s2 : S2 w.heap.size a b p q (w.heap.size + 1) 0 0 false false w2 := S2.up hb2 (by assumption)))
    exact bodyPost_ret (v := .agg #[.float .f64 0, .float .f64 0, .bool true, .bool true]) (by simp [results, Tryz.results78, go_sem, s2]) rfl ⟨rfl, (by repeat (first | exact Up.refl _ | assumption | refine Up.drew ?_ | refine Up.drewN ?_ _ | refine Up.alloc ?_ _ | refine Up.setCell ?_ ?_ _ | exact Nat.le_refl _ | exact Nat.le_add_right _ _ | (dsimp only; omega) | refine Up.trans ?_ ‹Up _ _›))⟩
  · have e : (!Fl.nan a && !Fl.nan b) = true := by rw [h1, h2]; rfl
    rw [e] at HR
    have H : Hid _ := HR
    have i1 : decide (a = Fl.INF) = true := by simpa using h4
    clear HR e h1 h2 h4
    go_enter Tryz.func78, Tryz.ntmps78
    go_wp2_with (first | (go_at_call 91; refine (H.out _).mono ?_; rintro e w1 ⟨rfl, hb1⟩; have s1 : S2 w.heap.size a b true q (w.heap.size + 1) 0 0 false false w1 := S2.up hb1 (by simp [S2, SpAt, FrAt])) | (go_at_call 92; refine (isInf_pos _ ‹Fl.W a› _).mono ?_; rintro e w' ⟨rfl, rfl⟩) | (go_at_call 79; refine (none_any _).mono ?_; rintro e w2 ⟨rfl, hb2⟩; have s2 : S2 w.heap.size a b true q (w.heap.size + 1) 0 0 false false w2 := S2.up hb2 (by assumption)))
    exact bodyPost_ret (v := .agg #[.float .f64 0, .float .f64 0, .bool true, .bool true]) (by simp [results, Tryz.results78, go_sem, s2]) rfl ⟨rfl, (by repeat (first | exact Up.refl _ | assumption | refine Up.drew ?_ | refine Up.drewN ?_ _ | refine Up.alloc ?_ _ | refine Up.setCell ?_ ?_ _ | exact Nat.le_refl _ | exact Nat.le_add_right _ _ | (dsimp only; omega) | refine Up.trans ?_ ‹Up _ _›))⟩

set_option maxHeartbeats 1000000 in
set_option maxRecDepth 20000 in
theorem canonS_go (a b : Nat) (ha : Fl.W a) (hb : Fl.W b) (p q : Bool) (na : Fl.nan a = false) (nb : Fl.nan b = false) (hi : p = true → a ≠ Fl.INF) (u v : Nat) (s : Bool)
    (HC : Hid (∀ w, Calls Tryz.prog 93 #[.float .f64 (Fl.loB a p), .float .f64 (Fl.hiB b q)] w fun e w' => e = .returned (.agg #[.float .f64 u, .float .f64 v, .bool s, .bool s]) ∧ Up w w')) (w : World) :
    Calls Tryz.prog 78 #[.agg #[.float .f64 a, .float .f64 b, .bool p, .bool q]] w fun e w' => e = .returned (.agg #[.float .f64 u, .float .f64 v, .bool s, .bool s]) ∧ Up w w' := by
  have HF : Hid (∀ w, Calls Tryz.prog 94 #[.agg #[.float .f64 a, .float .f64 b, .bool p, .bool q]] w fun e w' => e = .returned (.float .f64 (Fl.loB a p)) ∧ Up w w') := fun w => first_any a b ha p q w
  have HL : Hid (∀ w, Calls Tryz.prog 95 #[.agg #[.float .f64 a, .float .f64 b, .bool p, .bool q]] w fun e w' => e = .returned (.float .f64 (Fl.hiB b q)) ∧ Up w w') := fun w => last_any a b hb p q w
  have HR0 := fun w => right_any a b ha hb p q w
  rw [show (!Fl.nan a && !Fl.nan b) = true by rw [na, nb]; rfl] at HR0
  have HR : Hid _ := HR0
  clear HR0 na nb
  generalize Fl.loB a p = x at *
  generalize Fl.hiB b q = y at *
  cases p
  · clear hi
    go_enter Tryz.func78, Tryz.ntmps78
    go_wp2_with (first | (go_at_call 91; refine (HR.out _).mono ?_; rintro e w1 ⟨rfl, hb1⟩; have s1 : S2 w.heap.size a b false q (w.heap.size + 1) 0 0 false false w1 := S2.up hb1 (by simp [S2, SpAt, FrAt])) | (go_at_call 92; refine (isInf_pos _ ‹Fl.W a› _).mono ?_; rintro e w' ⟨rfl, rfl⟩))
    go_region_held3 (SpAt w.heap.size a b false q) (first | (apply SpAt.up; (first | assumption | exact Up.drew (Up.refl _)); assumption) | (simp [SpAt, *, World.cell?_setCell_far])) (first | (go_at_call 94; refine (HF.out _).mono ?_; rintro e w2 ⟨rfl, hb2⟩; have s2 : S2 w.heap.size a b false q (w.heap.size + 1) 0 0 false false w2 := (by apply S2.up; assumption; first | assumption | (apply S2.up; exact Up.drew (Up.refl _); assumption))) | (go_at_call 95; refine (HL.out _).mono ?_; rintro e w3 ⟨rfl, hb3⟩; have s3 : S2 w.heap.size a b false q (w.heap.size + 1) 0 0 false false w3 := (by apply S2.up; assumption; first | assumption | (apply S2.up; exact Up.drew (Up.refl _); assumption))) | (go_at_call 93; refine (HC.out _).mono ?_; rintro e w4 ⟨rfl, hb4⟩; have s4 : S2 w.heap.size a b false q (w.heap.size + 1) 0 0 false false w4 := (by apply S2.up; assumption; first | assumption | (apply S2.up; exact Up.drew (Up.refl _); assumption))))
    go_wp2
    exact bodyPost_ret (v := .agg #[.float .f64 u, .float .f64 v, .bool s, .bool s]) (by simp [results, Tryz.results78, go_sem, s4]) rfl ⟨rfl, (by repeat (first | exact Up.refl _ | assumption | refine Up.drew ?_ | refine Up.drewN ?_ _ | refine Up.alloc ?_ _ | refine Up.setCell ?_ ?_ _ | exact Nat.le_refl _ | exact Nat.le_add_right _ _ | (dsimp only; omega) | refine Up.trans ?_ ‹Up _ _›))⟩
  · have i1 : decide (a = Fl.INF) = false := by simpa using hi rfl
    clear hi
    go_enter Tryz.func78, Tryz.ntmps78
    go_wp2_with (first | (go_at_call 91; refine (HR.out _).mono ?_; rintro e w1 ⟨rfl, hb1⟩; have s1 : S2 w.heap.size a b true q (w.heap.size + 1) 0 0 false false w1 := S2.up hb1 (by simp [S2, SpAt, FrAt])) | (go_at_call 92; refine (isInf_pos _ ‹Fl.W a› _).mono ?_; rintro e w' ⟨rfl, rfl⟩))
    go_region_held3 (SpAt w.heap.size a b true q) (first | (apply SpAt.up; (first | assumption | exact Up.drew (Up.refl _)); assumption) | (simp [SpAt, *, World.cell?_setCell_far])) (first | (go_at_call 94; refine (HF.out _).mono ?_; rintro e w2 ⟨rfl, hb2⟩; have s2 : S2 w.heap.size a b true q (w.heap.size + 1) 0 0 false false w2 := (by apply S2.up; assumption; first | assumption | (apply S2.up; exact Up.drew (Up.refl _); assumption))) | (go_at_call 95; refine (HL.out _).mono ?_; rintro e w3 ⟨rfl, hb3⟩; have s3 : S2 w.heap.size a b true q (w.heap.size + 1) 0 0 false false w3 := (by apply S2.up; assumption; first | assumption | (apply S2.up; exact Up.drew (Up.refl _); assumption))) | (go_at_call 93; refine (HC.out _).mono ?_; rintro e w4 ⟨rfl, hb4⟩; have s4 : S2 w.heap.size a b true q (w.heap.size + 1) 0 0 false false w4 := (by apply S2.up; assumption; first | assumption | (apply S2.up; exact Up.drew (Up.refl _); assumption))))
    go_wp2
    exact bodyPost_ret (v := .agg #[.float .f64 u, .float .f64 v, .bool s, .bool s]) (by simp [results, Tryz.results78, go_sem, s4]) rfl ⟨rfl, (by repeat (first | exact Up.refl _ | assumption | refine Up.drew ?_ | refine Up.drewN ?_ _ | refine Up.alloc ?_ _ | refine Up.setCell ?_ ?_ _ | exact Nat.le_refl _ | exact Nat.le_add_right _ _ | (dsimp only; omega) | refine Up.trans ?_ ‹Up _ _›))⟩

theorem canonS_any (a b : Nat) (ha : Fl.W a) (hb : Fl.W b) (p q : Bool) (w : World) :
    Calls Tryz.prog 78 #[.agg #[.float .f64 a, .float .f64 b, .bool p, .bool q]] w fun e w' => e = .returned (.agg #[.float .f64 (Fl.csU a b p q), .float .f64 (Fl.csV a b p q), .bool (Fl.csE a b p q), .bool (Fl.csE a b p q)]) ∧ Up w w' := by
  by_cases h : Fl.csE a b p q = true
  · have e := Fl.csE_true a b p q h
    rw [e.1, e.2, h]
    by_cases h1 : (Fl.nan a || Fl.nan b) = true
    · exact canonS_none a b ha hb p q (.inl h1) w
    · have h1' : (Fl.nan a || Fl.nan b) = false := by simpa using h1
      obtain ⟨na, nb⟩ := Bool.or_eq_false_iff.1 h1'
      by_cases h2 : p = true ∧ a = Fl.INF
      · exact canonS_none a b ha hb p q (.inr ⟨na, nb, h2.1, h2.2⟩) w
      · refine canonS_go a b ha hb p q na nb (fun hp hi => h2 ⟨hp, hi⟩) 0 0 true (fun w => closed_none _ _ (Fl.loB_W a p ha) (Fl.hiB_W b q hb) ?_ w) w
        unfold Fl.csE at h; rw [na, nb] at h
        simp only [Bool.false_or, Bool.or_eq_true, Bool.and_eq_true, decide_eq_true_eq] at h
        rcases h with h | h
        · exact absurd h h2
        · exact h
  · have h' : Fl.csE a b p q = false := by simpa using h
    obtain ⟨e1, e2, na, nb, hi, hle⟩ := Fl.csE_false a b p q h'
    rw [e1, e2, h']
    exact canonS_go a b ha hb p q na nb hi _ _ false (fun w => closed_some _ _ (Fl.loB_W a p ha) (Fl.hiB_W b q hb) hle w) w

end Go.Proofs.YtbkbnfgjkefcmaaGreat
