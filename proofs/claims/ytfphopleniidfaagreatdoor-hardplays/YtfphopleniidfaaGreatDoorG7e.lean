/- hard's steps as a row, Save; conditions: the disk and the boxes lie in memory, the table is laid. -/
import Derived.Test.YtfphopleniidfaaGreatDoorG7d
namespace Go.Proofs.YtfphopleniidfaaGreatDoor
open Go.RowKit Go.Lib
set_option linter.unusedVariables false
set_option linter.unusedSimpArgs false
set_option maxRecDepth 20000
theorem alloc_keep2 {w : World} {k : Nat} {o q : Obj} (h : w.heap[k]? = some o) : (w.alloc q).heap[k]? = some o := ((Old.refl w).alloc q).block h
def StPost (w : World) (hb : Nat) (t v : Int) (e : Ending) (w' : World) : Prop := ∃ b0 b1 gs, e = .returned (.slice (some ⟨gs, 0, none⟩) 4 4) ∧ w'.heap[gs]? = some (.cells #[.func (.func 55) #[] #[.pointer (some ⟨b0, 0, none⟩)], .func (.func 57) #[] #[.pointer (some ⟨b0, 0, none⟩), .pointer (some ⟨b1, 0, none⟩)], .func (.func 60) #[] #[.pointer (some ⟨b0, 0, none⟩)], .func (.func 62) #[] #[.pointer (some ⟨b0, 0, none⟩)]] 85 (0, 0)) ∧ w'.heap[b0]? = some (.cells #[.pointer (some ⟨hb, 0, none⟩)] 26 (0, 0)) ∧ w'.heap[b1]? = some (.cells #[.int .i64 t, .int .i64 v] 62 (0, 0)) ∧ Old w w' ∧ w.heap.size ≤ b0 ∧ w.heap.size ≤ b1 ∧ w.heap.size ≤ gs
/-- Save, plain. -/
def sK (p : PD) (B : List Nat) : Nat → PD
  | 0 => p
  | 1 => createP p sT
  | 2 => writeP (createP p sT) sT 0 B
  | 3 => syncP (writeP (createP p sT) sT 0 B) sT
  | _ => renameP (syncP (writeP (createP p sT) sT 0 B) sT) sT sH
def cK (p : PD) (B : List Nat) : Nat → Int
  | 0 => createC p sT
  | 1 => writeC (createP p sT) sT 0 B
  | 2 => syncC (writeP (createP p sT) sT 0 B) sT
  | _ => renameC (syncP (writeP (createP p sT) sT 0 B) sT) sT sH
def svE (p : PD) (B : List Nat) : Int := if cK p B 0 ≠ 0 then cK p B 0 else if cK p B 1 ≠ 0 then cK p B 1 else if cK p B 2 ≠ 0 then cK p B 2 else cK p B 3
def svP (p : PD) (B : List Nat) : PD := if cK p B 0 ≠ 0 then sK p B 1 else if cK p B 1 ≠ 0 then sK p B 2 else if cK p B 2 ≠ 0 then sK p B 3 else sK p B 4
def saveC (p : PD) (t v t0 v0 : Int) : Int := if rgt t v = false then 1 else if t = t0 ∧ v = v0 then 0 else svE p (frB (payL t v))
def saveP (p : PD) (t v t0 v0 : Int) : PD := if rgt t v = false then p else if t = t0 ∧ v = v0 then p else svP p (frB (payL t v))
def saveV (p : PD) (t v t0 v0 : Int) : Int × Int := if saveC p t v t0 v0 = 0 then (t, v) else (t0, v0)
theorem sv_at (p : PD) (B : List Nat) (i : Nat) (hi : i < 4) (h : ∀ j, j < i → cK p B j = 0) (hn : cK p B i ≠ 0) : svE p B = cK p B i ∧ svP p B = sK p B (i + 1) := by
  unfold svE svP
  match i, hi with
  | 0, _ => simp [hn]
  | 1, _ => have a := h 0 (by omega); simp [a, hn]
  | 2, _ => have a := h 0 (by omega); have b := h 1 (by omega); simp [a, b, hn]
  | 3, _ => have a := h 0 (by omega); have b := h 1 (by omega); have c := h 2 (by omega); simp [a, b, c]
theorem sv_end (p : PD) (B : List Nat) (h : ∀ j, j < 4 → cK p B j = 0) : svE p B = 0 ∧ svP p B = sK p B 4 := by
  unfold svE svP
  have a := h 0 (by omega)
  have b := h 1 (by omega)
  have c := h 2 (by omega)
  have d := h 3 (by omega)
  simp [a, b, c, d]
set_option maxHeartbeats 1000000 in
set_option maxRecDepth 20000 in
theorem steps_any (hb : Nat) (t v : Int) (w : World) : Calls Tryz.prog 28 #[.pointer (some ⟨hb, 0, none⟩), .agg #[.int .i64 t, .int .i64 v]] w (StPost w hb t v) := by
  have hmf : ∀ (fn : Fn) (first cap : Array Value) (w : World), (Instr.makeFunc fn first cap).run Tryz.prog w = .ok (.func fn first cap) w := fun _ _ _ _ => rfl
  go_enter Tryz.func28, Tryz.ntmps28
  go_upto_region 1 with (fail)
  have HB0 := hid (show ((w.alloc (.cells #[.pointer (some ⟨hb, 0, none⟩)] 26)).alloc (.cells #[.int .i64 t, .int .i64 v] 62)).heap[w.heap.size]? = some (.cells #[.pointer (some ⟨hb, 0, none⟩)] 26 (0, 0)) from alloc_keep2 (alloc_at w _))
  have HB1 := hid (show ((w.alloc (.cells #[.pointer (some ⟨hb, 0, none⟩)] 26)).alloc (.cells #[.int .i64 t, .int .i64 v] 62)).heap[w.heap.size + 1]? = some (.cells #[.int .i64 t, .int .i64 v] 62 (0, 0)) from by have := alloc_at (w.alloc (.cells #[.pointer (some ⟨hb, 0, none⟩)] 26)) (.cells #[.int .i64 t, .int .i64 v] 62); simpa using this)
  have HU := hid (show Old w ((w.alloc (.cells #[.pointer (some ⟨hb, 0, none⟩)] 26)).alloc (.cells #[.int .i64 t, .int .i64 v] 62)) from ((Old.refl w).alloc _).alloc _)
  generalize (w.alloc (.cells #[.pointer (some ⟨hb, 0, none⟩)] 26)).alloc (.cells #[.int .i64 t, .int .i64 v] 62) = w2 at *
  obtain ⟨b0, hb0⟩ : ∃ b0, b0 = w.heap.size := ⟨_, rfl⟩
  obtain ⟨b1, hb1⟩ : ∃ b1, b1 = w.heap.size + 1 := ⟨_, rfl⟩
  have HL := hid (show w.heap.size ≤ b0 ∧ w.heap.size ≤ b1 from by omega)
  rw [← hb0] at HB0
  rw [← hb1] at HB1
  rw [← hb1, ← hb0]
  clear hb0 hb1
  go_wp2
  refine bodyPost_ret (v := .slice (some ⟨w2.heap.size, 0, none⟩) 4 4) (by simp [results, Tryz.results28, go_sem]) rfl ?_
  exact ⟨b0, b1, w2.heap.size, rfl, alloc_at w2 _, alloc_keep2 HB0.out, alloc_keep2 HB1.out, HU.out.alloc _, HL.out.1, HL.out.2, HU.out.size⟩
def SvPost (w0 : World) (db hb : Nat) (A : List Nat) (pe : Int) (pp : PD) (pv : Int × Int) (e : Ending) (w' : World) : Prop := e = .returned (.int .i64 pe) ∧ Dsk w0 w' db pp A ∧ w'.heap[hb]? = some (.cells #[.pointer (some ⟨db, 0, none⟩), .int .i64 pv.1, .int .i64 pv.2] 65 (0, 0))
theorem box3 {w : World} {b : Nat} {x y z : Value} {T : TypeId} (h : w.heap[b]? = some (.cells #[x, y, z] T (0, 0))) : w.cell? ⟨b, 0, none⟩ = some x ∧ w.cell? ⟨b, 1, none⟩ = some y ∧ w.cell? ⟨b, 2, none⟩ = some z ∧ w.frozen? ⟨b, 0, none⟩ = false ∧ w.frozen? ⟨b, 1, none⟩ = false ∧ w.frozen? ⟨b, 2, none⟩ = false :=
  ⟨by rw [Go.Joins.cell_of_block h]; rfl, by rw [Go.Joins.cell_of_block h]; rfl, by rw [Go.Joins.cell_of_block h]; rfl, Go.Joins.unfrozen_of_block h 0, Go.Joins.unfrozen_of_block h 1, Go.Joins.unfrozen_of_block h 2⟩
theorem Kp.at {A : List Nat} {W W' : World} (k : Kp A W W') {g : Nat} {o : Obj} (hg : g ∈ A) (h : W.heap[g]? = some o) : W'.heap[g]? = some o := by rw [k.2 g hg (heap_lt h)]; exact h
/-- All of these but one as they were. -/
def KpX (hb : Nat) (A : List Nat) (W W' : World) : Prop := W.heap.size ≤ W'.heap.size ∧ ∀ g ∈ A, g ≠ hb → g < W.heap.size → W'.heap[g]? = W.heap[g]?
theorem KpX.old {hb : Nat} {A : List Nat} {a b : World} (u : Old a b) : KpX hb A a b := ⟨u.size, fun g _ _ hl => Below.block u g hl⟩
theorem KpX.kp {hb : Nat} {A AQ : List Nat} {a b : World} (k : Kp AQ a b) (h : ∀ g ∈ A, g ∈ AQ) : KpX hb A a b := ⟨k.1, fun g hg _ hl => k.2 g (h g hg) hl⟩
theorem KpX.chg {hb : Nat} {A : List Nat} {a b : World} (c : Chg [hb] a b) : KpX hb A a b := ⟨c.size, fun g _ hn hl => c.block g hl (by simpa using hn)⟩
theorem KpX.trans {hb : Nat} {A : List Nat} {a b c : World} (h : KpX hb A a b) (k : KpX hb A b c) : KpX hb A a c := ⟨Nat.le_trans h.1 k.1, fun g hg hn hl => (k.2 g hg hn (by have := h.1; omega)).trans (h.2 g hg hn hl)⟩
theorem KpX.at {hb : Nat} {A : List Nat} {W W' : World} (k : KpX hb A W W') {g : Nat} {o : Obj} (hg : g ∈ A) (hn : g ≠ hb) (h : W.heap[g]? = some o) : W'.heap[g]? = some o := by rw [k.2 g hg hn (heap_lt h)]; exact h
def SvPostK (w0 W : World) (db hb : Nat) (A : List Nat) (pe : Int) (pp : PD) (pv : Int × Int) (e : Ending) (w' : World) : Prop := SvPost w0 db hb A pe pp pv e w' ∧ KpX hb A W w'
set_option maxHeartbeats 8000000 in
set_option maxRecDepth 20000 in
theorem save_anyK (w0 W : World) (db hb : Nat) (p : PD) (A : List Nat) (t v t0 v0 : Int) (h : Dsk w0 W db p A) (hA : hb ∈ A) (hx : W.heap[hb]? = some (.cells #[.pointer (some ⟨db, 0, none⟩), .int .i64 t0, .int .i64 v0] 65 (0, 0))) (hlow : w0.heap.size ≤ hb) (ht : Pk.Tab w0) (r1 : -9223372036854775808 ≤ t ∧ t ≤ 9223372036854775807) (r2 : -9223372036854775808 ≤ v ∧ v ≤ 9223372036854775807) : Calls Tryz.prog 8 #[.pointer (some ⟨hb, 0, none⟩), .int .i64 t, .int .i64 v] W (SvPostK w0 W db hb A (saveC p t v t0 v0) (saveP p t v t0 v0) (saveV p t v t0 v0)) := by
  have HD := hid h
  have HA := hid hA
  have HX := hid hx
  have HT := hid ht
  have HR := hid (And.intro r1 r2)
  have HLow := hid hlow
  have HRg := hid (fun (W' : World) => right_any t v W')
  clear h hA hx ht r1 r2 hlow
  have HDf := hid (show saveC p t v t0 v0 = (if rgt t v = false then 1 else if t = t0 ∧ v = v0 then 0 else svE p (frB (payL t v))) ∧ saveP p t v t0 v0 = (if rgt t v = false then p else if t = t0 ∧ v = v0 then p else svP p (frB (payL t v))) ∧ saveV p t v t0 v0 = (if saveC p t v t0 v0 = 0 then (t, v) else (t0, v0)) from ⟨rfl, rfl, rfl⟩)
  generalize saveC p t v t0 v0 = sc at *
  generalize saveP p t v t0 v0 = sp at *
  generalize saveV p t v t0 v0 = svv at *
  obtain ⟨B, hB⟩ : ∃ B, frB (payL t v) = B := ⟨_, rfl⟩
  have HB := hid hB
  rw [hB] at HDf
  clear hB
  go_enter Tryz.func8, Tryz.ntmps8
  go_upto_region 2 with (fail)
  have HG := hid (alloc_at W (.cells #[.int .i64 t, .int .i64 v] 62))
  have HU := hid (show Old W (W.alloc (.cells #[.int .i64 t, .int .i64 v] 62)) from (Old.refl W).alloc _)
  generalize W.alloc (.cells #[.int .i64 t, .int .i64 v] 62) = w1 at *
  obtain ⟨g7, hg7⟩ : ∃ g7, g7 = W.heap.size := ⟨_, rfl⟩
  have HG7 := hid (show W.heap.size ≤ g7 from by omega)
  rw [← hg7] at HG ⊢
  clear hg7
  obtain ⟨x0, x1, -, -⟩ := box2 HG.out
  cases hr : rgt t v with
  | false =>
    have HE := hid (show sc = 1 ∧ sp = p ∧ svv = (t0, v0) from by obtain ⟨e1, e2, e3⟩ := HDf.out; rw [if_pos hr] at e1 e2; exact ⟨e1, e2, by rw [e3, e1, if_neg (by decide)]⟩)
    rw [hr] at HRg
    clear hr HDf
    go_wp2_with (go_at_call 27; refine (HRg.out _).mono ?_; rintro e w2 ⟨rfl, u2⟩; have U2 := hid (HU.out.trans u2); clear u2)
    refine bodyPost_ret (v := .int .i64 1) (by simp [results, Tryz.results8, go_sem]) rfl ?_
    rw [HE.out.1, HE.out.2.1, HE.out.2.2]
    exact ⟨⟨rfl, HD.out.old U2.out, U2.out.block HX.out⟩, KpX.old U2.out⟩
  | true =>
    have HDg := hid (show sc = (if t = t0 ∧ v = v0 then 0 else svE p B) ∧ sp = (if t = t0 ∧ v = v0 then p else svP p B) ∧ svv = (if sc = 0 then (t, v) else (t0, v0)) from by obtain ⟨e1, e2, e3⟩ := HDf.out; rw [if_neg (by rw [hr]; decide)] at e1 e2; exact ⟨e1, e2, e3⟩)
    rw [hr] at HRg
    clear hr HDf
    go_upto_region 4 with (go_at_call 27; refine (HRg.out _).mono ?_; rintro e w3 ⟨rfl, u3⟩; have U3 := hid u3; clear u3)
    have HU3 := hid (HU.out.trans U3.out)
    have HS := hid (show (w3.cell? ⟨g7, 0, none⟩ = some (.int .i64 t) ∧ w3.cell? ⟨g7, 1, none⟩ = some (.int .i64 v)) ∧ w3.cell? ⟨hb, 1, none⟩ = some (.int .i64 t0) ∧ w3.cell? ⟨hb, 2, none⟩ = some (.int .i64 v0) from ⟨⟨U3.out.keep x0, U3.out.keep x1⟩, (box3 (HU3.out.block HX.out)).2.1, (box3 (HU3.out.block HX.out)).2.2.1⟩)
    clear x0 x1
    by_cases he : t = t0 ∧ v = v0
    · have HE := hid (show sc = 0 ∧ sp = p ∧ svv = (t, v) from by obtain ⟨e1, e2, e3⟩ := HDg.out; rw [if_pos he] at e1 e2; exact ⟨e1, e2, by rw [e3, e1, if_pos rfl]⟩)
      obtain ⟨rfl, rfl⟩ := he
      clear HDg
      refine wp_region_noPanic ?_
      refine wp_region_held_drew (S := fun wz => (wz.cell? ⟨g7, 0, none⟩ = some (.int .i64 t) ∧ wz.cell? ⟨g7, 1, none⟩ = some (.int .i64 v)) ∧ wz.cell? ⟨hb, 1, none⟩ = some (.int .i64 t) ∧ wz.cell? ⟨hb, 2, none⟩ = some (.int .i64 v)) (by kernel_rfl) ?_ (fun hHeld => ?_)
      · exact (S4.old ((Old.refl w3).drew) HS.out)
      (try simp only [Act.put]); (try simp only [List.setIfInBounds_toArray]); (try simp only [List.set_cons_succ]); (try simp only [List.set_cons_zero])
      clear hHeld
      refine wpAnyH_take (i := 0) (oi := { dst := some 19, op := Op.load 62 (Operand.tmp 7), type := 62, pos := "hard.go:44", after := #[], guard := none }) (v := ?vk1) rfl (by kernel_rfl) (by kernel_rfl) (by kernel_rfl) (fun _ _ _ h => h) (Or.inl ⟨by rfl, ?hk1⟩) (S4.old ((Old.refl w3).drew) HS.out) ?rk1
      case hk1 => (intro wz hSw; (try dsimp only at hSw); go_simp; try with_reducible rfl)
      (try simp only [Act.put]); (try simp only [List.setIfInBounds_toArray]); (try simp only [List.set_cons_succ]); (try simp only [List.set_cons_zero])
      refine wpAnyH_take (i := 1) (oi := { dst := some 20, op := Op.move (Operand.tmp 0), type := 26, pos := "hard.go:44", after := #[], guard := none }) (v := ?vk2) rfl (by kernel_rfl) (by kernel_rfl) (by kernel_rfl) (fun _ _ _ h => h) (Or.inl ⟨by rfl, ?hk2⟩) (S4.old ((Old.refl w3).drew) HS.out) ?rk2
      case hk2 => (intro wz hSw; (try dsimp only at hSw); go_simp; try with_reducible rfl)
      (try simp only [Act.put]); (try simp only [List.setIfInBounds_toArray]); (try simp only [List.set_cons_succ]); (try simp only [List.set_cons_zero])
      refine wpAnyH_take (i := 2) (oi := { dst := some 21, op := Op.nilCheck (Operand.tmp 20), type := 0, pos := "hard.go:44", after := #[{ on := 1, ground := Ground.data }], guard := none }) (v := ?vk3) rfl (by kernel_rfl) (by kernel_rfl) (by kernel_rfl) (fun _ _ _ h => h) (Or.inl ⟨by rfl, ?hk3⟩) (S4.old ((Old.refl w3).drew) HS.out) ?rk3
      case hk3 => (intro wz hSw; (try dsimp only at hSw); go_simp; try with_reducible rfl)
      (try simp only [Act.put]); (try simp only [List.setIfInBounds_toArray]); (try simp only [List.set_cons_succ]); (try simp only [List.set_cons_zero])
      refine wpAnyH_take (i := 3) (oi := { dst := some 22, op := Op.fieldAddr 65 (Operand.tmp 21) 1, type := 0, pos := "hard.go:44", after := #[{ on := 2, ground := Ground.data }], guard := none }) (v := ?vk4) rfl (by kernel_rfl) (by kernel_rfl) (by kernel_rfl) (fun _ _ _ h => h) (Or.inl ⟨by rfl, ?hk4⟩) (S4.old ((Old.refl w3).drew) HS.out) ?rk4
      case hk4 => (intro wz hSw; (try dsimp only at hSw); go_simp; try with_reducible rfl)
      (try simp only [Act.put]); (try simp only [List.setIfInBounds_toArray]); (try simp only [List.set_cons_succ]); (try simp only [List.set_cons_zero])
      refine wpAnyH_take (i := 4) (oi := { dst := some 23, op := Op.load 62 (Operand.tmp 22), type := 62, pos := "hard.go:44", after := #[{ on := 3, ground := Ground.data }], guard := none }) (v := ?vk5) rfl (by kernel_rfl) (by kernel_rfl) (by kernel_rfl) (fun _ _ _ h => h) (Or.inl ⟨by rfl, ?hk5⟩) (S4.old ((Old.refl w3).drew) HS.out) ?rk5
      case hk5 => (intro wz hSw; (try dsimp only at hSw); go_simp; try with_reducible rfl)
      (try simp only [Act.put]); (try simp only [List.setIfInBounds_toArray]); (try simp only [List.set_cons_succ]); (try simp only [List.set_cons_zero])
      refine wpAnyH_take (i := 5) (oi := { dst := some 24, op := Op.binOp BinOp.eql 62 (Operand.tmp 19) (Operand.tmp 23) 62, type := 4, pos := "hard.go:44", after := #[{ on := 0, ground := Ground.data }, { on := 4, ground := Ground.data }], guard := none }) (v := ?vk6) rfl (by kernel_rfl) (by kernel_rfl) (by kernel_rfl) (fun _ _ _ h => h) (Or.inl ⟨by rfl, ?hk6⟩) (S4.old ((Old.refl w3).drew) HS.out) ?rk6
      case hk6 => (intro wz hSw; (try dsimp only at hSw); go_simp; try with_reducible rfl)
      (try simp only [Act.put]); (try simp only [List.setIfInBounds_toArray]); (try simp only [List.set_cons_succ]); (try simp only [List.set_cons_zero])
      refine wpAnyH_ready (rs := [6]) (by kernel_rfl) (by simp) ?_
      refine AllReadyH.cons (o := { dst := some 18, op := Op.assign (Operand.tmp 24), type := 4, pos := "hard.go:44", after := #[{ on := 5, ground := Ground.data }], guard := none }) rfl (fun K hK => ?_) AllReadyH.nil
      go_simp
      refine hK.out _ _ (S4.old ((Old.refl w3).drew) HS.out) (fun _ => ?_)
      clear hK K
      (try simp only [Act.put]); (try simp only [List.setIfInBounds_toArray]); (try simp only [List.set_cons_succ]); (try simp only [List.set_cons_zero])
      refine wpAnyH_done (by kernel_rfl) ?_ _
      refine NoPanic.normal ?_
      have HD4 := hid (HD.out.old (HU3.out.trans ((Old.refl w3).drew)))
      have HX4 := hid ((HU3.out.trans ((Old.refl w3).drew)).block HX.out)
      have HU4 := hid (HU3.out.trans ((Old.refl w3).drew))
      clear HS
      generalize World.drew w3 = w4 at *
      go_wp2
      refine bodyPost_ret (v := .int .i64 0) (by simp [results, Tryz.results8, go_sem]) rfl ?_
      rw [HE.out.1, HE.out.2.1, HE.out.2.2]
      exact ⟨⟨rfl, HD4.out, HX4.out⟩, KpX.old HU4.out⟩
    · have HE := hid (show sc = svE p B ∧ sp = svP p B ∧ svv = (if svE p B = 0 then (t, v) else (t0, v0)) from by obtain ⟨e1, e2, e3⟩ := HDg.out; rw [if_neg he] at e1 e2; exact ⟨e1, e2, by rw [e3, e1]⟩)
      clear HDg
      by_cases ht0 : t = t0
      · have hv0 : ¬ v = v0 := fun e => he ⟨ht0, e⟩
        have d1 : (t == t0) = true := by simpa using ht0
        have d2 : (v == v0) = false := by rw [beq_eq_false_iff_ne]; exact hv0
        clear he
        subst ht0
        refine wp_region_noPanic ?_
        refine wp_region_held_drew (S := fun wz => (wz.cell? ⟨g7, 0, none⟩ = some (.int .i64 t) ∧ wz.cell? ⟨g7, 1, none⟩ = some (.int .i64 v)) ∧ wz.cell? ⟨hb, 1, none⟩ = some (.int .i64 t) ∧ wz.cell? ⟨hb, 2, none⟩ = some (.int .i64 v0)) (by kernel_rfl) ?_ (fun hHeld => ?_)
        · exact (S4.old ((Old.refl w3).drew) HS.out)
        (try simp only [Act.put]); (try simp only [List.setIfInBounds_toArray]); (try simp only [List.set_cons_succ]); (try simp only [List.set_cons_zero])
        clear hHeld
        refine wpAnyH_take (i := 0) (oi := { dst := some 19, op := Op.load 62 (Operand.tmp 7), type := 62, pos := "hard.go:44", after := #[], guard := none }) (v := ?vk7) rfl (by kernel_rfl) (by kernel_rfl) (by kernel_rfl) (fun _ _ _ h => h) (Or.inl ⟨by rfl, ?hk7⟩) (S4.old ((Old.refl w3).drew) HS.out) ?rk7
        case hk7 => (intro wz hSw; (try dsimp only at hSw); go_simp; try with_reducible rfl)
        (try simp only [Act.put]); (try simp only [List.setIfInBounds_toArray]); (try simp only [List.set_cons_succ]); (try simp only [List.set_cons_zero])
        refine wpAnyH_take (i := 1) (oi := { dst := some 20, op := Op.move (Operand.tmp 0), type := 26, pos := "hard.go:44", after := #[], guard := none }) (v := ?vk8) rfl (by kernel_rfl) (by kernel_rfl) (by kernel_rfl) (fun _ _ _ h => h) (Or.inl ⟨by rfl, ?hk8⟩) (S4.old ((Old.refl w3).drew) HS.out) ?rk8
        case hk8 => (intro wz hSw; (try dsimp only at hSw); go_simp; try with_reducible rfl)
        (try simp only [Act.put]); (try simp only [List.setIfInBounds_toArray]); (try simp only [List.set_cons_succ]); (try simp only [List.set_cons_zero])
        refine wpAnyH_take (i := 2) (oi := { dst := some 21, op := Op.nilCheck (Operand.tmp 20), type := 0, pos := "hard.go:44", after := #[{ on := 1, ground := Ground.data }], guard := none }) (v := ?vk9) rfl (by kernel_rfl) (by kernel_rfl) (by kernel_rfl) (fun _ _ _ h => h) (Or.inl ⟨by rfl, ?hk9⟩) (S4.old ((Old.refl w3).drew) HS.out) ?rk9
        case hk9 => (intro wz hSw; (try dsimp only at hSw); go_simp; try with_reducible rfl)
        (try simp only [Act.put]); (try simp only [List.setIfInBounds_toArray]); (try simp only [List.set_cons_succ]); (try simp only [List.set_cons_zero])
        refine wpAnyH_take (i := 3) (oi := { dst := some 22, op := Op.fieldAddr 65 (Operand.tmp 21) 1, type := 0, pos := "hard.go:44", after := #[{ on := 2, ground := Ground.data }], guard := none }) (v := ?vk10) rfl (by kernel_rfl) (by kernel_rfl) (by kernel_rfl) (fun _ _ _ h => h) (Or.inl ⟨by rfl, ?hk10⟩) (S4.old ((Old.refl w3).drew) HS.out) ?rk10
        case hk10 => (intro wz hSw; (try dsimp only at hSw); go_simp; try with_reducible rfl)
        (try simp only [Act.put]); (try simp only [List.setIfInBounds_toArray]); (try simp only [List.set_cons_succ]); (try simp only [List.set_cons_zero])
        refine wpAnyH_take (i := 4) (oi := { dst := some 23, op := Op.load 62 (Operand.tmp 22), type := 62, pos := "hard.go:44", after := #[{ on := 3, ground := Ground.data }], guard := none }) (v := ?vk11) rfl (by kernel_rfl) (by kernel_rfl) (by kernel_rfl) (fun _ _ _ h => h) (Or.inl ⟨by rfl, ?hk11⟩) (S4.old ((Old.refl w3).drew) HS.out) ?rk11
        case hk11 => (intro wz hSw; (try dsimp only at hSw); go_simp; try with_reducible rfl)
        (try simp only [Act.put]); (try simp only [List.setIfInBounds_toArray]); (try simp only [List.set_cons_succ]); (try simp only [List.set_cons_zero])
        refine wpAnyH_take (i := 5) (oi := { dst := some 24, op := Op.binOp BinOp.eql 62 (Operand.tmp 19) (Operand.tmp 23) 62, type := 4, pos := "hard.go:44", after := #[{ on := 0, ground := Ground.data }, { on := 4, ground := Ground.data }], guard := none }) (v := ?vk12) rfl (by kernel_rfl) (by kernel_rfl) (by kernel_rfl) (fun _ _ _ h => h) (Or.inl ⟨by rfl, ?hk12⟩) (S4.old ((Old.refl w3).drew) HS.out) ?rk12
        case hk12 => (intro wz hSw; (try dsimp only at hSw); go_simp; try with_reducible rfl)
        (try simp only [Act.put]); (try simp only [List.setIfInBounds_toArray]); (try simp only [List.set_cons_succ]); (try simp only [List.set_cons_zero])
        refine wpAnyH_ready (rs := [6]) (by kernel_rfl) (by simp) ?_
        refine AllReadyH.cons (o := { dst := some 18, op := Op.assign (Operand.tmp 24), type := 4, pos := "hard.go:44", after := #[{ on := 5, ground := Ground.data }], guard := none }) rfl (fun K hK => ?_) AllReadyH.nil
        go_simp
        refine hK.out _ _ (S4.old ((Old.refl w3).drew) HS.out) (fun _ => ?_)
        clear hK K
        (try simp only [Act.put]); (try simp only [List.setIfInBounds_toArray]); (try simp only [List.set_cons_succ]); (try simp only [List.set_cons_zero])
        refine wpAnyH_done (by kernel_rfl) ?_ _
        refine NoPanic.normal ?_
        have HU4 := hid (HU3.out.trans ((Old.refl w3).drew))
        have HG4 := hid ((U3.out.trans ((Old.refl w3).drew)).block HG.out)
        clear HS
        generalize World.drew w3 = w4 at *
        obtain ⟨x0, x1, -, -⟩ := box2 HG4.out
        go_upto_region 7 with (go_at_call 28; refine (steps_any hb t v _).mono ?_; rintro e w5 ⟨b0, b1, gs, rfl, q1, q2, q3, u5, m0, m1, m2⟩; have Q1 := hid q1; have Q2 := hid q2; have Q3 := hid q3; have U5 := hid u5; have M5 := hid (And.intro m0 (And.intro m1 m2)); clear q1 q2 q3 u5 m0 m1 m2)
        clear x0 x1
        have HD5 := hid (show Dsk w0 w5 db p (A ++ [g7, b0, b1, gs]) from HD.out.add (HU4.out.trans U5.out) [g7, b0, b1, gs] (fun g hg => by
          have s4 := HU4.out.size
          have s5 := heap_lt Q1.out
          have s6 := heap_lt Q2.out
          have s7 := heap_lt Q3.out
          have s8 := heap_lt (U5.out.block HG4.out)
          have s9 := HG7.out
          have sm := M5.out
          simp at hg
          omega))
        have HX5 := hid ((HU4.out.trans U5.out).block HX.out)
        have HG5 := hid (U5.out.block HG4.out)
        have HAA := hid (show hb ∈ (A ++ [g7, b0, b1, gs]) ∧ g7 ∈ (A ++ [g7, b0, b1, gs]) ∧ b0 ∈ (A ++ [g7, b0, b1, gs]) ∧ b1 ∈ (A ++ [g7, b0, b1, gs]) ∧ gs ∈ (A ++ [g7, b0, b1, gs]) from ⟨List.mem_append_left _ HA.out, by simp, by simp, by simp, by simp⟩)
        generalize hAq : A ++ [g7, b0, b1, gs] = AQ at *
        have HAq := hid (show ∀ g ∈ A, g ∈ AQ from fun g hg => by rw [← hAq]; exact List.mem_append_left _ hg)
        clear hAq
        go_wp2
        go_loopw [29] (fun c wr => ∃ i : Nat, i ≤ 4 ∧ c = .int .i64 (i : Nat) ∧ (∀ j, j < i → cK p B j = 0) ∧ Dsk w0 wr db (sK p B i) AQ ∧ Kp AQ w5 wr) (fun c _ => 4 - (intOf c).toNat)
        case atStart => exact ⟨0, by omega, rfl, fun j hj => by omega, HD5.out, Kp.refl _ _⟩
        case round =>
          obtain ⟨i, hi, rfl, hz, hDk, hKk⟩ := hrel
          have HZ := hid hz
          have HDk := hid hDk
          have HKk := hid hKk
          clear hz hDk hKk
          have Y1 := hid (HKk.out.at HAA.out.2.2.2.2 Q1.out)
          have Y2 := hid (HKk.out.at HAA.out.2.2.1 Q2.out)
          have Y3 := hid (HKk.out.at HAA.out.2.2.2.1 Q3.out)
          have YX := hid (HKk.out.at HAA.out.1 HX5.out)
          have YG := hid (HKk.out.at HAA.out.2.1 HG5.out)
          have z0 : wr.cell? ⟨gs, 0, none⟩ = some (.func (.func 55) #[] #[.pointer (some ⟨b0, 0, none⟩)]) := by rw [Go.Joins.cell_of_block Y1.out]; rfl
          have z1 : wr.cell? ⟨gs, 1, none⟩ = some (.func (.func 57) #[] #[.pointer (some ⟨b0, 0, none⟩), .pointer (some ⟨b1, 0, none⟩)]) := by rw [Go.Joins.cell_of_block Y1.out]; rfl
          have z2 : wr.cell? ⟨gs, 2, none⟩ = some (.func (.func 60) #[] #[.pointer (some ⟨b0, 0, none⟩)]) := by rw [Go.Joins.cell_of_block Y1.out]; rfl
          have z3 : wr.cell? ⟨gs, 3, none⟩ = some (.func (.func 62) #[] #[.pointer (some ⟨b0, 0, none⟩)]) := by rw [Go.Joins.cell_of_block Y1.out]; rfl
          have y0 : wr.cell? ⟨b0, 0, none⟩ = some (.pointer (some ⟨hb, 0, none⟩)) := by rw [Go.Joins.cell_of_block Y2.out]; rfl
          obtain ⟨p0, p1, -, -⟩ := box2 Y3.out
          obtain ⟨h0, h1, h2, hf0, hf1, hf2⟩ := box3 YX.out
          have HTl := hid (sv_at p B)
          have HTe := hid (sv_end p B)
          match i, hi with
          | 0, _ =>
            have HCl := hid (show Calls Tryz.prog 55 #[.pointer (some ⟨b0, 0, none⟩)] wr fun e w' => e = .returned (.int .i64 (cK p B 0)) ∧ Dsk w0 w' db (sK p B 1) AQ ∧ Kp AQ wr w' from by exact (st1_any w0 wr db hb b0 _ AQ HDk.out y0 h0))
            have HTk := hid (HTl.out 0 (by omega) HZ.out)
            obtain ⟨ck, hck⟩ : ∃ ck, ck = cK p B 0 := ⟨_, rfl⟩
            have HCk := hid hck
            rw [← hck] at HCl HTk
            clear hck HTl HTe
            by_cases c0 : ck = 0
            · subst c0
              go_wp2_with (go_at_call 55; refine HCl.out.mono ?_; rintro e w8 ⟨rfl, d8, k8⟩; have D8 := hid d8; have K8 := hid (HKk.out.trans k8); clear d8 k8)
              go_roundw
              case rel => exact ⟨1, by omega, by go_num, (fun j hj => by by_cases e : j = 0; (rw [e]; exact HCk.out.symm); exact HZ.out j (by omega)), D8.out, K8.out⟩
              case measure => simp [intOf]
            · have k1 : (ck != 0) = true := by rw [bne_iff_ne]; exact c0
              have k2 : (ck == 0) = false := by rw [beq_eq_false_iff_ne]; exact c0
              have HEn := hid (show svE p B = ck ∧ svP p B = sK p B 1 ∧ (if svE p B = 0 then (t, v) else (t, v0)) = (t, v0) from by obtain ⟨e1, e2⟩ := HTk.out c0; exact ⟨e1, e2, by rw [e1, if_neg c0]⟩)
              clear c0
              go_wp2_with (go_at_call 55; refine HCl.out.mono ?_; rintro e w8 ⟨rfl, d8, k8⟩; have D8 := hid d8; have K8 := hid (HKk.out.trans k8); clear d8 k8)
              refine bodyPost_ret (v := .int .i64 ck) (by simp [results, Tryz.results8, go_sem]) rfl ?_
              rw [HE.out.1, HE.out.2.1, HE.out.2.2, HEn.out.2.2, HEn.out.1, HEn.out.2.1]
              exact ⟨⟨rfl, D8.out.less HAq.out, K8.out.at HAA.out.1 HX5.out⟩, (KpX.old (HU4.out.trans U5.out)).trans (KpX.kp K8.out HAq.out)⟩
          | 1, _ =>
            have HCl := hid (show Calls Tryz.prog 57 #[.pointer (some ⟨b0, 0, none⟩), .pointer (some ⟨b1, 0, none⟩)] wr fun e w' => e = .returned (.int .i64 (cK p B 1)) ∧ Dsk w0 w' db (sK p B 2) AQ ∧ Kp AQ wr w' from by rw [← HB.out]; exact (st2_any w0 wr db hb b0 b1 t v _ AQ HDk.out HT.out y0 h0 ⟨p0, p1⟩ ⟨HAA.out.2.2.1, HAA.out.1, HAA.out.2.2.2.1⟩ HR.out.1 HR.out.2))
            have HTk := hid (HTl.out 1 (by omega) HZ.out)
            obtain ⟨ck, hck⟩ : ∃ ck, ck = cK p B 1 := ⟨_, rfl⟩
            have HCk := hid hck
            rw [← hck] at HCl HTk
            clear hck HTl HTe
            by_cases c0 : ck = 0
            · subst c0
              go_wp2_with (go_at_call 57; refine HCl.out.mono ?_; rintro e w8 ⟨rfl, d8, k8⟩; have D8 := hid d8; have K8 := hid (HKk.out.trans k8); clear d8 k8)
              go_roundw
              case rel => exact ⟨2, by omega, by go_num, (fun j hj => by by_cases e : j = 1; (rw [e]; exact HCk.out.symm); exact HZ.out j (by omega)), D8.out, K8.out⟩
              case measure => simp [intOf]
            · have k1 : (ck != 0) = true := by rw [bne_iff_ne]; exact c0
              have k2 : (ck == 0) = false := by rw [beq_eq_false_iff_ne]; exact c0
              have HEn := hid (show svE p B = ck ∧ svP p B = sK p B 2 ∧ (if svE p B = 0 then (t, v) else (t, v0)) = (t, v0) from by obtain ⟨e1, e2⟩ := HTk.out c0; exact ⟨e1, e2, by rw [e1, if_neg c0]⟩)
              clear c0
              go_wp2_with (go_at_call 57; refine HCl.out.mono ?_; rintro e w8 ⟨rfl, d8, k8⟩; have D8 := hid d8; have K8 := hid (HKk.out.trans k8); clear d8 k8)
              refine bodyPost_ret (v := .int .i64 ck) (by simp [results, Tryz.results8, go_sem]) rfl ?_
              rw [HE.out.1, HE.out.2.1, HE.out.2.2, HEn.out.2.2, HEn.out.1, HEn.out.2.1]
              exact ⟨⟨rfl, D8.out.less HAq.out, K8.out.at HAA.out.1 HX5.out⟩, (KpX.old (HU4.out.trans U5.out)).trans (KpX.kp K8.out HAq.out)⟩
          | 2, _ =>
            have HCl := hid (show Calls Tryz.prog 60 #[.pointer (some ⟨b0, 0, none⟩)] wr fun e w' => e = .returned (.int .i64 (cK p B 2)) ∧ Dsk w0 w' db (sK p B 3) AQ ∧ Kp AQ wr w' from by exact (st3_any w0 wr db hb b0 _ AQ HDk.out y0 h0))
            have HTk := hid (HTl.out 2 (by omega) HZ.out)
            obtain ⟨ck, hck⟩ : ∃ ck, ck = cK p B 2 := ⟨_, rfl⟩
            have HCk := hid hck
            rw [← hck] at HCl HTk
            clear hck HTl HTe
            by_cases c0 : ck = 0
            · subst c0
              go_wp2_with (go_at_call 60; refine HCl.out.mono ?_; rintro e w8 ⟨rfl, d8, k8⟩; have D8 := hid d8; have K8 := hid (HKk.out.trans k8); clear d8 k8)
              go_roundw
              case rel => exact ⟨3, by omega, by go_num, (fun j hj => by by_cases e : j = 2; (rw [e]; exact HCk.out.symm); exact HZ.out j (by omega)), D8.out, K8.out⟩
              case measure => simp [intOf]
            · have k1 : (ck != 0) = true := by rw [bne_iff_ne]; exact c0
              have k2 : (ck == 0) = false := by rw [beq_eq_false_iff_ne]; exact c0
              have HEn := hid (show svE p B = ck ∧ svP p B = sK p B 3 ∧ (if svE p B = 0 then (t, v) else (t, v0)) = (t, v0) from by obtain ⟨e1, e2⟩ := HTk.out c0; exact ⟨e1, e2, by rw [e1, if_neg c0]⟩)
              clear c0
              go_wp2_with (go_at_call 60; refine HCl.out.mono ?_; rintro e w8 ⟨rfl, d8, k8⟩; have D8 := hid d8; have K8 := hid (HKk.out.trans k8); clear d8 k8)
              refine bodyPost_ret (v := .int .i64 ck) (by simp [results, Tryz.results8, go_sem]) rfl ?_
              rw [HE.out.1, HE.out.2.1, HE.out.2.2, HEn.out.2.2, HEn.out.1, HEn.out.2.1]
              exact ⟨⟨rfl, D8.out.less HAq.out, K8.out.at HAA.out.1 HX5.out⟩, (KpX.old (HU4.out.trans U5.out)).trans (KpX.kp K8.out HAq.out)⟩
          | 3, _ =>
            have HCl := hid (show Calls Tryz.prog 62 #[.pointer (some ⟨b0, 0, none⟩)] wr fun e w' => e = .returned (.int .i64 (cK p B 3)) ∧ Dsk w0 w' db (sK p B 4) AQ ∧ Kp AQ wr w' from by exact (st4_any w0 wr db hb b0 _ AQ HDk.out y0 h0))
            have HTk := hid (HTl.out 3 (by omega) HZ.out)
            obtain ⟨ck, hck⟩ : ∃ ck, ck = cK p B 3 := ⟨_, rfl⟩
            have HCk := hid hck
            rw [← hck] at HCl HTk
            clear hck HTl HTe
            by_cases c0 : ck = 0
            · subst c0
              go_wp2_with (go_at_call 62; refine HCl.out.mono ?_; rintro e w8 ⟨rfl, d8, k8⟩; have D8 := hid d8; have K8 := hid (HKk.out.trans k8); clear d8 k8)
              go_roundw
              case rel => exact ⟨4, by omega, by go_num, (fun j hj => by by_cases e : j = 3; (rw [e]; exact HCk.out.symm); exact HZ.out j (by omega)), D8.out, K8.out⟩
              case measure => simp [intOf]
            · have k1 : (ck != 0) = true := by rw [bne_iff_ne]; exact c0
              have k2 : (ck == 0) = false := by rw [beq_eq_false_iff_ne]; exact c0
              have HEn := hid (show svE p B = ck ∧ svP p B = sK p B 4 ∧ (if svE p B = 0 then (t, v) else (t, v0)) = (t, v0) from by obtain ⟨e1, e2⟩ := HTk.out c0; exact ⟨e1, e2, by rw [e1, if_neg c0]⟩)
              clear c0
              go_wp2_with (go_at_call 62; refine HCl.out.mono ?_; rintro e w8 ⟨rfl, d8, k8⟩; have D8 := hid d8; have K8 := hid (HKk.out.trans k8); clear d8 k8)
              refine bodyPost_ret (v := .int .i64 ck) (by simp [results, Tryz.results8, go_sem]) rfl ?_
              rw [HE.out.1, HE.out.2.1, HE.out.2.2, HEn.out.2.2, HEn.out.1, HEn.out.2.1]
              exact ⟨⟨rfl, D8.out.less HAq.out, K8.out.at HAA.out.1 HX5.out⟩, (KpX.old (HU4.out.trans U5.out)).trans (KpX.kp K8.out HAq.out)⟩
          | 4, _ =>
            have HEn := hid (show svE p B = 0 ∧ svP p B = sK p B 4 from HTe.out HZ.out)
            have HEv := hid (show (if svE p B = 0 then (t, v) else (t, v0)) = (t, v) from by rw [HEn.out.1, if_pos rfl])
            obtain ⟨g0, g1, -, -⟩ := box2 YG.out
            have HXs := hid (show ((wr.setCell ⟨hb, 1, none⟩ (.int .i64 t)).setCell ⟨hb, 2, none⟩ (.int .i64 v)).heap[hb]? = some (.cells #[.pointer (some ⟨db, 0, none⟩), .int .i64 t, .int .i64 v] 65 (0, 0)) from Go.Joins.block_setCell (Go.Joins.block_setCell YX.out _ (i := 1)) _ (i := 2))
            have HDs := hid (show Dsk w0 ((wr.setCell ⟨hb, 1, none⟩ (.int .i64 t)).setCell ⟨hb, 2, none⟩ (.int .i64 v)) db (sK p B 4) AQ from HDk.out.wr ((Chg.set (S := [hb]) wr ⟨hb, 1, none⟩ _ (by simp)).trans (Chg.set (S := [hb]) _ ⟨hb, 2, none⟩ _ (by simp))) (fun g hg => by simp at hg; rw [hg]; exact ⟨HAA.out.1, HLow.out⟩))
            clear HTl HTe
            go_wp2
            refine bodyPost_ret (v := .int .i64 0) (by simp [results, Tryz.results8, go_sem]) rfl ?_
            rw [HE.out.1, HE.out.2.1, HE.out.2.2, HEv.out, HEn.out.1, HEn.out.2]
            exact ⟨⟨rfl, HDs.out.less HAq.out, HXs.out⟩, (KpX.old (HU4.out.trans U5.out)).trans ((KpX.kp HKk.out HAq.out).trans (KpX.chg ((Chg.set (S := [hb]) wr ⟨hb, 1, none⟩ _ (by simp)).trans (Chg.set (S := [hb]) _ ⟨hb, 2, none⟩ _ (by simp)))))⟩
      · have d1 : (t == t0) = false := by rw [beq_eq_false_iff_ne]; exact ht0
        clear he
        refine wp_region_noPanic ?_
        refine wp_region_held_drew (S := fun wz => (wz.cell? ⟨g7, 0, none⟩ = some (.int .i64 t) ∧ wz.cell? ⟨g7, 1, none⟩ = some (.int .i64 v)) ∧ wz.cell? ⟨hb, 1, none⟩ = some (.int .i64 t0) ∧ wz.cell? ⟨hb, 2, none⟩ = some (.int .i64 v0)) (by kernel_rfl) ?_ (fun hHeld => ?_)
        · exact (S4.old ((Old.refl w3).drew) HS.out)
        (try simp only [Act.put]); (try simp only [List.setIfInBounds_toArray]); (try simp only [List.set_cons_succ]); (try simp only [List.set_cons_zero])
        clear hHeld
        refine wpAnyH_take (i := 0) (oi := { dst := some 19, op := Op.load 62 (Operand.tmp 7), type := 62, pos := "hard.go:44", after := #[], guard := none }) (v := ?vk13) rfl (by kernel_rfl) (by kernel_rfl) (by kernel_rfl) (fun _ _ _ h => h) (Or.inl ⟨by rfl, ?hk13⟩) (S4.old ((Old.refl w3).drew) HS.out) ?rk13
        case hk13 => (intro wz hSw; (try dsimp only at hSw); go_simp; try with_reducible rfl)
        (try simp only [Act.put]); (try simp only [List.setIfInBounds_toArray]); (try simp only [List.set_cons_succ]); (try simp only [List.set_cons_zero])
        refine wpAnyH_take (i := 1) (oi := { dst := some 20, op := Op.move (Operand.tmp 0), type := 26, pos := "hard.go:44", after := #[], guard := none }) (v := ?vk14) rfl (by kernel_rfl) (by kernel_rfl) (by kernel_rfl) (fun _ _ _ h => h) (Or.inl ⟨by rfl, ?hk14⟩) (S4.old ((Old.refl w3).drew) HS.out) ?rk14
        case hk14 => (intro wz hSw; (try dsimp only at hSw); go_simp; try with_reducible rfl)
        (try simp only [Act.put]); (try simp only [List.setIfInBounds_toArray]); (try simp only [List.set_cons_succ]); (try simp only [List.set_cons_zero])
        refine wpAnyH_take (i := 2) (oi := { dst := some 21, op := Op.nilCheck (Operand.tmp 20), type := 0, pos := "hard.go:44", after := #[{ on := 1, ground := Ground.data }], guard := none }) (v := ?vk15) rfl (by kernel_rfl) (by kernel_rfl) (by kernel_rfl) (fun _ _ _ h => h) (Or.inl ⟨by rfl, ?hk15⟩) (S4.old ((Old.refl w3).drew) HS.out) ?rk15
        case hk15 => (intro wz hSw; (try dsimp only at hSw); go_simp; try with_reducible rfl)
        (try simp only [Act.put]); (try simp only [List.setIfInBounds_toArray]); (try simp only [List.set_cons_succ]); (try simp only [List.set_cons_zero])
        refine wpAnyH_take (i := 3) (oi := { dst := some 22, op := Op.fieldAddr 65 (Operand.tmp 21) 1, type := 0, pos := "hard.go:44", after := #[{ on := 2, ground := Ground.data }], guard := none }) (v := ?vk16) rfl (by kernel_rfl) (by kernel_rfl) (by kernel_rfl) (fun _ _ _ h => h) (Or.inl ⟨by rfl, ?hk16⟩) (S4.old ((Old.refl w3).drew) HS.out) ?rk16
        case hk16 => (intro wz hSw; (try dsimp only at hSw); go_simp; try with_reducible rfl)
        (try simp only [Act.put]); (try simp only [List.setIfInBounds_toArray]); (try simp only [List.set_cons_succ]); (try simp only [List.set_cons_zero])
        refine wpAnyH_take (i := 4) (oi := { dst := some 23, op := Op.load 62 (Operand.tmp 22), type := 62, pos := "hard.go:44", after := #[{ on := 3, ground := Ground.data }], guard := none }) (v := ?vk17) rfl (by kernel_rfl) (by kernel_rfl) (by kernel_rfl) (fun _ _ _ h => h) (Or.inl ⟨by rfl, ?hk17⟩) (S4.old ((Old.refl w3).drew) HS.out) ?rk17
        case hk17 => (intro wz hSw; (try dsimp only at hSw); go_simp; try with_reducible rfl)
        (try simp only [Act.put]); (try simp only [List.setIfInBounds_toArray]); (try simp only [List.set_cons_succ]); (try simp only [List.set_cons_zero])
        refine wpAnyH_take (i := 5) (oi := { dst := some 24, op := Op.binOp BinOp.eql 62 (Operand.tmp 19) (Operand.tmp 23) 62, type := 4, pos := "hard.go:44", after := #[{ on := 0, ground := Ground.data }, { on := 4, ground := Ground.data }], guard := none }) (v := ?vk18) rfl (by kernel_rfl) (by kernel_rfl) (by kernel_rfl) (fun _ _ _ h => h) (Or.inl ⟨by rfl, ?hk18⟩) (S4.old ((Old.refl w3).drew) HS.out) ?rk18
        case hk18 => (intro wz hSw; (try dsimp only at hSw); go_simp; try with_reducible rfl)
        (try simp only [Act.put]); (try simp only [List.setIfInBounds_toArray]); (try simp only [List.set_cons_succ]); (try simp only [List.set_cons_zero])
        refine wpAnyH_ready (rs := [6]) (by kernel_rfl) (by simp) ?_
        refine AllReadyH.cons (o := { dst := some 18, op := Op.assign (Operand.tmp 24), type := 4, pos := "hard.go:44", after := #[{ on := 5, ground := Ground.data }], guard := none }) rfl (fun K hK => ?_) AllReadyH.nil
        go_simp
        refine hK.out _ _ (S4.old ((Old.refl w3).drew) HS.out) (fun _ => ?_)
        clear hK K
        (try simp only [Act.put]); (try simp only [List.setIfInBounds_toArray]); (try simp only [List.set_cons_succ]); (try simp only [List.set_cons_zero])
        refine wpAnyH_done (by kernel_rfl) ?_ _
        refine NoPanic.normal ?_
        have HU4 := hid (HU3.out.trans ((Old.refl w3).drew))
        have HG4 := hid ((U3.out.trans ((Old.refl w3).drew)).block HG.out)
        clear HS
        generalize World.drew w3 = w4 at *
        obtain ⟨x0, x1, -, -⟩ := box2 HG4.out
        go_upto_region 7 with (go_at_call 28; refine (steps_any hb t v _).mono ?_; rintro e w5 ⟨b0, b1, gs, rfl, q1, q2, q3, u5, m0, m1, m2⟩; have Q1 := hid q1; have Q2 := hid q2; have Q3 := hid q3; have U5 := hid u5; have M5 := hid (And.intro m0 (And.intro m1 m2)); clear q1 q2 q3 u5 m0 m1 m2)
        clear x0 x1
        have HD5 := hid (show Dsk w0 w5 db p (A ++ [g7, b0, b1, gs]) from HD.out.add (HU4.out.trans U5.out) [g7, b0, b1, gs] (fun g hg => by
          have s4 := HU4.out.size
          have s5 := heap_lt Q1.out
          have s6 := heap_lt Q2.out
          have s7 := heap_lt Q3.out
          have s8 := heap_lt (U5.out.block HG4.out)
          have s9 := HG7.out
          have sm := M5.out
          simp at hg
          omega))
        have HX5 := hid ((HU4.out.trans U5.out).block HX.out)
        have HG5 := hid (U5.out.block HG4.out)
        have HAA := hid (show hb ∈ (A ++ [g7, b0, b1, gs]) ∧ g7 ∈ (A ++ [g7, b0, b1, gs]) ∧ b0 ∈ (A ++ [g7, b0, b1, gs]) ∧ b1 ∈ (A ++ [g7, b0, b1, gs]) ∧ gs ∈ (A ++ [g7, b0, b1, gs]) from ⟨List.mem_append_left _ HA.out, by simp, by simp, by simp, by simp⟩)
        generalize hAq : A ++ [g7, b0, b1, gs] = AQ at *
        have HAq := hid (show ∀ g ∈ A, g ∈ AQ from fun g hg => by rw [← hAq]; exact List.mem_append_left _ hg)
        clear hAq
        go_wp2
        go_loopw [29] (fun c wr => ∃ i : Nat, i ≤ 4 ∧ c = .int .i64 (i : Nat) ∧ (∀ j, j < i → cK p B j = 0) ∧ Dsk w0 wr db (sK p B i) AQ ∧ Kp AQ w5 wr) (fun c _ => 4 - (intOf c).toNat)
        case atStart => exact ⟨0, by omega, rfl, fun j hj => by omega, HD5.out, Kp.refl _ _⟩
        case round =>
          obtain ⟨i, hi, rfl, hz, hDk, hKk⟩ := hrel
          have HZ := hid hz
          have HDk := hid hDk
          have HKk := hid hKk
          clear hz hDk hKk
          have Y1 := hid (HKk.out.at HAA.out.2.2.2.2 Q1.out)
          have Y2 := hid (HKk.out.at HAA.out.2.2.1 Q2.out)
          have Y3 := hid (HKk.out.at HAA.out.2.2.2.1 Q3.out)
          have YX := hid (HKk.out.at HAA.out.1 HX5.out)
          have YG := hid (HKk.out.at HAA.out.2.1 HG5.out)
          have z0 : wr.cell? ⟨gs, 0, none⟩ = some (.func (.func 55) #[] #[.pointer (some ⟨b0, 0, none⟩)]) := by rw [Go.Joins.cell_of_block Y1.out]; rfl
          have z1 : wr.cell? ⟨gs, 1, none⟩ = some (.func (.func 57) #[] #[.pointer (some ⟨b0, 0, none⟩), .pointer (some ⟨b1, 0, none⟩)]) := by rw [Go.Joins.cell_of_block Y1.out]; rfl
          have z2 : wr.cell? ⟨gs, 2, none⟩ = some (.func (.func 60) #[] #[.pointer (some ⟨b0, 0, none⟩)]) := by rw [Go.Joins.cell_of_block Y1.out]; rfl
          have z3 : wr.cell? ⟨gs, 3, none⟩ = some (.func (.func 62) #[] #[.pointer (some ⟨b0, 0, none⟩)]) := by rw [Go.Joins.cell_of_block Y1.out]; rfl
          have y0 : wr.cell? ⟨b0, 0, none⟩ = some (.pointer (some ⟨hb, 0, none⟩)) := by rw [Go.Joins.cell_of_block Y2.out]; rfl
          obtain ⟨p0, p1, -, -⟩ := box2 Y3.out
          obtain ⟨h0, h1, h2, hf0, hf1, hf2⟩ := box3 YX.out
          have HTl := hid (sv_at p B)
          have HTe := hid (sv_end p B)
          match i, hi with
          | 0, _ =>
            have HCl := hid (show Calls Tryz.prog 55 #[.pointer (some ⟨b0, 0, none⟩)] wr fun e w' => e = .returned (.int .i64 (cK p B 0)) ∧ Dsk w0 w' db (sK p B 1) AQ ∧ Kp AQ wr w' from by exact (st1_any w0 wr db hb b0 _ AQ HDk.out y0 h0))
            have HTk := hid (HTl.out 0 (by omega) HZ.out)
            obtain ⟨ck, hck⟩ : ∃ ck, ck = cK p B 0 := ⟨_, rfl⟩
            have HCk := hid hck
            rw [← hck] at HCl HTk
            clear hck HTl HTe
            by_cases c0 : ck = 0
            · subst c0
              go_wp2_with (go_at_call 55; refine HCl.out.mono ?_; rintro e w8 ⟨rfl, d8, k8⟩; have D8 := hid d8; have K8 := hid (HKk.out.trans k8); clear d8 k8)
              go_roundw
              case rel => exact ⟨1, by omega, by go_num, (fun j hj => by by_cases e : j = 0; (rw [e]; exact HCk.out.symm); exact HZ.out j (by omega)), D8.out, K8.out⟩
              case measure => simp [intOf]
            · have k1 : (ck != 0) = true := by rw [bne_iff_ne]; exact c0
              have k2 : (ck == 0) = false := by rw [beq_eq_false_iff_ne]; exact c0
              have HEn := hid (show svE p B = ck ∧ svP p B = sK p B 1 ∧ (if svE p B = 0 then (t, v) else (t0, v0)) = (t0, v0) from by obtain ⟨e1, e2⟩ := HTk.out c0; exact ⟨e1, e2, by rw [e1, if_neg c0]⟩)
              clear c0
              go_wp2_with (go_at_call 55; refine HCl.out.mono ?_; rintro e w8 ⟨rfl, d8, k8⟩; have D8 := hid d8; have K8 := hid (HKk.out.trans k8); clear d8 k8)
              refine bodyPost_ret (v := .int .i64 ck) (by simp [results, Tryz.results8, go_sem]) rfl ?_
              rw [HE.out.1, HE.out.2.1, HE.out.2.2, HEn.out.2.2, HEn.out.1, HEn.out.2.1]
              exact ⟨⟨rfl, D8.out.less HAq.out, K8.out.at HAA.out.1 HX5.out⟩, (KpX.old (HU4.out.trans U5.out)).trans (KpX.kp K8.out HAq.out)⟩
          | 1, _ =>
            have HCl := hid (show Calls Tryz.prog 57 #[.pointer (some ⟨b0, 0, none⟩), .pointer (some ⟨b1, 0, none⟩)] wr fun e w' => e = .returned (.int .i64 (cK p B 1)) ∧ Dsk w0 w' db (sK p B 2) AQ ∧ Kp AQ wr w' from by rw [← HB.out]; exact (st2_any w0 wr db hb b0 b1 t v _ AQ HDk.out HT.out y0 h0 ⟨p0, p1⟩ ⟨HAA.out.2.2.1, HAA.out.1, HAA.out.2.2.2.1⟩ HR.out.1 HR.out.2))
            have HTk := hid (HTl.out 1 (by omega) HZ.out)
            obtain ⟨ck, hck⟩ : ∃ ck, ck = cK p B 1 := ⟨_, rfl⟩
            have HCk := hid hck
            rw [← hck] at HCl HTk
            clear hck HTl HTe
            by_cases c0 : ck = 0
            · subst c0
              go_wp2_with (go_at_call 57; refine HCl.out.mono ?_; rintro e w8 ⟨rfl, d8, k8⟩; have D8 := hid d8; have K8 := hid (HKk.out.trans k8); clear d8 k8)
              go_roundw
              case rel => exact ⟨2, by omega, by go_num, (fun j hj => by by_cases e : j = 1; (rw [e]; exact HCk.out.symm); exact HZ.out j (by omega)), D8.out, K8.out⟩
              case measure => simp [intOf]
            · have k1 : (ck != 0) = true := by rw [bne_iff_ne]; exact c0
              have k2 : (ck == 0) = false := by rw [beq_eq_false_iff_ne]; exact c0
              have HEn := hid (show svE p B = ck ∧ svP p B = sK p B 2 ∧ (if svE p B = 0 then (t, v) else (t0, v0)) = (t0, v0) from by obtain ⟨e1, e2⟩ := HTk.out c0; exact ⟨e1, e2, by rw [e1, if_neg c0]⟩)
              clear c0
              go_wp2_with (go_at_call 57; refine HCl.out.mono ?_; rintro e w8 ⟨rfl, d8, k8⟩; have D8 := hid d8; have K8 := hid (HKk.out.trans k8); clear d8 k8)
              refine bodyPost_ret (v := .int .i64 ck) (by simp [results, Tryz.results8, go_sem]) rfl ?_
              rw [HE.out.1, HE.out.2.1, HE.out.2.2, HEn.out.2.2, HEn.out.1, HEn.out.2.1]
              exact ⟨⟨rfl, D8.out.less HAq.out, K8.out.at HAA.out.1 HX5.out⟩, (KpX.old (HU4.out.trans U5.out)).trans (KpX.kp K8.out HAq.out)⟩
          | 2, _ =>
            have HCl := hid (show Calls Tryz.prog 60 #[.pointer (some ⟨b0, 0, none⟩)] wr fun e w' => e = .returned (.int .i64 (cK p B 2)) ∧ Dsk w0 w' db (sK p B 3) AQ ∧ Kp AQ wr w' from by exact (st3_any w0 wr db hb b0 _ AQ HDk.out y0 h0))
            have HTk := hid (HTl.out 2 (by omega) HZ.out)
            obtain ⟨ck, hck⟩ : ∃ ck, ck = cK p B 2 := ⟨_, rfl⟩
            have HCk := hid hck
            rw [← hck] at HCl HTk
            clear hck HTl HTe
            by_cases c0 : ck = 0
            · subst c0
              go_wp2_with (go_at_call 60; refine HCl.out.mono ?_; rintro e w8 ⟨rfl, d8, k8⟩; have D8 := hid d8; have K8 := hid (HKk.out.trans k8); clear d8 k8)
              go_roundw
              case rel => exact ⟨3, by omega, by go_num, (fun j hj => by by_cases e : j = 2; (rw [e]; exact HCk.out.symm); exact HZ.out j (by omega)), D8.out, K8.out⟩
              case measure => simp [intOf]
            · have k1 : (ck != 0) = true := by rw [bne_iff_ne]; exact c0
              have k2 : (ck == 0) = false := by rw [beq_eq_false_iff_ne]; exact c0
              have HEn := hid (show svE p B = ck ∧ svP p B = sK p B 3 ∧ (if svE p B = 0 then (t, v) else (t0, v0)) = (t0, v0) from by obtain ⟨e1, e2⟩ := HTk.out c0; exact ⟨e1, e2, by rw [e1, if_neg c0]⟩)
              clear c0
              go_wp2_with (go_at_call 60; refine HCl.out.mono ?_; rintro e w8 ⟨rfl, d8, k8⟩; have D8 := hid d8; have K8 := hid (HKk.out.trans k8); clear d8 k8)
              refine bodyPost_ret (v := .int .i64 ck) (by simp [results, Tryz.results8, go_sem]) rfl ?_
              rw [HE.out.1, HE.out.2.1, HE.out.2.2, HEn.out.2.2, HEn.out.1, HEn.out.2.1]
              exact ⟨⟨rfl, D8.out.less HAq.out, K8.out.at HAA.out.1 HX5.out⟩, (KpX.old (HU4.out.trans U5.out)).trans (KpX.kp K8.out HAq.out)⟩
          | 3, _ =>
            have HCl := hid (show Calls Tryz.prog 62 #[.pointer (some ⟨b0, 0, none⟩)] wr fun e w' => e = .returned (.int .i64 (cK p B 3)) ∧ Dsk w0 w' db (sK p B 4) AQ ∧ Kp AQ wr w' from by exact (st4_any w0 wr db hb b0 _ AQ HDk.out y0 h0))
            have HTk := hid (HTl.out 3 (by omega) HZ.out)
            obtain ⟨ck, hck⟩ : ∃ ck, ck = cK p B 3 := ⟨_, rfl⟩
            have HCk := hid hck
            rw [← hck] at HCl HTk
            clear hck HTl HTe
            by_cases c0 : ck = 0
            · subst c0
              go_wp2_with (go_at_call 62; refine HCl.out.mono ?_; rintro e w8 ⟨rfl, d8, k8⟩; have D8 := hid d8; have K8 := hid (HKk.out.trans k8); clear d8 k8)
              go_roundw
              case rel => exact ⟨4, by omega, by go_num, (fun j hj => by by_cases e : j = 3; (rw [e]; exact HCk.out.symm); exact HZ.out j (by omega)), D8.out, K8.out⟩
              case measure => simp [intOf]
            · have k1 : (ck != 0) = true := by rw [bne_iff_ne]; exact c0
              have k2 : (ck == 0) = false := by rw [beq_eq_false_iff_ne]; exact c0
              have HEn := hid (show svE p B = ck ∧ svP p B = sK p B 4 ∧ (if svE p B = 0 then (t, v) else (t0, v0)) = (t0, v0) from by obtain ⟨e1, e2⟩ := HTk.out c0; exact ⟨e1, e2, by rw [e1, if_neg c0]⟩)
              clear c0
              go_wp2_with (go_at_call 62; refine HCl.out.mono ?_; rintro e w8 ⟨rfl, d8, k8⟩; have D8 := hid d8; have K8 := hid (HKk.out.trans k8); clear d8 k8)
              refine bodyPost_ret (v := .int .i64 ck) (by simp [results, Tryz.results8, go_sem]) rfl ?_
              rw [HE.out.1, HE.out.2.1, HE.out.2.2, HEn.out.2.2, HEn.out.1, HEn.out.2.1]
              exact ⟨⟨rfl, D8.out.less HAq.out, K8.out.at HAA.out.1 HX5.out⟩, (KpX.old (HU4.out.trans U5.out)).trans (KpX.kp K8.out HAq.out)⟩
          | 4, _ =>
            have HEn := hid (show svE p B = 0 ∧ svP p B = sK p B 4 from HTe.out HZ.out)
            have HEv := hid (show (if svE p B = 0 then (t, v) else (t0, v0)) = (t, v) from by rw [HEn.out.1, if_pos rfl])
            obtain ⟨g0, g1, -, -⟩ := box2 YG.out
            have HXs := hid (show ((wr.setCell ⟨hb, 1, none⟩ (.int .i64 t)).setCell ⟨hb, 2, none⟩ (.int .i64 v)).heap[hb]? = some (.cells #[.pointer (some ⟨db, 0, none⟩), .int .i64 t, .int .i64 v] 65 (0, 0)) from Go.Joins.block_setCell (Go.Joins.block_setCell YX.out _ (i := 1)) _ (i := 2))
            have HDs := hid (show Dsk w0 ((wr.setCell ⟨hb, 1, none⟩ (.int .i64 t)).setCell ⟨hb, 2, none⟩ (.int .i64 v)) db (sK p B 4) AQ from HDk.out.wr ((Chg.set (S := [hb]) wr ⟨hb, 1, none⟩ _ (by simp)).trans (Chg.set (S := [hb]) _ ⟨hb, 2, none⟩ _ (by simp))) (fun g hg => by simp at hg; rw [hg]; exact ⟨HAA.out.1, HLow.out⟩))
            clear HTl HTe
            go_wp2
            refine bodyPost_ret (v := .int .i64 0) (by simp [results, Tryz.results8, go_sem]) rfl ?_
            rw [HE.out.1, HE.out.2.1, HE.out.2.2, HEv.out, HEn.out.1, HEn.out.2]
            exact ⟨⟨rfl, HDs.out.less HAq.out, HXs.out⟩, (KpX.old (HU4.out.trans U5.out)).trans ((KpX.kp HKk.out HAq.out).trans (KpX.chg ((Chg.set (S := [hb]) wr ⟨hb, 1, none⟩ _ (by simp)).trans (Chg.set (S := [hb]) _ ⟨hb, 2, none⟩ _ (by simp)))))⟩
set_option maxHeartbeats 1000000 in
set_option maxRecDepth 20000 in
theorem save_any (w0 W : World) (db hb : Nat) (p : PD) (A : List Nat) (t v t0 v0 : Int) (h : Dsk w0 W db p A) (hA : hb ∈ A) (hx : W.heap[hb]? = some (.cells #[.pointer (some ⟨db, 0, none⟩), .int .i64 t0, .int .i64 v0] 65 (0, 0))) (hlow : w0.heap.size ≤ hb) (ht : Pk.Tab w0) (r1 : -9223372036854775808 ≤ t ∧ t ≤ 9223372036854775807) (r2 : -9223372036854775808 ≤ v ∧ v ≤ 9223372036854775807) : Calls Tryz.prog 8 #[.pointer (some ⟨hb, 0, none⟩), .int .i64 t, .int .i64 v] W (SvPost w0 db hb A (saveC p t v t0 v0) (saveP p t v t0 v0) (saveV p t v t0 v0)) :=
  (save_anyK w0 W db hb p A t v t0 v0 h hA hx hlow ht r1 r2).mono fun _ _ q => q.1
end Go.Proofs.YtfphopleniidfaaGreatDoor
