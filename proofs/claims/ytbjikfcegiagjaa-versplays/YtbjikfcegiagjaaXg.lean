/- vers: find, At, Put, Over at every table; conditions: the lengths fit. -/
import Derived.Test.YtbjikfcegiagjaaXf
import Derived.Test.YtbjikfcegiagjaaSc
namespace Go.Proofs.Ytbjikfcegiagjaa
open Go.RowKit Go.Lib
set_option linter.unusedVariables false
set_option linter.unusedSimpArgs false
set_option maxRecDepth 20000
/-- A table's items as they must be. -/
def Good (L : List It) : Prop := Asc L ∧ ∀ x ∈ L, Fl.W x.k ∧ Fl.nan x.k = false ∧ Fl.canon x.k = x.k ∧ 1 ≤ x.n ∧ x.n ≤ 1099511627776
theorem Good.at {L : List It} (h : Good L) (i : Nat) (hi : i < L.length) : Fl.W (atI L i).k ∧ Fl.nan (atI L i).k = false ∧ Fl.canon (atI L i).k = (atI L i).k ∧ 1 ≤ (atI L i).n ∧ (atI L i).n ≤ 1099511627776 := by
  rw [atI_get L i hi]; exact h.2 _ (List.getElem_mem hi)
/-- Is a key there? -/
def there (c : Nat) (L : List It) : Bool := decide (pos c L < L.length) && decide (kc (atI L (pos c L)) = c)
/-- What find's function reads. -/
abbrev F1 (kb tb b g n cap i key : Nat) (x : It) (w : World) : Prop := w.cell? ⟨kb, 0, none⟩ = some (.float .f64 key) ∧ w.cell? ⟨tb, 0, none⟩ = some (.pointer (some ⟨b, 0, none⟩)) ∧ w.cell? ⟨b, 1, none⟩ = some (.slice (some ⟨g, 0, none⟩) n cap) ∧ w.cell? ⟨g, i * 2, none⟩ = some (.float .f64 x.k)
theorem F1.old {kb tb b g n cap i key : Nat} {x : It} {w w' : World} (u : Old w w') (h : F1 kb tb b g n cap i key x w) : F1 kb tb b g n cap i key x w' := ⟨u.keep h.1, u.keep h.2.1, u.keep h.2.2.1, u.keep h.2.2.2⟩
theorem cmp_old (a b : Nat) (ha : Fl.W a) (hb : Fl.W b) (w : World) : Calls Try.prog 59 #[.float .f64 a, .float .f64 b] w fun e w' => e = .returned (.int .i64 (Fl.cmpc a b)) ∧ Old w w' := (cmp_any a b ha hb w).mono fun e w' h => ⟨h.1, by rw [h.2]; exact Old.refl _⟩
attribute [local go_sem] run_bits run_frombits run_store_float
set_option maxHeartbeats 1000000 in
set_option maxRecDepth 20000 in
theorem find1_any (base b kb tb : Nat) (most : Int) (v : Value) (L : List It) (key i : Nat) (hk : Fl.W key) (w : World) (h : TabAt base w b most v L) (hL : L.length ≤ 1000000) (hi : i < L.length) (hx : Fl.W (atI L i).k) (h1 : w.cell? ⟨kb, 0, none⟩ = some (.float .f64 key)) (h2 : w.cell? ⟨tb, 0, none⟩ = some (.pointer (some ⟨b, 0, none⟩))) :
    Calls Try.prog 70 #[.int .i64 (i : Nat), .pointer (some ⟨kb, 0, none⟩), .pointer (some ⟨tb, 0, none⟩)] w fun e w' => e = .returned (.int .i64 (Fl.cmpc key (atI L i).k)) ∧ Old w w' := by
  obtain ⟨hb, h0, hv, hf, ho, hne⟩ := h
  obtain ⟨g, cap, rfl, hgb, hgl, hit, hfz⟩ := ho.shape (by omega)
  obtain ⟨c0, c1⟩ := hit i hi
  have l1 : (0 : Int) ≤ (i : Int) := by omega
  have l2 : (i : Int) < ((L.length : Nat) : Int) := by omega
  have hbN : L.length ≤ 9223372036854775807 := by omega
  have HS := hid (show F1 kb tb b g L.length cap i key (atI L i) w from ⟨h1, h2, hv, c0⟩)
  clear ho hit hfz h0 hf c0 c1 h1 h2 hv
  go_enter Try.func70, Try.ntmps70
  go_upto_region 1 with fail
  go_region_held3 (F1 kb tb b g L.length cap i key (atI L i)) (first | assumption | exact HS.out | exact F1.old ((Old.refl w).drew) HS.out | (refine F1.old ?_ HS.out; assumption)) (first | (go_at_call 59; refine (cmp_old _ _ hk hx _).mono ?_; rintro e w1 ⟨rfl, u1⟩; have U1 : Old w w1 := ((Old.refl w).drew).trans u1))
  all_goals go_wp2
  all_goals go_ret
  all_goals exact ⟨rfl, U1⟩
set_option maxHeartbeats 1000000 in
set_option maxRecDepth 20000 in
theorem find_t (base b : Nat) (most : Int) (v : Value) (L : List It) (key : Nat) (hk : Fl.W key) (w : World) (h : TabAt base w b most v L) (hG : Good L) (hL : L.length ≤ 1000000) :
    Calls Try.prog 44 #[.pointer (some ⟨b, 0, none⟩), .float .f64 key] w fun e w' => e = .returned (.tuple #[.int .i64 (pos (Fl.code key) L : Nat), .bool (there (Fl.code key) L)]) ∧ Old w w' := by
  have hO : Old w ((w.alloc (.cells #[.pointer (some ⟨b, 0, none⟩)] 26)).alloc (.cells #[.float .f64 key] 23)) := ((Old.refl w).alloc _).alloc _
  have e1 : ((w.alloc (.cells #[.pointer (some ⟨b, 0, none⟩)] 26)).alloc (.cells #[.float .f64 key] 23)).cell? ⟨w.heap.size, 0, none⟩ = some (.pointer (some ⟨b, 0, none⟩)) := by simp
  have e2 : ((w.alloc (.cells #[.pointer (some ⟨b, 0, none⟩)] 26)).alloc (.cells #[.float .f64 key] 23)).cell? ⟨w.heap.size + 1, 0, none⟩ = some (.float .f64 key) := by simp
  have HO := hid hO
  have E1 := hid e1
  have E2 := hid e2
  have HT := hid (h.old hO)
  clear hO e1 e2 h
  have hN : L.length ≤ 4611686018427387903 := by omega
  go_enter Try.func44, Try.ntmps44
  go_upto_region 1 with fail
  generalize ((w.alloc (.cells #[.pointer (some ⟨b, 0, none⟩)] 26)).alloc (.cells #[.float .f64 key] 23)) = w2 at *
  have HF := hid (find_v L.length (fun i => Fl.cmpc key (atI L i).k) (pos (Fl.code key) L) (there (Fl.code key) L) (.pointer (some ⟨w.heap.size + 1, 0, none⟩)) (.pointer (some ⟨w.heap.size, 0, none⟩)) w2 hN (pos_le _ _)
    (fun i hi => by have := pos_lt _ L i hi; show (0 : Int) < Fl.cmpc key (atI L i).k; rw [Fl.cmpc_gt _ _ this]; decide)
    (fun i h1 h2 => by
      have := pos_ge _ L hG.1 i h1 h2
      have q := Fl.cmpc_cases key (atI L i).k
      show Fl.cmpc key (atI L i).k ≤ 0
      unfold kc at this
      omega)
    (by
      unfold there
      by_cases hp : pos (Fl.code key) L < L.length
      · have q := Fl.cmpc_cases key (atI L (pos (Fl.code key) L)).k
        simp only [hp, decide_true, Bool.true_and]
        unfold kc
        congr 1
        apply propext
        constructor <;> intro e <;> omega
      · simp [hp])
    (fun i hi W hW => find1_any base b (w.heap.size + 1) w.heap.size most v L key i hk W (HT.out.old hW) hL hi (hG.at i hi).1 (hW.keep E2.out) (hW.keep E1.out)))
  obtain ⟨hb, h0, hv, hf, ho, hne⟩ := HT.out
  obtain ⟨a, c, hva⟩ := ho.len
  subst hva
  have d1 := E1.out
  go_wp2_with (go_at_call 69; refine HF.out.mono ?_; rintro e w3 ⟨rfl, u3⟩; have U3 := hid u3; clear u3)
  exact bodyPost_ret (v := .tuple #[.int .i64 (pos (Fl.code key) L : Nat), .bool (there (Fl.code key) L)]) (by simp [results, Try.results44, go_sem]) rfl ⟨rfl, HO.out.trans U3.out⟩
set_option maxHeartbeats 1000000 in
set_option maxRecDepth 20000 in
theorem at_any (base b : Nat) (most : Int) (v : Value) (L : List It) (key : Nat) (hk : Fl.W key) (w : World) (h : TabAt base w b most v L) (hG : Good L) (hL : L.length ≤ 1000000) :
    Calls Try.prog 14 #[.pointer (some ⟨b, 0, none⟩), .float .f64 key] w fun e w' => e = .returned (.int .i64 (atL (Fl.code key) L)) ∧ Old w w' := by
  have HF := hid (find_t base b most v L key hk w h hG hL)
  have HA := hid (atL_pos L (Fl.code key) hG.1)
  have HT := hid h
  have hp := pos_le (Fl.code key) L
  by_cases ht : there (Fl.code key) L = true
  · have hpl : pos (Fl.code key) L < L.length := by simp [there] at ht; exact ht.1
    have hkp : kc (atI L (pos (Fl.code key) L)) = Fl.code key := by simp [there] at ht; exact ht.2
    have HA2 := hid (show atL (Fl.code key) L = (atI L (pos (Fl.code key) L)).n by rw [HA.out, if_pos ⟨hpl, hkp⟩])
    rw [ht] at HF
    clear hkp hG h HA ht
    generalize pos (Fl.code key) L = p at *
    have l1 : (0 : Int) ≤ (p : Int) := by omega
    have l2 : (p : Int) < ((L.length : Nat) : Int) := by omega
    have hbN : L.length ≤ 9223372036854775807 := by omega
    go_enter Try.func14, Try.ntmps14
    go_upto_region 3 with (go_at_call 44; refine HF.out.mono ?_; rintro e w3 ⟨rfl, u3⟩; have U3 := hid u3; clear u3)
    obtain ⟨hb, h0, hv, hf, ho, hne⟩ := HT.out.old U3.out
    obtain ⟨g, cap, rfl, hgb, hgl, hit, hfz⟩ := ho.shape (by omega)
    obtain ⟨c0, c1⟩ := hit p hpl
    clear ho hit hfz
    go_wp2
    go_ret
    exact ⟨ret_i HA2.out.symm, U3.out⟩
  · have ht2 : there (Fl.code key) L = false := by simpa using ht
    have HA2 := hid (show atL (Fl.code key) L = 0 by rw [HA.out, if_neg (fun e => ht (by simp [there, e.1, e.2]))])
    rw [ht2] at HF
    clear hG h HA ht ht2
    generalize pos (Fl.code key) L = p at *
    go_enter Try.func14, Try.ntmps14
    go_wp2_with (go_at_call 44; refine HF.out.mono ?_; rintro e w3 ⟨rfl, u3⟩; have U3 := hid u3; clear u3)
    go_ret
    exact ⟨ret_i HA2.out.symm, U3.out⟩
end Go.Proofs.Ytbjikfcegiagjaa
