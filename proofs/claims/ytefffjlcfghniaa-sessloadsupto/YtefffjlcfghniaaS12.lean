/- The document's bytes of a number behind bytes; what its Kept tells of a table. -/
import Derived.Test.YtefffjlcfghniaaS11
import Derived.Test.YtefffjlcfghniaaPkF
namespace Go.Proofs.Ytefffjlcfghniaa
open Go.RowKit Go.Lib
set_option linter.unusedVariables false
set_option linter.unusedSimpArgs false
set_option maxRecDepth 20000
theorem rise_same : ∀ (A B : List It), A.Pairwise (fun a b => a.n < b.n) → B.Pairwise (fun a b => a.n < b.n) → (∀ x, x ∈ A ↔ x ∈ B) → A = B
  | [], [], _, _, _ => rfl
  | [], b :: B, _, _, h => by have := (h b).2 (by simp); simp at this
  | a :: A, [], _, _, h => by have := (h a).1 (by simp); simp at this
  | a :: A, b :: B, ha, hb, h => by
    have ha' := List.pairwise_cons.1 ha
    have hb' := List.pairwise_cons.1 hb
    have e : a = b := by
      have h1 := (h a).1 (by simp)
      have h2 := (h b).2 (by simp)
      rw [List.mem_cons] at h1 h2
      rcases h1 with h1 | h1
      · exact h1
      · rcases h2 with h2 | h2
        · exact h2.symm
        · have := ha'.1 b h2
          have := hb'.1 a h1
          omega
    subst e
    rw [rise_same A B ha'.2 hb'.2 (fun x => ⟨fun hx => by
      have h1 := (h x).1 (List.mem_cons_of_mem _ hx)
      rw [List.mem_cons] at h1
      rcases h1 with h1 | h1
      · have := ha'.1 x hx; rw [h1] at this; omega
      · exact h1, fun hx => by
      have h1 := (h x).2 (List.mem_cons_of_mem _ hx)
      rw [List.mem_cons] at h1
      rcases h1 with h1 | h1
      · have := hb'.1 x hx; rw [h1] at this; omega
      · exact h1⟩)]
theorem rise_uni : ∀ {A : List It} {x y : It}, A.Pairwise (fun a b => a.n < b.n) → x ∈ A → y ∈ A → x.n = y.n → x = y
  | a :: A, x, y, h, hx, hy, e => by
    have h' := List.pairwise_cons.1 h
    rw [List.mem_cons] at hx hy
    rcases hx with hx | hx <;> rcases hy with hy | hy
    · rw [hx, hy]
    · have := h'.1 y hy; rw [hx] at e; omega
    · have := h'.1 x hx; rw [hy] at e; omega
    · exact rise_uni h'.2 hx hy e
/-- What the document keeps of a session is what the table keeps. -/
theorem Rel.kept {T O : List Opv} {ks : List Int} {L : Int → List It} {id : Int} (h : Rel T ks L) (hk : TOk ks L) (hO : KeptR id T O) : O.map (·.x) = L id ∧ ∀ o ∈ O, o.s = id := by
  have hs : ∀ o ∈ O, o.s = id := fun o ho => by
    obtain ⟨i, _, _, e⟩ := hO.of o ho
    exact e
  refine ⟨rise_same _ _ (List.pairwise_map.2 hO.rise) (hk.rise id) (fun x => ⟨fun hx => ?_, fun hx => ?_⟩), hs⟩
  · obtain ⟨o, ho, rfl⟩ := List.mem_map.1 hx
    obtain ⟨i, hi, e, es⟩ := hO.of o ho
    have := (h.of o (e ▸ opA_mem T i hi)).1
    rw [es] at this
    exact this
  · obtain ⟨i, hi, e⟩ := mem_opA (h.all id x hx)
    obtain ⟨o, ho, en⟩ := hO.all i hi (by rw [e])
    rw [e] at en
    obtain ⟨j, hj, ej, es⟩ := hO.of o ho
    have hm := (h.of o (ej ▸ opA_mem T j hj)).1
    rw [es] at hm
    refine List.mem_map.2 ⟨o, ho, ?_⟩
    exact rise_uni (hk.rise id) hm hx en
theorem OwnL.lt' {base : Nat} {w : World} {v : Value} {L : List Nat} (h : Pk.OwnL base w v L) (k : Nat) (e : v.ownBlock = some k) : base ≤ k ∧ k < w.heap.size := World.ownsRow.lt h.own k e
theorem OwnL.slice' {base : Nat} {w : World} {v : Value} {L : List Nat} (h : Pk.OwnL base w v L) : ∃ a c, v = .slice a L.length c := by
  rcases h.own.2 with ⟨e, hn⟩ | ⟨g, cap, cur, e, _⟩
  · exact ⟨none, 0, by rw [e, hn]⟩
  · exact ⟨_, _, e⟩
theorem joinL {base b2 : Nat} {w : World} {v u : Value} {A B : List Nat} (ho : Pk.OwnL base w v A) (hn : Pk.OwnL b2 w u B) (hb : base ≤ w.heap.size) (hv : ∀ k, v.ownBlock = some k → k < b2) (hl : A.length + B.length ≤ 1000000) :
    Calls Try.prog 57 #[v, u] w fun e w' => ∃ v', e = .returned v' ∧ Pk.OwnL base w' v' (A ++ B) ∧ w.grownBy w' v.ownBlock := by
  refine (Pk.join_any base v u A.length B.length (Pk.gd A) (Pk.gd B) (by omega) w ho hb hn.row ?_).mono ?_
  · by_cases h0 : B.length = 0
    · exact .inl h0
    · right
      intro e
      cases hk : u.ownBlock with
      | none =>
        rcases hn.own.2 with ⟨_, q⟩ | ⟨g, cap, cur, q, _⟩
        · exact h0 q
        · rw [q] at hk; simp [Value.ownBlock] at hk
      | some k =>
        rw [hk] at e
        have h1 := hv k e.symm
        have h2 := (OwnL.lt' hn k hk).1
        omega
  · rintro e w' ⟨v', rfl, o, g⟩
    exact ⟨v', rfl, Pk.OwnL.app o, g.by_⟩
theorem refNum_old (z : Int) (h1 : -9223372036854775808 ≤ z) (h2 : z ≤ 9223372036854775807) (w : World) : Calls Try.prog 39 #[.int .i64 z] w fun e w' => ∃ v', e = .returned v' ∧ Pk.OwnL w.heap.size w' v' (Pk.numL z) ∧ Old w w' := Pk.refNum_any z h1 h2 w
set_option maxHeartbeats 2000000 in
set_option maxRecDepth 20000 in
theorem rnum_any (v : Value) (A : List Nat) (z : Int) (w0 w : World) (hz : -9223372036854775808 ≤ z ∧ z ≤ 9223372036854775807) (hA : A.length ≤ 100000) (hu : Old w0 w) (ho : Pk.OwnL w0.heap.size w v A) :
    Calls Try.prog 40 #[v, .int .i64 z] w fun e w' => ∃ v', e = .returned v' ∧ Pk.OwnL w0.heap.size w' v' (A ++ Pk.numL z) ∧ Old w0 w' := by
  have HU0 := hid hu
  have HO0 := hid ho
  obtain ⟨pa, ca, rfl⟩ := OwnL.slice' ho
  clear hu ho
  have HN := hid (fun W => refNum_old z hz.1 hz.2 W)
  have HNl := hid (Pk.num_len z hz.1 hz.2).2
  clear hz
  go_enter Try.func40, Try.ntmps40
  go_wp2_with (first | (go_at_call 39; refine (HN.out _).mono ?_; rintro e w1 ⟨v1, rfl, o1, u1⟩; have U1 := hid u1; have O1 := hid o1; clear u1 o1) | (go_at_call 57; refine (joinL (OwnL.old' HO0.out U1.out) O1.out (by have := HU0.out.size; have := U1.out.size; omega) (fun j e => (OwnL.lt' HO0.out j e).2) (by have := HNl.out; omega)).mono ?_; rintro e w2 ⟨v2, rfl, o2, g2⟩; have O2 := hid o2; have U2 := hid (show Old w0 w2 from Below.grown (HU0.out.trans U1.out) g2 (HU0.out.trans U1.out).size (fun k e => (OwnL.lt' HO0.out k e).1)); clear o2 g2))
  go_ret
  exact ⟨_, rfl, O2.out, U2.out⟩
end Go.Proofs.Ytefffjlcfghniaa
