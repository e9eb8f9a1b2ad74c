/- sess: Put, Kept, Highest at every table; conditions: the table lies in memory as it is made. -/
import Derived.Test.YtefffjlcfghniaaZp
namespace Go.Proofs.Ytefffjlcfghniaa
open Go.RowKit Go.Lib Go.Maps Go.MapKept
set_option linter.unusedVariables false
set_option linter.unusedSimpArgs false
set_option maxRecDepth 20000
theorem ent_del (args : Array Value) (w : World) : (callFunc 28 args).run Try.prog w = .ok (.enter 28 args) w := by kernel_rfl
/-- A call of a Go function of two arguments, as one step of a region that draws. -/
theorem stepCall2 {P : Program} {ops : Array Oper} {o : Oper} {a : Act} {w : World} {K : Act → World → Prop} {Q : Exit → Act → World → Prop} {E : Prop} (hg : o.guard = none) (F : FuncId) (x y : Operand) (ts : Array TypeId)
    (hop : o.op = Op.call { callee := Callee.value (Operand.func F), args := #[x, y], argTypes := ts }) (u v : Value) (hx : a.eval x = u) (hy : a.eval y = v) (hF : a.eval (Operand.func F) = .func (.func F) #[] #[])
    (henter : (callFunc F #[u, v]).run P w = .ok (.enter F #[u, v]) w)
    (hc : Calls P F #[u, v] w fun e w' => ∃ r, e = .returned r ∧ K (a.put o.dst r) w') :
    if Region.wanted o (yielded ops a.tmps) = true then Oper.wp P o a w K Q else E := by
  have hw : Region.wanted o (yielded ops a.tmps) = true := by simp [Region.wanted, hg]
  rw [if_pos hw]
  unfold Oper.wp
  simp [execOp, hop, resolve, invoke, hx, hy, hF, Deferred.ofValue]
  rw [henter]
  refine hc.mono ?_
  rintro e w' ⟨r, rfl, hk⟩
  exact hk
/-- m[k] = v, as one step of a region that draws. -/
theorem stepMapPut {ops : Array Oper} {o : Oper} {a : Act} {w : World} {K : Act → World → Prop} {Q : Exit → Act → World → Prop} {E : Prop} (hg : o.guard = none) (x y z : Operand) (hop : o.op = Op.mapUpdate 58 x y z) (b : Nat) (k : Int) (v : Value)
    (hx : a.eval x = .map (some b)) (hy : a.eval y = .int .i64 k) (hz : a.eval z = v) (w' : World) (hr : (Instr.mapUpdate 58 (.map (some b)) (.int .i64 k) v).run Try.prog w = .ok () w') (hK : K (a.put o.dst undef) w') :
    if Region.wanted o (yielded ops a.tmps) = true then Oper.wp Try.prog o a w K Q else E := by
  have hw : Region.wanted o (yielded ops a.tmps) = true := by simp [Region.wanted, hg]
  rw [if_pos hw]
  unfold Oper.wp execOp
  simp only [hop, hx, hy, hz, Sem.run_bind, Sem.run_pure, Result.andThen_ok, hr]
  exact hK
/-- What is kept behind a number that was put. -/
def insS (x : It) (L : List It) : List It := L.take (posS x.n L) ++ x :: L.drop (posS x.n L)
def nextS (x : It) (L : List It) : List It := keepL (hiL (insS x L) - 8) (insS x L)
def putK (ks : List Int) (s : Int) : List Int := if s ∈ ks then ks else ks ++ [s]
def putL (L : Int → List It) (s : Int) (R : List It) : Int → List It := fun k => if k = s then R else L k
theorem mput_keys : ∀ (M : List (Int × Value)) (k : Int) (v : Value), (mput k v M).map (·.1) = putK (M.map (·.1)) k
  | [], k, v => by simp [mput, putK]
  | p :: t, k, v => by
    unfold mput
    by_cases q : p.1 = k
    · rw [if_pos q]
      unfold putK
      rw [if_pos (by rw [List.map_cons, q]; exact List.mem_cons_self ..)]
      simp [q]
    · rw [if_neg q, List.map_cons, mput_keys t k v]
      unfold putK
      by_cases r : k ∈ t.map (·.1)
      · rw [if_pos r, if_pos (by rw [List.map_cons]; exact List.mem_cons_of_mem _ r), List.map_cons]
      · rw [if_neg r, if_neg (by rw [List.map_cons]; intro e; rcases List.mem_cons.1 e with z | z; exact q z.symm; exact r z), List.map_cons, List.cons_append]
theorem mput_mem : ∀ {M : List (Int × Value)} {k : Int} {v : Value} {p : Int × Value}, (M.map (·.1)).Nodup → p ∈ mput k v M → p = (k, v) ∨ (p ∈ M ∧ p.1 ≠ k)
  | [], k, v, p, _, h => by simp [mput] at h; exact Or.inl h
  | a :: t, k, v, p, hn, h => by
    rw [List.map_cons, List.nodup_cons] at hn
    unfold mput at h
    split at h
    · rename_i q
      rcases List.mem_cons.1 h with z | z
      · exact Or.inl z
      · exact Or.inr ⟨List.mem_cons_of_mem _ z, fun e => hn.1 (by rw [q, ← e]; exact List.mem_map.2 ⟨p, z, rfl⟩)⟩
    · rename_i q
      rcases List.mem_cons.1 h with z | z
      · exact Or.inr ⟨by rw [z]; exact List.mem_cons_self .., by rw [z]; exact q⟩
      · rcases mput_mem hn.2 z with y | y
        · exact Or.inl y
        · exact Or.inr ⟨List.mem_cons_of_mem _ y.1, y.2⟩
/-- What Put leaves behind where it puts. -/
def PutPost (w : World) (tb : Nat) (Bs : List Nat) (ks : List Int) (L : Int → List It) (w' : World) : Prop := ∃ Bs', TabIs w' tb Bs' ks L ∧ Chg Bs w w' ∧ ∀ b ∈ Bs', b ∈ Bs ∨ (w.heap.size ≤ b ∧ b < w'.heap.size)
theorem put_mem {w w6 w7 w9 w10 w11 : World} {tb mb : Nat} {Bs : List Nat} {ks : List Int} {L : Int → List It} {M : List (Int × Value)} {s : Int} {R : List It} {v v1 v2 : Value}
    (h1 : tb ∈ Bs) (h2 : mb ∈ Bs) (h3 : tb ≠ mb) (h4 : w.cell? ⟨tb, 0, none⟩ = some (.map (some mb))) (h5 : MapIs w mb M) (h6 : M.map (·.1) = ks)
    (h7 : ∀ p ∈ M, Own 0 w p.2 (L p.1) ∧ ∀ g, p.2.ownBlock = some g → g ∈ Bs ∧ g ≠ tb ∧ g ≠ mb) (h8 : ∀ p ∈ M, ∀ q ∈ M, p.1 ≠ q.1 → ∀ g, p.2.ownBlock = some g → q.2.ownBlock ≠ some g) (h9 : ∀ k, k ∉ ks → L k = [])
    (hv : v = (mget s M).getD (.slice none 0 0)) (u6 : Old w w6) (c7 : Chg v.ownBlock.toList w6 w7) (n7 : ∀ g, v1.ownBlock = some g → v.ownBlock = some g ∨ w6.heap.size ≤ g) (u9 : Old w7 w9)
    (o10 : Own 0 w10 v2 R) (c10 : Chg v1.ownBlock.toList w9 w10) (n10 : ∀ g, v2.ownBlock = some g → v1.ownBlock = some g) (m11 : MapIs w10 mb M → MapIs w11 mb (mput s v2 M)) (c11 : Chg [mb] w10 w11) :
    PutPost w tb Bs (putK ks s) (putL L s R) w11 := by
  have hvM : ∀ g, v.ownBlock = some g → ∃ p ∈ M, p.1 = s ∧ p.2 = v := fun g hg => by
    cases e : mget s M with
    | none => rw [hv, e] at hg; cases hg
    | some u => exact ⟨(s, u), mget_mem e, rfl, by rw [hv, e]; rfl⟩
  have hvB : ∀ g, v.ownBlock = some g → g ∈ Bs ∧ g ≠ tb ∧ g ≠ mb := fun g hg => by
    obtain ⟨p, hp, e1, e2⟩ := hvM g hg
    exact (h7 p hp).2 g (by rw [e2]; exact hg)
  have lt : ∀ g, g ∈ Bs → True := fun _ _ => trivial
  have tlt : tb < w.heap.size := World.block_lt_of_cell? w _ h4
  have mlt : mb < w.heap.size := h5.lt
  have vS : ∀ g, g ∈ v.ownBlock.toList → v.ownBlock = some g := fun g h => by simpa [Option.mem_toList] using h
  have v1S : ∀ g, g ∈ v1.ownBlock.toList → v1.ownBlock = some g := fun g h => by simpa [Option.mem_toList] using h
  have far : ∀ b, b < w.heap.size → (∀ g, v.ownBlock = some g → g ≠ b) → b ∉ v.ownBlock.toList ∧ b ∉ v1.ownBlock.toList := fun b hb hn => by
    refine ⟨fun h => hn b (vS b h) rfl, fun h => ?_⟩
    rcases n7 b (v1S b h) with q | q
    · exact hn b q rfl
    · have := u6.size; omega
  have whole : Chg Bs w w10 := by
    have a1 : Chg Bs w w6 := Chg.ofOld u6
    have a2 : Chg Bs w6 w7 := c7.mono (fun k hk _ => (hvB k (vS k hk)).1)
    have a3 : Chg Bs w w7 := a1.trans a2
    have a4 : Chg Bs w w9 := a3.trans (Chg.ofOld u9)
    refine ⟨c10.os.trans a4.os, c10.tape.trans a4.tape, c10.output.trans a4.output, Nat.le_trans a4.size c10.size, fun k hk hn => ?_⟩
    rw [c10.block k (by have := a4.size; omega) (fun h => by
      rcases n7 k (v1S k h) with q | q
      · exact hn (hvB k q).1
      · have := u6.size; omega)]
    exact a4.block k hk hn
  have cell10 : ∀ b, b < w.heap.size → (∀ g, v.ownBlock = some g → g ≠ b) → w10.heap[b]? = w.heap[b]? := fun b hb hn => by
    obtain ⟨f1, f2⟩ := far b hb hn
    have l6 : b < w6.heap.size := by have := u6.size; omega
    have l7 : b < w7.heap.size := by have := c7.size; omega
    have l9 : b < w9.heap.size := by have := Below.size u9; omega
    rw [c10.block b l9 f2, Below.block u9 b l7, c7.block b l6 f1, Below.block u6 b hb]
  have t10 : w10.cell? ⟨tb, 0, none⟩ = some (.map (some mb)) := by
    rw [World.cell?_of_block (w := w) (cell10 tb tlt (fun g hg => (hvB g hg).2.1))]; exact h4
  have m10 : MapIs w10 mb M := by
    obtain ⟨es, clock, q1, q2⟩ := h5
    exact ⟨es, clock, by rw [cell10 mb mlt (fun g hg => (hvB g hg).2.2)]; exact q1, q2⟩
  have hn := h5.nod
  have v2B : ∀ g, v2.ownBlock = some g → v.ownBlock = some g ∨ w.heap.size ≤ g := fun g hg => by
    rcases n7 g (n10 g hg) with q | q
    · exact Or.inl q
    · have := u6.size; exact Or.inr (by omega)
  have v2ne : ∀ g, v2.ownBlock = some g → g ≠ tb ∧ g ≠ mb := fun g hg => by
    rcases v2B g hg with q | q
    · exact (hvB g q).2
    · omega
  refine ⟨Bs ++ v2.ownBlock.toList, ⟨mb, mput s v2 M, List.mem_append_left _ h1, List.mem_append_left _ h2, h3, c11.cell t10 (by simpa using h3), m11 m10, by rw [mput_keys, h6], ?_, ?_, ?_⟩, whole.trans (c11.mono (fun k hk _ => by simp at hk; rw [hk]; exact h2)), ?_⟩
  · intro p hp
    rcases mput_mem hn hp with rfl | ⟨hm, hne⟩
    · refine ⟨?_, fun g hg => ⟨List.mem_append_right _ (by simpa [Option.mem_toList] using hg), v2ne g hg⟩⟩
      show Own 0 w11 v2 (putL L s R s)
      unfold putL
      rw [if_pos rfl]
      exact o10.chg c11 (fun g hg h => (v2ne g hg).2 (by simpa using h))
    · obtain ⟨a1, a2⟩ := h7 p hm
      refine ⟨?_, fun g hg => ⟨List.mem_append_left _ (a2 g hg).1, (a2 g hg).2⟩⟩
      unfold putL
      rw [if_neg hne]
      have vne : ∀ g, p.2.ownBlock = some g → ∀ g', v.ownBlock = some g' → g' ≠ g := fun g hg g' hg' e => by
        obtain ⟨p', hp', e1, e2⟩ := hvM g' hg'
        exact h8 p' hp' p hm (by rw [e1]; exact fun z => hne z.symm) g' (by rw [e2]; exact hg') (by rw [e]; exact hg)
      have b1 : Own 0 w10 p.2 (L p.1) := by
        refine ⟨a1.1, ?_⟩
        rcases a1.2 with e | ⟨g, cap, cur, e, hb', hg, r⟩
        · exact .inl e
        · exact .inr ⟨g, cap, cur, e, hb', by rw [cell10 g (heap_lt hg) (vne g (by rw [e]; rfl))]; exact hg, r⟩
      exact b1.chg c11 (fun g hg h => (a2 g hg).2.2 (by simpa using h))
  · intro p hp q hq hne g hg
    rcases mput_mem hn hp with rfl | ⟨hm, hpn⟩
    · rcases mput_mem hn hq with rfl | ⟨hm', hqn⟩
      · exact absurd rfl hne
      · intro hg'
        rcases v2B g hg with r | r
        · obtain ⟨p', hp', e1, e2⟩ := hvM g r
          exact h8 p' hp' q hm' (by rw [e1]; exact hne) g (by rw [e2]; exact r) hg'
        · have := ((h7 q hm').1.lt g hg').2; omega
    · rcases mput_mem hn hq with rfl | ⟨hm', hqn⟩
      · intro hg'
        rcases v2B g hg' with r | r
        · obtain ⟨p', hp', e1, e2⟩ := hvM g r
          exact h8 p hm p' hp' (by rw [e1]; exact hne) g hg (by rw [e2]; exact r)
        · have := ((h7 p hm).1.lt g hg).2; omega
      · exact h8 p hm q hm' hne g hg
  · intro k hk
    unfold putK at hk
    unfold putL
    by_cases e : k = s
    · exfalso
      subst e
      apply hk
      split
      · assumption
      · simp
    · rw [if_neg e]
      refine h9 k (fun h => hk ?_)
      split
      · exact h
      · exact List.mem_append_left _ h
  · intro b hb
    rcases List.mem_append.1 hb with q | q
    · exact Or.inl q
    · rcases v2B b (by simpa [Option.mem_toList] using q) with r | r
      · exact Or.inl (hvB b r).1
      · exact Or.inr ⟨r, by have := (o10.lt b (by simpa [Option.mem_toList] using q)).2; have := c11.size; omega⟩
set_option maxHeartbeats 1000000 in
set_option maxRecDepth 20000 in
theorem clone_any (base : Nat) (v : Value) (L : List It) (w : World) (hL : L.length ≤ 1000000) (hown : Own base w v L) :
    Calls Try.prog 42 #[v] w fun e w' => ∃ v', e = .returned v' ∧ Own w.heap.size w' v' L ∧ Old w w' := by
  rcases hown.2 with ⟨rfl, hn⟩ | ⟨g, cap, cur, rfl, hb, hg, hnc, hcm, hcs, htk⟩
  · obtain rfl : L = [] := List.length_eq_zero_iff.1 hn
    have hq := fun w => Go.Lib.run_eql_slice_nil (P := Try.prog) w 61 71 none 0 0 0 0 Try.underlying61
    go_enter Try.func42, Try.ntmps42
    go_wp2
    go_ret
    exact ⟨_, rfl, Own.nil _ _, Old.refl _⟩
  · have hr : RowIs w g L.length cap cur L := ⟨hg, rfl, hnc, hcm, hcs, htk⟩
    have HC := hid hr.cells.1
    have HL := hid (itcs_len L)
    have hq := fun w => Go.Lib.run_eql_slice_nil (P := Try.prog) w 61 71 (some ⟨g, 0, none⟩) L.length cap 0 0 Try.underlying61
    obtain ⟨i0, hi, hz0, hz1, hz2⟩ := info_parts infoIt
    have HI := hid (And.intro hi (And.intro hz0 (And.intro hz1 hz2)))
    have hE : Own w.heap.size (w.alloc (.cells #[] 71)) (.slice (some ⟨w.heap.size, 0, none⟩) 0 0) [] := World.ownsRow_made w #[] 0 (Nat.le_refl _) (by unfold maxLen; omega) rfl
    have HEE := hid hE
    clear hr hown hg hcs htk hcm hi hz0 hz1 hz2 hE
    go_enter Try.func42, Try.ntmps42
    go_wp2_with (at_builtin; refine wpList_append_own _ rfl (.tmp 5) (.tmp 6) 61 rfl w.heap.size 71 i0 _ 3 24 Try.underlying61 HI.out.1 HI.out.2.1 HI.out.2.2.1 HI.out.2.2.2 rfl (by decide) _ 0 [] rfl HEE.out ⟨g, 0, none⟩ L.length cap (itcs L) rfl HL.out (fun j u hj => by rw [Addr.add_lit, Nat.zero_add]; exact ((Old.refl w).alloc _).keep (HC.out j u hj)) (itcs_one L) (by unfold maxLen; omega) (by omega) (by simp) ?_; intro v' w' h1 h2 h3; have H1 := hid h1; have H2 := hid (Old.below ((Old.refl w).alloc (.cells #[] 71)) (Below.grown (Below.refl _ _) h2 (by simp) (fun k hk => by cases hk; exact Nat.le_refl _))); clear h1 h2 h3)
    go_ret
    refine ⟨_, rfl, ?_, H2.out⟩
    have q := H1.out
    rw [Nat.zero_add, List.nil_append] at q
    exact q
set_option maxHeartbeats 1000000 in
set_option maxRecDepth 20000 in
theorem high_any (tb : Nat) (Bs : List Nat) (ks : List Int) (L : Int → List It) (s : Int) (w : World) (h : TabIs w tb Bs ks L) (hok : TOk ks L) (hs : N64 s) :
    Calls Try.prog 17 #[.pointer (some ⟨tb, 0, none⟩), .int .i64 s] w fun e w' => e = .returned (.int .i64 (hiL (L s))) ∧ Old w w' := by
  obtain ⟨mb, M, h1, h2, h3, h4, h5, h6, h7, h8, h9⟩ := h
  obtain ⟨hR, hI⟩ := row_at h6 (fun p hp => (h7 p hp).1) h9 s
  have hlk := h5.look false hs
  simp only [Bool.false_eq_true, if_false] at hlk
  have hll := hok.len s
  have HH := hid (highest_any 0 _ (L s) w (by omega) hR)
  generalize (mget s M).getD (.slice none 0 0) = v at *
  generalize hiL (L s) = r at *
  clear h5 h6 h7 h8 h9 hR hI hok hll
  go_enter Try.func17, Try.ntmps17
  go_wp2_with (go_at_call 27; refine HH.out.mono ?_; rintro e w5 ⟨rfl, u5⟩; have U5 := hid u5; clear u5)
  go_ret
  exact ⟨rfl, U5.out⟩
set_option maxHeartbeats 1000000 in
set_option maxRecDepth 20000 in
theorem kept_any (tb : Nat) (Bs : List Nat) (ks : List Int) (L : Int → List It) (s : Int) (w : World) (h : TabIs w tb Bs ks L) (hok : TOk ks L) (hs : N64 s) :
    Calls Try.prog 21 #[.pointer (some ⟨tb, 0, none⟩), .int .i64 s] w fun e w' => ∃ v', e = .returned v' ∧ Own w.heap.size w' v' (L s) ∧ Old w w' := by
  obtain ⟨mb, M, h1, h2, h3, h4, h5, h6, h7, h8, h9⟩ := h
  obtain ⟨hR, hI⟩ := row_at h6 (fun p hp => (h7 p hp).1) h9 s
  have hlk := h5.look false hs
  simp only [Bool.false_eq_true, if_false] at hlk
  have hll := hok.len s
  have HH := hid (clone_any 0 _ (L s) w (by omega) hR)
  generalize (mget s M).getD (.slice none 0 0) = v at *
  generalize L s = R at *
  clear h5 h6 h7 h8 h9 hR hI hok hll
  go_enter Try.func21, Try.ntmps21
  go_wp2_with (go_at_call 42; refine HH.out.mono ?_; rintro e w5 ⟨v5, rfl, o5, u5⟩; have U5 := hid u5; have O5 := hid o5; clear u5 o5)
  go_ret
  exact ⟨_, rfl, O5.out, U5.out⟩
/-- What Put answers. -/
def putC (ks : List Int) (L : Int → List It) (s : Int) (x : It) : Int := if lookC ks L s x.n = 0 then (if (outB x.c 0 999 || outB x.m 0 1099511627776) = true then 1 else 0) else lookC ks L s x.n
theorem ins_len (x : It) (L : List It) : (insS x L).length = L.length + 1 := by unfold insS; have := posS_le x.n L; simp; omega
theorem hi_ins {x : It} {L : List It} (h1 : 1 ≤ x.n ∧ x.n ≤ 1099511627776) (h2 : ∀ y ∈ L, 1 ≤ y.n ∧ y.n ≤ 1099511627776) : 1 ≤ hiL (insS x L) ∧ hiL (insS x L) ≤ 1099511627776 := by
  obtain ⟨y, hy, e⟩ := hiL_mem (L := insS x L) (fun e => by have := ins_len x L; rw [e] at this; simp at this)
  rw [e]
  unfold insS at hy
  rcases List.mem_append.1 hy with q | q
  · exact h2 y (List.mem_of_mem_take q)
  · rcases List.mem_cons.1 q with r | r
    · rw [r]; exact h1
    · exact h2 y (List.mem_of_mem_drop r)
theorem lookC_zero {ks : List Int} {L : Int → List It} {s q : Int} (h : lookC ks L s q = 0) : foundB q (L s) = false ∧ (1 ≤ s ∧ s ≤ 1099511627776) ∧ (1 ≤ q ∧ q ≤ 1099511627776) ∧ (s ∈ ks ∨ ks.length < 16) ∧ hiL (L s) - 8 < q := by
  unfold lookC at h
  split at h
  · cases h
  · rename_i a; split at h
    · cases h
    · rename_i b; split at h
      · cases h
      · rename_i c; split at h
        · cases h
        · rename_i d
          unfold outB at b
          simp at a b c
          refine ⟨a, by omega, by omega, ?_, by omega⟩
          by_cases e : s ∈ ks
          · exact Or.inl e
          · exact Or.inr (by have := c e; omega)
set_option maxHeartbeats 8000000 in
set_option maxRecDepth 20000 in
theorem put_any (tb : Nat) (Bs : List Nat) (ks : List Int) (L : Int → List It) (s : Int) (x : It) (w : World) (h : TabIs w tb Bs ks L) (hok : TOk ks L) (hs : N64 s) (hq : N64 x.n) : Calls Try.prog 8 #[.pointer (some ⟨tb, 0, none⟩), .int .i64 s, .int .i64 x.n, .agg #[.int .i64 x.c, .int .i64 x.m]] w fun e w' => e = .returned (.int .i64 (putC ks L s x)) ∧ ((putC ks L s x ≠ 0 ∧ Old w w') ∨ (putC ks L s x = 0 ∧ PutPost w tb Bs (putK ks s) (putL L s (nextS x (L s))) w')) := by
  have HPc : Hid (putC ks L s x = if lookC ks L s x.n = 0 then (if (outB x.c 0 999 || outB x.m 0 1099511627776) = true then 1 else 0) else lookC ks L s x.n) := hid rfl
  have HLo := hid (fun (W : World) (u : Old w W) => look_any tb Bs ks L s x.n W (h.old u) hok hs hq)
  have HOc := hid (fun W => outside_any x.c 0 999 W)
  have HOm := hid (fun W => outside_any x.m 0 1099511627776 W)
  have HT := hid h
  have HOk := hid hok
  have HL0 : Hid (lookC ks L s x.n = 0 → _) := hid (fun e => lookC_zero e)
  generalize putC ks L s x = pc at *
  generalize lookV L s x.n = lv at *
  generalize lookC ks L s x.n = lc at *
  clear h hok
  go_enter Try.func8, Try.ntmps8
  go_upto_region 1 with fail
  generalize hw1 : w.alloc (.cells #[.int .i64 x.c, .int .i64 x.m] 28) = w1 at *
  obtain ⟨hv1, hf1, hu1⟩ := verd_new w x.c x.m w1 hw1 _ rfl
  obtain ⟨vb, hvb⟩ : ∃ vb, w.heap.size = vb := ⟨_, rfl⟩
  rw [hvb] at hv1 hf1 ⊢
  clear hvb hf1 hw1
  have HV1 := hid hv1
  have U1 := hid hu1
  clear hv1 hu1
  by_cases hlc : lc = 0
  · subst hlc
    rw [if_pos rfl] at HPc
    obtain ⟨hfo, hsr, hqr, hkr, hwi⟩ := HL0.out rfl
    go_upto_region 2 with (first | (go_at_call 11; refine (HLo.out _ U1.out).mono ?_; rintro e w2 ⟨rfl, u2⟩; have V2 := hid u2; have U2 := hid (U1.out.trans u2); clear u2))
    clear HLo HL0
    generalize hw3 : w2.alloc (.cells #[.int .i64 lv.1, .int .i64 lv.2] 28) = w3 at *
    have V3 := hid (show Old w1 w3 from by rw [← hw3]; exact V2.out.alloc _)
    have U3 := hid (U1.out.trans V3.out)
    clear hw3 V2 U2
    generalize w2.heap.size = bb at *
    obtain ⟨y0, y1⟩ : w3.cell? ⟨vb, 0, none⟩ = some (.int .i64 x.c) ∧ w3.cell? ⟨vb, 1, none⟩ = some (.int .i64 x.m) := ⟨V3.out.keep HV1.out.1, V3.out.keep HV1.out.2⟩
    generalize hoc : outB x.c 0 999 = oc at *
    generalize hom : outB x.m 0 1099511627776 = om at *
    have HOx := hid (And.intro hoc hom)
    clear hoc hom
    cases oc
    · cases om
      · simp only [Bool.or_false, Bool.false_eq_true, if_false] at HPc
        go_upto_region 6 with (first | (go_at_call_of 24 (Value.int .i64 999); refine (HOc.out _).mono ?_; rintro e w4 ⟨rfl, u4⟩; have V4 := hid (V3.out.trans u4); have U4 := hid (U3.out.trans u4); clear u4 y0 y1; obtain ⟨y0, y1⟩ : w4.cell? ⟨vb, 0, none⟩ = some (.int .i64 x.c) ∧ w4.cell? ⟨vb, 1, none⟩ = some (.int .i64 x.m) := ⟨V4.out.keep HV1.out.1, V4.out.keep HV1.out.2⟩) | (go_at_call_of 24 (Value.int .i64 1099511627776); refine (HOm.out _).mono ?_; rintro e w5 ⟨rfl, u5⟩; have V5 := hid (V4.out.trans u5); have U5 := hid (U4.out.trans u5); clear u5 y0 y1; obtain ⟨y0, y1⟩ : w5.cell? ⟨vb, 0, none⟩ = some (.int .i64 x.c) ∧ w5.cell? ⟨vb, 1, none⟩ = some (.int .i64 x.m) := ⟨V5.out.keep HV1.out.1, V5.out.keep HV1.out.2⟩))
        clear HOc HOm V3 U3 V4 U4
        have HT5 := hid (HT.out.old U5.out)
        obtain ⟨mb, M, h1, h2, h3, h4, h5, h6, h7, h8, h9⟩ := HT5.out
        obtain ⟨hR, hI⟩ := row_at h6 (fun p hp => (h7 p hp).1) h9 s
        have hlk := h5.look false hs
        simp only [Bool.false_eq_true, if_false] at hlk
        have t0 := h4
        have HMem := hid (fun (w6 w7 w9 w10 w11 : World) (v1 v2 : Value) (R : List It) (v : Value) (hv : v = (mget s M).getD (.slice none 0 0)) a b c d e f g i j => put_mem (w := w5) (w6 := w6) (w7 := w7) (w9 := w9) (w10 := w10) (w11 := w11) (v := v) (v1 := v1) (v2 := v2) (R := R) (s := s) h1 h2 h3 h4 h5 h6 h7 h8 h9 hv a b c d e f g i j)
        have HPut := hid (fun (W : World) (hm : MapIs W mb M) (v : Value) => hm.put hs v)
        have HM5 := hid h5
        have HT4 := hid h4
        have HvB := hid (show ∀ g, ((mget s M).getD (.slice none 0 0)).ownBlock = some g → g ≠ tb ∧ g ≠ mb ∧ g < w5.heap.size from fun g hg => by
          cases e : mget s M with
          | none => rw [e] at hg; cases hg
          | some u =>
            rw [e] at hg
            exact ⟨((h7 _ (mget_mem e)).2 g hg).2.1, ((h7 _ (mget_mem e)).2 g hg).2.2, ((h7 _ (mget_mem e)).1.lt g hg).2⟩)
        have hll := HOk.out.len s
        have hri := HOk.out.rise s
        have hsq := HOk.out.seq s
        have HFi := hid (fun (W : World) (u : Old w5 W) => find_any 0 _ (L s) x.n W (by omega) hri (hR.old u))
        have hpl := posS_le x.n (L s)
        have HIn := hid (fun (W : World) (u : Old w5 W) (bx : Nat) (hb : W.heap[bx]? = some (.cells (itc x).toArray 71 (0, 0))) (hn : ((mget s M).getD (.slice none 0 0)).ownBlock ≠ some bx) => insert_any 0 _ (L s) (posS x.n (L s)) x bx W (by omega) hpl (hR.old u) hb hn (Nat.zero_le _))
        have hil := ins_len x (L s)
        have hhi := hi_ins hqr hsq
        have HHi := hid (fun (W : World) (v1 : Value) (ho : Own 0 W v1 (insS x (L s))) => highest_any 0 v1 (insS x (L s)) W (by omega) ho)
        have HDe := hid (fun (W : World) (v1 : Value) (lb : Nat) (ho : Own 0 W v1 (insS x (L s))) (hc : W.cell? ⟨lb, 0, none⟩ = some (.int .i64 (hiL (insS x (L s)) - 8))) (hn : v1.ownBlock ≠ some lb) => delete_any 0 v1 (insS x (L s)) (hiL (insS x (L s)) - 8) lb W (by omega) ho hc hn)
        have HNx : Hid (nextS x (L s) = keepL (hiL (insS x (L s)) - 8) (insS x (L s))) := hid rfl
        have HIs : Hid (insS x (L s) = (L s).take (posS x.n (L s)) ++ x :: (L s).drop (posS x.n (L s))) := hid rfl
        rw [← HIs.out] at HIn
        obtain ⟨NX, hNX⟩ : ∃ N, nextS x (L s) = N := ⟨_, rfl⟩
        rw [hNX] at HNx
        have HNX := hid hNX
        clear hNX
        generalize insS x (L s) = IS at *
        generalize posS x.n (L s) = pp at *
        generalize foundB x.n (L s) = fo at *
        generalize hiL IS = hi at *
        have lw : IntKind.i64.wrap (hi - 8) = hi - 8 := IntWalk.i64_in _ (by omega)
        have HVeq := hid (show (mget s M).getD (.slice none 0 0) = (mget s M).getD (.slice none 0 0) from rfl)
        generalize hvv : (mget s M).getD (.slice none 0 0) = v at *
        have HVV := hid hvv.symm
        clear HVeq hvv
        clear h1 h2 h3 h4 h5 h6 h7 h8 h9 hR hI hri hsq HT5 HOk HIs hpl hil hll
        go_upto_region 8 with (go_at_call 25; refine (HFi.out _ (Old.refl _)).mono ?_; rintro e w6 ⟨rfl, u6⟩; have V6 := hid u6; have U6 := hid (V5.out.trans u6); clear u6 y0 y1; obtain ⟨y0, y1⟩ : w6.cell? ⟨vb, 0, none⟩ = some (.int .i64 x.c) ∧ w6.cell? ⟨vb, 1, none⟩ = some (.int .i64 x.m) := ⟨U6.out.keep HV1.out.1, U6.out.keep HV1.out.2⟩)
        clear hlk t0 HFi
        go_upto_region 9 with (go_at_call 26; refine (HIn.out _ (V6.out.alloc _) w6.heap.size (alloc_heap w6 _ _ rfl) (fun e => by have := (HvB.out _ e).2.2; have := V6.out.size; omega)).mono ?_; rintro e w7 ⟨v1, rfl, o7, c7, n7⟩; have O7 := hid o7; have C7 := hid c7; have N7 := hid n7; obtain ⟨a1, k1, e1⟩ := o7.len; have HE1 := hid e1; clear o7 c7 n7 e1)
        clear HIn
        go_upto_region 10 with (go_at_call 27; refine (HHi.out _ _ O7.out).mono ?_; rintro e w8 ⟨rfl, u8⟩; have V8 := hid u8; clear u8)
        clear HHi
        generalize hw9 : w8.alloc (.cells #[.int .i64 (hi - 8)] 2) = w9 at *
        obtain ⟨hl9, hu9, hz9⟩ : w9.cell? ⟨w8.heap.size, 0, none⟩ = some (.int .i64 (hi - 8)) ∧ Old w7 w9 ∧ w7.heap.size ≤ w8.heap.size := by subst hw9; exact ⟨by simp, V8.out.alloc _, V8.out.size⟩
        clear hw9
        generalize w8.heap.size = lb at *
        have HD9 := hid (HDe.out w9.drew v1 lb (O7.out.old hu9.drew) ((Old.refl w9).drew.keep hl9) (fun e => by have := (O7.out.lt _ e).2; omega))
        have HU9 := hid hu9
        clear hl9 hu9 HDe V8
        have V1far := hid (show ∀ b, (∀ g, v.ownBlock = some g → g ≠ b) → b < w5.heap.size → b ∉ v1.ownBlock.toList from fun b hb hl h => by
          have e : v1.ownBlock = some b := by simpa [Option.mem_toList] using h
          rcases N7.out b e with r | r
          · exact hb b r rfl
          · have := (V6.out.alloc (.cells (itc x).toArray 71)).size; omega)
        have T9 := hid (show w9.heap[tb]? = w5.heap[tb]? ∧ w9.heap[mb]? = w5.heap[mb]? ∧ tb < w9.heap.size ∧ mb < w9.heap.size from by
          have tl : tb < w5.heap.size := World.block_lt_of_cell? w5 _ HT4.out
          have ml := HM5.out.lt
          have f : ∀ b, b < w5.heap.size → (∀ g, v.ownBlock = some g → g ≠ b) → w9.heap[b]? = w5.heap[b]? ∧ b < w9.heap.size := fun b hb hn => by
            have l6 : b < (w6.alloc (.cells (itc x).toArray 71)).heap.size := by have := (V6.out.alloc (.cells (itc x).toArray 71)).size; omega
            have l7 : b < w7.heap.size := by have := C7.out.size; omega
            refine ⟨?_, by have := HU9.out.size; omega⟩
            rw [Below.block HU9.out b l7, C7.out.block b l6 (fun h => hn b (by simpa [Option.mem_toList] using h) rfl), Below.block (V6.out.alloc (.cells (itc x).toArray 71)) b hb]
          exact ⟨(f tb tl (fun g hg => (HvB.out g hg).1)).1, (f mb ml (fun g hg => (HvB.out g hg).2.1)).1, (f tb tl (fun g hg => (HvB.out g hg).1)).2, (f mb ml (fun g hg => (HvB.out g hg).2.1)).2⟩)
        have s9 : w9.cell? ⟨tb, 0, none⟩ = some (.map (some mb)) := by rw [World.cell?_of_block (w := w5) T9.out.1]; exact HT4.out
        have HS9 := hid s9
        have M9 := hid (show MapIs w9 mb M from by obtain ⟨es, clock, q1, q2⟩ := HM5.out; exact ⟨es, clock, by rw [T9.out.2.1]; exact q1, q2⟩)
        clear s9
        have hmf : ∀ (fn : Fn) (first cap : Array Value) (w : World), (Instr.makeFunc fn first cap).run Try.prog w = .ok (.func fn first cap) w := fun _ _ _ _ => rfl
        have HTM := hid (show tb ≠ mb from fun e => by have a := HM5.out; obtain ⟨es, clock, q1, _⟩ := a; have b := HT4.out; rw [e] at b; simp [World.cell?, q1] at b)
        refine wp_region_noPanic ?_
        refine wp_region_held_drew (S := fun W => W.cell? ⟨tb, 0, none⟩ = some (.map (some mb))) (by kernel_rfl) ?_ (fun hHeld => ?_)
        · exact HS9.out
        (try simp only [Act.put]); (try simp only [List.setIfInBounds_toArray]); (try simp only [List.set_cons_succ]); (try simp only [List.set_cons_zero])
        clear hHeld
        refine wpAnyH_take (i := 0) (oi := { dst := some 55, op := Op.move (Operand.tmp 0), type := 23, pos := "sess.go:72", after := #[], guard := none }) (v := ?vk1) rfl (by kernel_rfl) (by kernel_rfl) (by kernel_rfl) (fun _ _ _ h => h) (Or.inl ⟨by rfl, ?hk1⟩) HS9.out ?rk1
        case hk1 => (intro wz hSw; (try dsimp only at hSw); go_simp; try with_reducible rfl)
        (try simp only [Act.put]); (try simp only [List.setIfInBounds_toArray]); (try simp only [List.set_cons_succ]); (try simp only [List.set_cons_zero])
        refine wpAnyH_take (i := 1) (oi := { dst := some 56, op := Op.nilCheck (Operand.tmp 55), type := 0, pos := "sess.go:72", after := #[{ on := 0, ground := Ground.data }], guard := none }) (v := ?vk2) rfl (by kernel_rfl) (by kernel_rfl) (by kernel_rfl) (fun _ _ _ h => h) (Or.inl ⟨by rfl, ?hk2⟩) HS9.out ?rk2
        case hk2 => (intro wz hSw; (try dsimp only at hSw); go_simp; try with_reducible rfl)
        (try simp only [Act.put]); (try simp only [List.setIfInBounds_toArray]); (try simp only [List.set_cons_succ]); (try simp only [List.set_cons_zero])
        refine wpAnyH_take (i := 2) (oi := { dst := some 57, op := Op.fieldAddr 60 (Operand.tmp 56) 0, type := 0, pos := "sess.go:72", after := #[{ on := 1, ground := Ground.data }], guard := none }) (v := ?vk3) rfl (by kernel_rfl) (by kernel_rfl) (by kernel_rfl) (fun _ _ _ h => h) (Or.inl ⟨by rfl, ?hk3⟩) HS9.out ?rk3
        case hk3 => (intro wz hSw; (try dsimp only at hSw); go_simp; try with_reducible rfl)
        (try simp only [Act.put]); (try simp only [List.setIfInBounds_toArray]); (try simp only [List.set_cons_succ]); (try simp only [List.set_cons_zero])
        refine wpAnyH_take (i := 3) (oi := { dst := some 58, op := Op.load 58 (Operand.tmp 57), type := 58, pos := "sess.go:72", after := #[{ on := 2, ground := Ground.data }], guard := none }) (v := ?vk4) rfl (by kernel_rfl) (by kernel_rfl) (by kernel_rfl) (fun _ _ _ h => h) (Or.inl ⟨by rfl, ?hk4⟩) HS9.out ?rk4
        case hk4 => (intro wz hSw; (try dsimp only at hSw); go_simp; try with_reducible rfl)
        (try simp only [Act.put]); (try simp only [List.setIfInBounds_toArray]); (try simp only [List.set_cons_succ]); (try simp only [List.set_cons_zero])
        refine wpAnyH_take (i := 4) (oi := { dst := some 59, op := Op.move (Operand.tmp 1), type := 2, pos := "sess.go:72", after := #[], guard := none }) (v := ?vk5) rfl (by kernel_rfl) (by kernel_rfl) (by kernel_rfl) (fun _ _ _ h => h) (Or.inl ⟨by rfl, ?hk5⟩) HS9.out ?rk5
        case hk5 => (intro wz hSw; (try dsimp only at hSw); go_simp; try with_reducible rfl)
        (try simp only [Act.put]); (try simp only [List.setIfInBounds_toArray]); (try simp only [List.set_cons_succ]); (try simp only [List.set_cons_zero])
        refine wpAnyH_take (i := 5) (oi := { dst := some 60, op := Op.move (Operand.tmp 11), type := 61, pos := "sess.go:72", after := #[], guard := none }) (v := ?vk6) rfl (by kernel_rfl) (by kernel_rfl) (by kernel_rfl) (fun _ _ _ h => h) (Or.inl ⟨by rfl, ?hk6⟩) HS9.out ?rk6
        case hk6 => (intro wz hSw; (try dsimp only at hSw); go_simp; try with_reducible rfl)
        (try simp only [Act.put]); (try simp only [List.setIfInBounds_toArray]); (try simp only [List.set_cons_succ]); (try simp only [List.set_cons_zero])
        refine wpAnyH_take (i := 6) (oi := { dst := some 61, op := Op.makeFunc (Fn.func 29) #[] #[Operand.tmp 14], type := 74, pos := "sess.go:72", after := #[], guard := none }) (v := ?vk7) rfl (by kernel_rfl) (by kernel_rfl) (by kernel_rfl) (fun _ _ _ h => h) (Or.inl ⟨by rfl, ?hk7⟩) HS9.out ?rk7
        case hk7 => (intro wz hSw; (try dsimp only at hSw); go_simp; try with_reducible rfl)
        (try simp only [Act.put]); (try simp only [List.setIfInBounds_toArray]); (try simp only [List.set_cons_succ]); (try simp only [List.set_cons_zero])
        refine wpAnyH_ready (rs := [7]) (by kernel_rfl) (by simp) ?_
        refine AllReadyH.cons (o := { dst := some 62, op := Op.call { callee := Callee.value (Operand.func 28), args := #[Operand.tmp 60, Operand.tmp 61], argTypes := #[61, 74] }, type := 61, pos := "sess.go:72", after := #[{ on := 5, ground := Ground.data }, { on := 6, ground := Ground.data }], guard := none }) rfl (fun K hK => ?_) AllReadyH.nil
        · skip
          refine stepCall2 ?_ 28 (.tmp 60) (.tmp 61) #[61, 74] ?_ v1 (.func (.func 29) #[] #[.pointer (some ⟨lb, 0, none⟩)]) ?_ ?_ ?_ (ent_del _ _) ?_
          · rfl
          · rfl
          · rfl
          · rfl
          · rfl
          refine (HD9.out).mono ?_
          rintro e wa ⟨v2, rfl, oa, ca, na⟩
          have S10 : wa.cell? ⟨tb, 0, none⟩ = some (.map (some mb)) := ca.cell ((Old.refl w9).drew.keep HS9.out) (V1far.out tb (fun g hg => (HvB.out g hg).1) (World.block_lt_of_cell? w5 _ HT4.out))
          have M10 : MapIs wa mb M := (M9.out.old (Old.refl w9).drew).chg ca (V1far.out mb (fun g hg => (HvB.out g hg).2.1) HM5.out.lt)
          refine ⟨_, rfl, ?_⟩
          refine hK.out _ _ S10 (fun _ => ?_)
          clear hK K
          (try simp only [Act.put]); (try simp only [List.setIfInBounds_toArray]); (try simp only [List.set_cons_succ]); (try simp only [List.set_cons_zero])
          refine wpAnyH_ready (rs := [8]) (by kernel_rfl) (by simp) ?_
          refine AllReadyH.cons (o := { dst := none, op := Op.mapUpdate 58 (Operand.tmp 58) (Operand.tmp 59) (Operand.tmp 62), type := 0, pos := "sess.go:72", after := #[{ on := 3, ground := Ground.data }, { on := 4, ground := Ground.data }, { on := 7, ground := Ground.data }, { on := 7, ground := Ground.chain }, { on := 0, ground := Ground.phase }, { on := 1, ground := Ground.phase }, { on := 2, ground := Ground.phase }, { on := 3, ground := Ground.phase }, { on := 4, ground := Ground.phase }, { on := 5, ground := Ground.phase }, { on := 6, ground := Ground.phase }, { on := 7, ground := Ground.phase }], guard := none }) rfl (fun K hK => ?_) AllReadyH.nil
          · skip
            obtain ⟨wb, rb, mb2, cb, _⟩ := HPut.out wa M10 v2
            refine stepMapPut ?_ (.tmp 58) (.tmp 59) (.tmp 62) ?_ mb s v2 ?_ ?_ ?_ wb rb ?_
            · rfl
            · rfl
            · rfl
            · rfl
            · rfl
            have S11 : wb.cell? ⟨tb, 0, none⟩ = some (.map (some mb)) := cb.cell S10 (by simp; exact HTM.out)
            refine hK.out _ _ S11 (fun _ => ?_)
            clear hK K
            (try simp only [Act.put]); (try simp only [List.setIfInBounds_toArray]); (try simp only [List.set_cons_succ]); (try simp only [List.set_cons_zero])
            refine wpAnyH_done (by kernel_rfl) ?_ _
            refine NoPanic.normal ?_
            have HF := hid (HMem.out _ _ _ wa wb v1 v2 NX v rfl (V6.out.alloc _) C7.out N7.out HU9.out.drew (by rw [HNx.out]; exact oa) ca na (fun _ => mb2) cb)
            clear oa ca na mb2 cb M10 S10 S11 rb
            go_wp2
            go_ret
            refine ⟨by rw [HPc.out]; rfl, Or.inr ⟨HPc.out, ?_⟩⟩
            rw [HNX.out]
            obtain ⟨Bs', q1, q2, q3⟩ := HF.out
            exact ⟨Bs', q1, (Chg.ofOld U5.out).trans q2, fun b hb => by rcases q3 b hb with r | r; exact Or.inl r; (have := U5.out.size; exact Or.inr ⟨by omega, r.2⟩)⟩
      · simp only [Bool.false_or, if_true] at HPc
        go_wp2_with (first | (go_at_call_of 24 (Value.int .i64 999); refine (HOc.out _).mono ?_; rintro e w4 ⟨rfl, u4⟩; have V4 := hid (V3.out.trans u4); have U4 := hid (U3.out.trans u4); clear u4 y0 y1; obtain ⟨y0, y1⟩ : w4.cell? ⟨vb, 0, none⟩ = some (.int .i64 x.c) ∧ w4.cell? ⟨vb, 1, none⟩ = some (.int .i64 x.m) := ⟨V4.out.keep HV1.out.1, V4.out.keep HV1.out.2⟩) | (go_at_call_of 24 (Value.int .i64 1099511627776); refine (HOm.out _).mono ?_; rintro e w5 ⟨rfl, u5⟩; have V5 := hid (V4.out.trans u5); have U5 := hid (U4.out.trans u5); clear u5 y0 y1; obtain ⟨y0, y1⟩ : w5.cell? ⟨vb, 0, none⟩ = some (.int .i64 x.c) ∧ w5.cell? ⟨vb, 1, none⟩ = some (.int .i64 x.m) := ⟨V5.out.keep HV1.out.1, V5.out.keep HV1.out.2⟩))
        go_ret
        exact ⟨by rw [HPc.out]; rfl, Or.inl ⟨by rw [HPc.out]; decide, U5.out⟩⟩
    · simp only [Bool.true_or, if_true] at HPc
      go_wp2_with (first | (go_at_call_of 24 (Value.int .i64 999); refine (HOc.out _).mono ?_; rintro e w4 ⟨rfl, u4⟩; have V4 := hid (V3.out.trans u4); have U4 := hid (U3.out.trans u4); clear u4 y0 y1; obtain ⟨y0, y1⟩ : w4.cell? ⟨vb, 0, none⟩ = some (.int .i64 x.c) ∧ w4.cell? ⟨vb, 1, none⟩ = some (.int .i64 x.m) := ⟨V4.out.keep HV1.out.1, V4.out.keep HV1.out.2⟩))
      go_ret
      exact ⟨by rw [HPc.out]; rfl, Or.inl ⟨by rw [HPc.out]; decide, U4.out⟩⟩
  · rw [if_neg hlc] at HPc
    have q1 : (lc == 0) = false := by rw [beq_eq_false_iff_ne]; exact hlc
    have q2 : (lc != 0) = true := by rw [bne_iff_ne]; exact hlc
    clear HL0
    go_wp2_with (first | (go_at_call 11; refine (HLo.out _ U1.out).mono ?_; rintro e w2 ⟨rfl, u2⟩; have V2 := hid u2; have U2 := hid (U1.out.trans u2); clear u2))
    go_ret
    exact ⟨by rw [HPc.out]; rfl, Or.inl ⟨by rw [HPc.out]; exact hlc, U2.out.alloc _⟩⟩
end Go.Proofs.Ytefffjlcfghniaa
