/- The law DiskWrites' walk; condition: the rows' lengths have reach. -/
import Derived.Test.YtibeeamenhcngaaEbk
namespace Go.Proofs.Ytibeeamenhcngaa
open Go.RowKit Go.Lib Go.ChangeShapes Go.WideShapes
set_option linter.unusedVariables false
set_option linter.unusedSimpArgs false
set_option maxRecDepth 20000
theorem bytesU8 : Try.prog.bytesOf 5 = 1 := by kernel_rfl
theorem open_bytesB {H : Type} {enc : TypeId × Value → H} {w : World} {base : Nat} {v : Value} {d : DataW H} {ps : List MemPlace} (hv : Value.okWide Try.prog w .any base 23 v) (h : DataW.Trod enc Try.prog w 0 (fun _ => true) true 23 v d ps) (hz : ∀ k ∈ d.weights Try.prog 23, k ≤ reachBytes) : ∃ L : List Nat, Rw w v L ∧ L.length ≤ 140737488355328 := by
  obtain ⟨n, x, hb⟩ := Pk.open_bytes hv h
  obtain ⟨L, hl, hr⟩ := ByRow.rw hb
  refine ⟨L, hr, ?_⟩
  obtain ⟨a, c, e⟩ := hr.len
  subst e
  obtain ⟨fuel, hf⟩ := h
  have hfit := row_fits Try.underlying23 bytesU8 (len_row Try.underlying23 hf) hz
  simp only [reachBytes] at hfit
  omega
theorem overL_eq (W M : List Nat) (k : Nat) (h : k ≤ W.length) : overL W k M = W.take k ++ (M ++ W.drop (k + M.length)) := by
  unfold overL splice
  rw [List.take_append_of_le_length h, List.drop_append]
  congr 2
  rw [List.drop_replicate, show k + M.length - W.length - (k + M.length - W.length) = 0 by omega]
  simp
theorem overL_nil (W : List Nat) (k : Nat) (h : k ≤ W.length) : overL W k [] = W := by
  rw [overL_eq W [] k h]; simp
theorem overL_set (W b : List Nat) (k i c : Nat) (hk : k ≤ W.length) (hi : i < b.length) (hb : b.getD i 0 = c) (h : k + i < W.length) : (overL W k (b.take i)).set (k + i) c = overL W k (b.take (i + 1)) := by
  have e : b[i] = c := by rw [← hb, List.getD_eq_getElem?_getD, List.getElem?_eq_getElem hi]; rfl
  have l1 : (b.take i).length = i := by simp; omega
  have l2 : (b.take (i + 1)).length = i + 1 := by simp; omega
  rw [overL_eq W _ k hk, overL_eq W _ k hk, l1, l2, List.take_succ_eq_append_getElem hi, e, ← List.append_assoc, List.set_append_right _ _ (by simp; omega), List.length_append, l1, List.length_take, show k + i - (min k W.length + i) = 0 by omega, List.drop_eq_getElem_cons h, List.set_cons_zero]
  simp [Nat.add_assoc]
theorem overL_put (W b : List Nat) (k i c : Nat) (hk : k ≤ W.length) (hi : i < b.length) (hb : b.getD i 0 = c) (h : ¬ k + i < W.length) : overL W k (b.take i) ++ [c] = overL W k (b.take (i + 1)) := by
  have e : b[i] = c := by rw [← hb, List.getD_eq_getElem?_getD, List.getElem?_eq_getElem hi]; rfl
  have l1 : (b.take i).length = i := by simp; omega
  have l2 : (b.take (i + 1)).length = i + 1 := by simp; omega
  rw [overL_eq W _ k hk, overL_eq W _ k hk, l1, l2, List.take_succ_eq_append_getElem hi, e, List.drop_of_length_le (by omega), List.drop_of_length_le (by omega)]
  simp
theorem cat_gd (L M : List Nat) : Pk.cat L.length (gd L) (gd M) = gd (L ++ M) := by
  funext i
  unfold Pk.cat
  by_cases h : i < L.length
  · rw [if_pos h]; simp [gd, List.getElem?_append_left h]
  · rw [if_neg h]; simp [gd, List.getElem?_append_right (by omega : L.length ≤ i)]
theorem wp_appL {ops : Array Oper} {rest : List Oper} {o : Oper} {a : Act} {Q : Exit → Act → World → Prop} {w : World} (hgd : o.guard = none) (s x : Operand)
    (ho : o.op = .call { callee := .builtin .append, args := #[s, x], argTypes := #[23, 23] }) (v u : Value) (L M : List Nat)
    (hs : a.eval s = v) (hx : a.eval x = u) (hown : Own w v L) (hrow : Rw w u M) (hb : L.length + M.length ≤ 140737488355328)
    (h : ∀ v' w', Own w' v' (L ++ M) → Grow w v w' v' → wpList Try.prog ops Q rest (a.put o.dst v') w') : wpList Try.prog ops Q (o :: rest) a w := by
  refine Pk.wp_app hgd s x ho 0 v u L.length M.length (gd L) (gd M) hs hx hown hrow hb (Nat.zero_le _) (fun v' w' h1 h2 h3 => ?_)
  have o' : Own w' v' (L ++ M) := by
    unfold Own
    rw [List.length_append, ← cat_gd]
    exact h1
  refine h v' w' o' ⟨⟨h2.by_.os, h2.by_.tape, h2.by_.output, h2.by_.size, fun k hk hn => h2.by_.block k hk (fun e => hn (by rw [Option.mem_toList]; exact e.symm))⟩, fun g e => ?_⟩
  rcases h2.row with r | r
  · exact .inl (by rw [← r]; exact e)
  · exact .inr ⟨r g e, (h1.own.lt g e).2⟩
/-- A row of the law's own grows beside a disk. -/
theorem Dsk.grow {w0 W W' : World} {db : Nat} {p : PD} {v v' : Value} (h : Dsk w0 W db p v.ownBlock.toList) (hn : ∀ g, v.ownBlock = some g → w0.heap.size ≤ g) (g : Grow W v W' v') : Dsk w0 W' db p v'.ownBlock.toList ∧ ∀ g, v'.ownBlock = some g → w0.heap.size ≤ g := by
  obtain ⟨d, h1, h2, h3, h4, h5, h6⟩ := h
  have uB : ChgB (fun b => b ∈ v.ownBlock.toList) W W' := ChgB.of g.1 (fun b e => e)
  refine ⟨⟨d, h1, h2, h3.chg uB (fun b hb e => (h6 b e).1 hb), h4, uB.old h5 (fun b e => hn b (Option.mem_toList.1 e)), fun b hb => ?_⟩, fun b e => ?_⟩
  · rw [Option.mem_toList] at hb
    rcases g.2 b hb with z | z
    · have q := h6 b (by rw [Option.mem_toList]; exact z)
      exact ⟨q.1, by have := g.1.size; omega⟩
    · exact ⟨fun e => by have := h3.lt b e; omega, z.2⟩
  · rcases g.2 b e with z | z
    · exact hn b z
    · have := h5.size; omega
def qn (s : ByteArray) (L : List Nat) : PD := ⟨[(s, ⟨L, []⟩)], false, 0⟩
def sX : ByteArray := ⟨#[120]⟩
def sY : ByteArray := ⟨#[121]⟩
theorem misX : [sX].any misN = false := by kernel_rfl
theorem misY : [sY].any misN = false := by kernel_rfl
theorem misXY : [sX, sY].any misN = false := by kernel_rfl
theorem neXY : sX ≠ sY := by decide
theorem qn_down (s : ByteArray) (L : List Nat) : (qn s L).stepd = qn s L := rfl
theorem qn_on (s : ByteArray) (L : List Nat) (h : [s].any misN = false) : onE (qn s L) [s] = 0 := by
  unfold onE faultC
  rw [qn_down, h]
  simp [qn, getP]
theorem qn_at (s : ByteArray) (L : List Nat) : fileAt (qn s L) s = ⟨L, []⟩ := by simp [fileAt, qn, getP]
theorem q_create : createC pd0 sX = 0 ∧ createP pd0 sX = qn sX [] := ⟨by kernel_rfl, by kernel_rfl⟩
theorem q_write (L M : List Nat) (k : Nat) (hk : k ≤ L.length) (hM : k + M.length ≤ 65536) : writeC (qn sX L) sX (k : Int) M = 0 ∧ writeP (qn sX L) sX (k : Int) M = qn sX (overL L k M) := by
  have c : writeC (qn sX L) sX (k : Int) M = 0 := by
    unfold writeC
    rw [qn_on sX L misX, if_pos rfl, qn_at, if_neg (by simp [beyB]; omega), if_neg (by omega)]
  refine ⟨c, ?_⟩
  unfold writeP
  rw [if_pos c, qn_at, qn_down]
  simp [qn, setP]
theorem q_read (s : ByteArray) (L : List Nat) (h : [s].any misN = false) : readC (qn s L) s = 0 ∧ readL (qn s L) s = L := by
  have c : readC (qn s L) s = 0 := by
    unfold readC faultC
    rw [h]
    simp [qn, getP]
  refine ⟨c, ?_⟩
  unfold readL
  rw [if_pos c, qn_at]
theorem q_cut (L : List Nat) (k : Nat) (hk : k ≤ L.length) : cutC (qn sX L) sX (k : Int) = 0 ∧ cutP (qn sX L) sX (k : Int) = qn sX (L.take k) := by
  have c : cutC (qn sX L) sX (k : Int) = 0 := by
    unfold cutC
    rw [qn_on sX L misX, if_pos rfl, qn_at, if_neg (by simp [beyB]; omega)]
  refine ⟨c, ?_⟩
  unfold cutP
  rw [if_pos c, qn_at, qn_down]
  simp [qn, setP]
theorem q_rename (L : List Nat) : renameC (qn sX L) sX sY = 0 ∧ renameP (qn sX L) sX sY = qn sY L := by
  have c : renameC (qn sX L) sX sY = 0 := by
    unfold renameC onE faultC
    rw [qn_down, misXY]
    simp [qn, getP]
  refine ⟨c, ?_⟩
  unfold renameP
  rw [if_pos c, qn_at, qn_down]
  simp [qn, putP, delP]
theorem q_readX (L : List Nat) : readC (qn sY L) sX = 4 := by
  unfold readC faultC
  rw [misX]
  simp [qn, getP, neXY.symm]
theorem q_beyond (L M : List Nat) : writeC (qn sY L) sY ((L.length : Int) + 1) M = 1 := by
  unfold writeC
  rw [qn_on sY L misY, if_pos rfl, qn_at, if_pos (by simp [beyB]; omega)]
theorem sameL (v u : Value) (L : List Nat) (w : World) (h1 : Rw w v L) (h2 : Rw w u L) : Calls Try.prog 13 #[v, u] w fun e w' => e = .returned (.bool true) ∧ Old w w' :=
  (Pk.sameBytes_eq v u L.length (gd L) (gd L) w h1 h2 (fun _ _ => rfl)).mono fun e w' h => ⟨h.1, by obtain ⟨m, q⟩ := h.2; rw [q]; exact (Old.refl w).drewN m⟩
theorem Rw.one (w : World) (c g : Nat) (hc : c < 256) (hg : w.heap.size = g) : Rw (w.alloc (.cells #[.int .u8 (c : Int)] 5)) (.slice (some ⟨g, 0, none⟩) 1 1) [c] := by
  subst hg
  have h := own_of (L := [c]) (cap := 1) (alloc_at w (.cells #[.int .u8 (c : Int)] 5)) (by simp) (by unfold maxLen; omega) (by simp) (by simp [bv]) (fun x hx => by simp at hx; omega)
  exact h.row
theorem over_max (W b : List Nat) (k i : Nat) (hi : i ≤ b.length) : (overL W k (b.take i)).length = max W.length (k + i) := by
  rw [overL_len, List.length_take, show min i b.length = i by omega]

end Go.Proofs.Ytibeeamenhcngaa
