/- Two of sess' tables beside each other that answer the same; no condition. -/
import Derived.Test.YtefffjlcfghniaaS5
namespace Go.Proofs.Ytefffjlcfghniaa
open Go.RowKit Go.Lib
set_option linter.unusedVariables false
set_option linter.unusedSimpArgs false
set_option maxRecDepth 20000
theorem VOk.none : VOk (fun _ => []) := fun k x hx => by cases hx
theorem VOk.put {ks : List Int} {L : Int → List It} {s : Int} {x : It} (h : VOk L) (hc : putC ks L s x = 0) : VOk (putL L s (nextS x (L s))) := by
  obtain ⟨_, h1, h2⟩ := putC_zero hc
  intro k y hy
  unfold putL at hy
  by_cases e : k = s
  · rw [if_pos e] at hy
    unfold nextS at hy
    rcases ins_mem.1 (keep_mem.1 hy).1 with rfl | q
    · exact ⟨h1, h2⟩
    · exact h s y q
  · rw [if_neg e] at hy
    exact h k y hy
/-- What a Put makes of the sessions, and of what is kept. -/
def pk (ks : List Int) (L : Int → List It) (s : Int) (x : It) : List Int := if putC ks L s x = 0 then putK ks s else ks
def pl (ks : List Int) (L : Int → List It) (s : Int) (x : It) : Int → List It := if putC ks L s x = 0 then putL L s (nextS x (L s)) else L
theorem VOk.pl {ks : List Int} {L : Int → List It} {s : Int} {x : It} (h : VOk L) : VOk (pl ks L s x) := by
  unfold Go.Proofs.Ytefffjlcfghniaa.pl
  split
  · rename_i q; exact h.put q
  · exact h
theorem lookC_perm {ks ks' : List Int} (hp : ks'.Perm ks) (L : Int → List It) (s q : Int) : lookC ks' L s q = lookC ks L s q := by
  unfold lookC
  rw [hp.length_eq, show decide (s ∈ ks') = decide (s ∈ ks) from by rw [decide_eq_decide]; exact hp.mem_iff]
theorem putC_perm {ks ks' : List Int} (hp : ks'.Perm ks) (L : Int → List It) (s : Int) (x : It) : putC ks' L s x = putC ks L s x := by
  unfold putC
  rw [lookC_perm hp]
theorem pl_perm {ks ks' : List Int} (hp : ks'.Perm ks) (L : Int → List It) (s : Int) (x : It) : pl ks' L s x = pl ks L s x := by
  unfold pl
  rw [putC_perm hp]
theorem pk_perm {ks ks' : List Int} (hp : ks'.Perm ks) (L : Int → List It) (s : Int) (x : It) : (pk ks' L s x).Perm (pk ks L s x) := by
  unfold pk
  rw [putC_perm hp]
  split
  · unfold putK
    by_cases e : s ∈ ks
    · rw [if_pos e, if_pos (hp.mem_iff.2 e)]; exact hp
    · rw [if_neg e, if_neg (fun q => e (hp.mem_iff.1 q))]; exact hp.append_right _
  · exact hp
structure Two (w0 w : World) (tb ub : Nat) (Bs Bu : List Nat) (ks ks' : List Int) (L : Int → List It) : Prop where
  t : Tab w0 w tb Bs ks L
  u : Tab w0 w ub Bu ks' L
  perm : ks'.Perm ks
  vo : VOk L
  ap : ∀ b ∈ Bu, b ∉ Bs
theorem Two.up {w0 w w' : World} {tb ub : Nat} {Bs Bu : List Nat} {ks ks' : List Int} {L : Int → List It} (h : Two w0 w tb ub Bs Bu ks ks' L) (u : Old w w') : Two w0 w' tb ub Bs Bu ks ks' L := ⟨h.t.up u, h.u.up u, h.perm, h.vo, h.ap⟩
theorem Tab.beside {w0 w w' : World} {tb : Nat} {Bs S : List Nat} {ks : List Int} {L : Int → List It} (h : Tab w0 w tb Bs ks L) (o : Old w0 w') (c : Chg S w w') (hn : ∀ b ∈ Bs, b ∉ S) : Tab w0 w' tb Bs ks L :=
  ⟨o, h.tab.chg c hn, h.ok, h.new, fun b hb => Nat.lt_of_lt_of_le (h.lt b hb) c.size⟩
/-- Behind the first one's Put. -/
theorem Two.one {w0 w w' : World} {tb ub : Nat} {Bs Bs' Bu : List Nat} {ks ks' ks2 : List Int} {L L2 : Int → List It} (h : Two w0 w tb ub Bs Bu ks ks' L) (t : Tab w0 w' tb Bs' ks2 L2) (c : Chg Bs w w') (a : ∀ m, Apart w m Bs → Apart w' m Bs') : Tab w0 w' ub Bu ks' L ∧ ∀ b ∈ Bu, b ∉ Bs' :=
  ⟨h.u.beside t.old c h.ap, fun b hb => (a b ⟨h.u.lt b hb, h.ap b hb⟩).2⟩
theorem Two.two {w0 w w' w2 : World} {tb ub : Nat} {Bs Bs' Bu Bu' : List Nat} {ks ks' : List Int} {L : Int → List It} {s : Int} {x : It} (h : Two w0 w tb ub Bs Bu ks ks' L) (t : Tab w0 w' tb Bs' (pk ks L s x) (pl ks L s x)) (u : Tab w0 w' ub Bu ks' L) (ap : ∀ b ∈ Bu, b ∉ Bs') (u2 : Tab w0 w2 ub Bu' (pk ks' L s x) (pl ks' L s x)) (c : Chg Bu w' w2) (a : ∀ m, Apart w' m Bu → Apart w2 m Bu') : Two w0 w2 tb ub Bs' Bu' (pk ks L s x) (pk ks' L s x) (pl ks L s x) :=
  ⟨t.beside u2.old c (fun b hb q => ap b q hb), by rw [← pl_perm h.perm]; exact u2, pk_perm h.perm L s x, h.vo.pl, fun b hb q => (a b ⟨t.lt b q, fun e => ap b e q⟩).2 hb⟩
theorem sort_one {A B ks ks' : List Int} (h1 : A.Perm ks) (h2 : B.Perm ks') (hp : ks'.Perm ks) (s1 : A.Pairwise (· ≤ ·)) (s2 : B.Pairwise (· ≤ ·)) : A = B := by
  have hAB : A.Perm B := h1.trans (hp.symm.trans h2.symm)
  exact List.Perm.eq_of_pairwise (fun a b _ _ h1 h2 => Int.le_antisymm h1 h2) s1 s2 hAB
theorem strict_of {A ks : List Int} (h : A.Perm ks) (hn : ks.Nodup) (s : A.Pairwise (· ≤ ·)) : A.Pairwise (· < ·) := by
  have hd : A.Pairwise (· ≠ ·) := (h.nodup_iff.2 hn)
  exact (s.and hd).imp (fun ⟨a, b⟩ => by omega)
theorem kp_of {ks : List Int} {L : Int → List It} (h : TOk ks L) (hv : VOk L) (z : Int) (hz : z ∈ ks) : Kp (L z) := ⟨h.some z hz, h.rise z, h.seq z, h.win z, h.len z, hv z⟩
set_option maxHeartbeats 400000 in
set_option maxRecDepth 20000 in
theorem putU_any (w0 : World) (tb : Nat) (Bs : List Nat) (ks : List Int) (L : Int → List It) (s : Int) (x : It) (w : World) (h : Tab w0 w tb Bs ks L) (hs : N64 s) (hq : N64 x.n) : Calls Try.prog 8 #[.pointer (some ⟨tb, 0, none⟩), .int .i64 s, .int .i64 x.n, .agg #[.int .i64 x.c, .int .i64 x.m]] w fun e w' => e = .returned (.int .i64 (putC ks L s x)) ∧ ∃ Bs', Tab w0 w' tb Bs' (pk ks L s x) (pl ks L s x) ∧ Chg Bs w w' ∧ ∀ m, Apart w m Bs → Apart w' m Bs' := by
  refine (putT_any w0 tb Bs ks L s x w h hs hq).mono ?_
  rintro e w' ⟨h1, h2⟩
  refine ⟨h1, ?_⟩
  unfold pk pl
  rcases h2 with ⟨q, u⟩ | ⟨q, Bs', t, c, a⟩
  · rw [if_neg q, if_neg q]
    exact ⟨Bs, h.up u, Chg.ofOld u, fun m hm => hm.up u⟩
  · rw [if_pos q, if_pos q]
    exact ⟨Bs', t, c, a⟩
end Go.Proofs.Ytefffjlcfghniaa
