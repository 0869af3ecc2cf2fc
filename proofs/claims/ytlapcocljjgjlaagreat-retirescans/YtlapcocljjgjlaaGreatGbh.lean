/-
  Two scans, one behind the other; what stands in the midst of the law RetireTwice. Conditions: a formed plan.
-/
import Derived.Test.YtlapcocljjgjlaaGreatGbg
namespace Go.Proofs.YtlapcocljjgjlaaGreat
open Go Go.RowKit

theorem scan_twice {p : Pl} (hp : p.ok) {M : MS} {l : List Int} {T : Nat} (hT : T ≤ 1500000) (hG : Mg p M) (hL : RTs p M 0 l) (hF : FL p M [] T) (hn : l.Nodup) :
    ∃ M2 T2 s2 l1 fl1, Runs (scanT p 0 2) M s2 M2 ((l.length : Int) - (l1.length : Int)) ∧ s2 ≤ 100000 ∧ Mg p M2 ∧ RTs p M2 0 l1 ∧ FL p M2 fl1 T2 ∧ l1.length ≤ l.length ∧
      ∃ M3 T3 s3, Runs (scanT p 0 2) M2 s3 M3 0 ∧ s3 ≤ 100000 ∧ Mg p M3 ∧ RTs p M3 0 l1 ∧ FL p M3 fl1 T3 := by
  have ht := hp.2.1
  have hr : p.r ≤ 1024 := by unfold Pl.ok at hp; omega
  have hlr := hL.len
  obtain ⟨M2, T2, s2, r2, hs2, S2⟩ := scan_run (hd := hzW p M) hp (t := 0) (by omega) (by omega) (show T ≤ 2000000 by omega) hG hL hF hn (fun _ _ h => by simp at h) (fun _ _ => rfl)
  have hlen := scanP_len (hldB p (hzW p M)) l.length l [] (Nat.le_refl _)
  have hheld := scanP_held (hldB p (hzW p M)) l.length l [] (Nat.le_refl _) fun i a b => by omega
  have htt := S2.tt
  simp only [List.length_nil, Nat.add_zero] at hlen
  obtain ⟨l1, hl1⟩ : ∃ l1, (scanP (hldB p (hzW p M)) l.length l []).1 = l1 := ⟨_, rfl⟩
  obtain ⟨out, hout⟩ : ∃ out, (scanP (hldB p (hzW p M)) l.length l []).2 = out := ⟨_, rfl⟩
  rw [hl1] at r2 S2 hlen hheld
  rw [hout] at S2 hlen htt
  obtain ⟨M3, T3, s3, r3, hs3, S3⟩ := scan_run (hd := hzW p M) hp (t := 0) (by omega) (by omega) (show T2 ≤ 2000000 by omega) S2.mg S2.rt S2.fl (List.nodup_append.1 S2.nd).1 S2.nf S2.hz
  rw [scanP_all _ _ _ _ (Nat.le_refl _) hheld] at r3 S3
  rw [Int.sub_self] at r3
  exact ⟨M2, T2, s2, l1, _, r2, hs2, S2.mg, S2.rt, S2.fl, by omega, M3, T3, s3, r3, hs3, S3.mg, S3.rt, S3.fl⟩
/-- In the midst of the first loop: the law's row tells had, of which la are retired. -/
structure TwIn (p : Pl) (lo hi : Nat) (L : Lay) (base : Nat) (w : World) (M : MS) (la had xs : List Int) (T : Nat) (vh : Value) (wr : World) : Prop where
  h : HIn p lo hi L w.heap.size w M wr
  ra : RTs p M 0 la
  fl : FL p M [] T
  ih : IR base vh xs wr
  sb : ∀ n ∈ la, n ∈ had
  nd : la.Nodup
  bs : base ≤ wr.heap.size
section
variable {p : Pl} {lo hi : Nat} {L : Lay} {base : Nat} {w : World} {M M' : MS} {la had xs : List Int} {T : Nat} {vh vh' : Value} {wr wr' : World}
theorem TwIn.ext (h : TwIn p lo hi L base w M la had xs T vh wr) (hx : Ext wr wr') : TwIn p lo hi L base w M la had xs T vh wr' :=
  ⟨h.h.ext hx, h.ra, h.fl, h.ih.ext hx, h.sb, h.nd, Nat.le_trans h.bs hx.size⟩
theorem TwIn.same (hp : p.ok) (h : TwIn p lo hi L base w M la had xs T vh wr) (hm : MemIn lo hi L M' wr') (hf : Fr lo hi wr wr') (hG : Mg p M') (h1 : w.heap.size < lo) (h2 : hi ≤ base) (hs : ∀ j, M'.wd 0 j = M.wd 0 j) : TwIn p lo hi L base w M' la had xs T vh wr' :=
  ⟨h.h.ran hm hf hG (by omega) h1, h.ra.of hp (by omega) (by have := hp.2.1; omega) fun j _ _ => hs j, h.fl.same hG hs, h.ih.fr hf h2, h.sb, h.nd, Nat.le_trans h.bs hf.size⟩
theorem TwIn.put (hp : p.ok) {n : Int} (h : TwIn p lo hi L base w M la had xs T vh wr) (hm : MemIn lo hi L M' wr') (hf : Fr lo hi wr wr') (hG : Mg p M') (h1 : w.heap.size < lo) (h2 : hi ≤ base) (hR : RTs p M' 0 (la ++ [n]))
    (hs : ∀ j : Nat, ((j : Int) < p.cnt 0 ∨ p.cnt 0 + 1 + p.r ≤ j) → M'.wd 0 j = M.wd 0 j) (hna : n ∉ la) (hnh : n ∈ had) : TwIn p lo hi L base w M' (la ++ [n]) had xs T vh wr' := by
  refine ⟨h.h.ran hm hf hG (by omega) h1, hR, put_fl hp hG (by omega) (by have := hp.2.1; omega) hs h.fl, h.ih.fr hf h2, fun m hm => ?_, ?_, Nat.le_trans h.bs hf.size⟩
  · rcases List.mem_append.1 hm with hm | hm
    · exact h.sb m hm
    · simp at hm
      subst hm
      exact hnh
  · refine (List.Perm.nodup_iff (List.perm_append_comm (l₁ := la) (l₂ := [n]))).2 (List.nodup_cons.2 ⟨hna, h.nd⟩)
theorem TwIn.row (h : TwIn p lo hi L base w M la had xs T vh wr) (h2 : hi ≤ base) (h3 : w.heap.size < base) {n : Int} (hv : IR base vh' (xs ++ [n]) wr') (hg : wr.grownBy wr' vh.ownBlock) : TwIn p lo hi L base w M la (had ++ [n]) (xs ++ [n]) T vh' wr' :=
  ⟨hin_grown h.h h.ih hg (by omega) h2 h3, h.ra, h.fl, hv, fun m hm => List.mem_append_left _ (h.sb m hm), h.nd, Nat.le_trans h.bs hg.size⟩
end
end Go.Proofs.YtlapcocljjgjlaaGreat

/-
  What stands in the midst of the law RetireScans. Conditions: a formed plan.
-/
namespace Go.Proofs.YtlapcocljjgjlaaGreat
open Go Go.RowKit

theorem Bs.fr {w w' : World} {v : Value} {l : List Bool} {lo hi : Nat} (h : Bs w v l) (hf : Fr lo hi w w') (ho : ∀ g, v.ownBlock = some g → g < lo ∨ hi ≤ g) : Bs w' v l := by
  obtain ⟨a0, cap, rfl, hc, hr⟩ := h
  refine ⟨a0, cap, rfl, hc, fun hl => ?_⟩
  obtain ⟨b, off, rfl, hb, hcell⟩ := hr hl
  exact ⟨b, off, rfl, Nat.lt_of_lt_of_le hb hf.size, fun i hi => (hf.cell hb (ho b rfl)).trans (hcell i hi)⟩
theorem Bs.own_lt {w : World} {v : Value} {l : List Bool} (h : Bs w v l) (hl : 0 < l.length) {g : Nat} (hg : v.ownBlock = some g) : g < w.heap.size := by
  obtain ⟨a0, cap, rfl, _, hr⟩ := h
  obtain ⟨b, off, rfl, hb, _⟩ := hr hl
  cases hg
  exact hb
/-- A row of bools that lies outside of the memory. -/
structure BsO (lo hi : Nat) (w : World) (v : Value) (l : List Bool) : Prop where
  bs : Bs w v l
  out : 0 < l.length → ∀ g, v.ownBlock = some g → g < lo ∨ hi ≤ g
theorem BsO.ext {lo hi : Nat} {w w' : World} {v : Value} {l : List Bool} (h : BsO lo hi w v l) (hx : Ext w w') : BsO lo hi w' v l := ⟨h.bs.ext hx, h.out⟩
theorem BsO.fr {lo hi : Nat} {w w' : World} {v : Value} {l : List Bool} (h : BsO lo hi w v l) (hf : Fr lo hi w w') : BsO lo hi w' v l := by
  refine ⟨?_, h.out⟩
  obtain ⟨⟨a0, cap, rfl, hc, hr⟩, ho⟩ := h
  refine ⟨a0, cap, rfl, hc, fun hl => ?_⟩
  obtain ⟨b, off, rfl, hb, hcell⟩ := hr hl
  exact ⟨b, off, rfl, Nat.lt_of_lt_of_le hb hf.size, fun i hi => (hf.cell hb (ho hl b rfl)).trans (hcell i hi)⟩
/-- The thread t has retired la; the law's row tells xs. -/
structure SwIn (p : Pl) (t : Int) (lo hi : Nat) (L : Lay) (base : Nat) (w : World) (M : MS) (la xs : List Int) (T : Nat) (va : Value) (f : Nat → BitVec 64) (wr : World) : Prop where
  h : HIn p lo hi L w.heap.size w M wr
  ra : RTs p M t la
  fl : FL p M [] T
  ia : IR base va xs wr
  nd : la.Nodup
  bs : base ≤ wr.heap.size
  sd : ∀ n, InR p n → M.wd 0 (sdN p n) = St.word ⟨3, 2, 1⟩
  hz : ∀ i : Nat, (i : Int) < 3 * p.t → hzW p M i = f i
section
variable {p : Pl} {t : Int} {lo hi : Nat} {L : Lay} {base : Nat} {w : World} {M M' : MS} {la xs : List Int} {T : Nat} {va va' : Value} {f g : Nat → BitVec 64} {wr wr' : World}
theorem SwIn.ext (h : SwIn p t lo hi L base w M la xs T va f wr) (hx : Ext wr wr') : SwIn p t lo hi L base w M la xs T va f wr' :=
  ⟨h.h.ext hx, h.ra, h.fl, h.ia.ext hx, h.nd, Nat.le_trans h.bs hx.size, h.sd, h.hz⟩
theorem SwIn.same (hp : p.ok) (h0 : 0 ≤ t) (h3 : t < p.t) (h : SwIn p t lo hi L base w M la xs T va f wr) (hm : MemIn lo hi L M' wr') (hf : Fr lo hi wr wr') (hG : Mg p M') (h1 : w.heap.size < lo) (h2 : hi ≤ base) (hs : ∀ j, M'.wd 0 j = M.wd 0 j) : SwIn p t lo hi L base w M' la xs T va f wr' :=
  ⟨h.h.ran hm hf hG (by omega) h1, h.ra.of hp h0 h3 fun j _ _ => hs j, h.fl.same hG hs, h.ia.fr hf h2, h.nd, Nat.le_trans h.bs hf.size, fun n hn => (hs _).trans (h.sd n hn), fun i hi => (hs _).trans (h.hz i hi)⟩
theorem SwIn.put (hp : p.ok) (h0 : 0 ≤ t) (h3 : t < p.t) {n : Int} (h : SwIn p t lo hi L base w M la xs T va f wr) (hm : MemIn lo hi L M' wr') (hf : Fr lo hi wr wr') (hG : Mg p M') (h1 : w.heap.size < lo) (h2 : hi ≤ base) (hR : RTs p M' t (la ++ [n]))
    (hs : ∀ j : Nat, ((j : Int) < p.cnt t ∨ p.cnt t + 1 + p.r ≤ j) → M'.wd 0 j = M.wd 0 j) (hna : n ∉ la) : SwIn p t lo hi L base w M' (la ++ [n]) xs T va f wr' := by
  obtain ⟨q1, q2, q3, q4, q5, q6⟩ := thr_pl hp h0 h3
  refine ⟨h.h.ran hm hf hG (by omega) h1, hR, put_fl hp hG h0 h3 hs h.fl, h.ia.fr hf h2, ?_, Nat.le_trans h.bs hf.size, fun m hm => ?_, fun i hi => ?_⟩
  · exact (List.Perm.nodup_iff (List.perm_append_comm (l₁ := la) (l₂ := [n]))).2 (List.nodup_cons.2 ⟨hna, h.nd⟩)
  · obtain ⟨e1, _, _, _, _⟩ := node_pl hp hm
    have := hm.1
    exact (hs _ (.inr (by unfold sdN; omega))).trans (h.sd m hm)
  · have := hz_pl hp hi
    exact (hs _ (.inl (by omega))).trans (h.hz i hi)
theorem SwIn.row (h : SwIn p t lo hi L base w M la xs T va f wr) (h2 : hi ≤ base) (h3 : w.heap.size < base) {ys : List Int} (hv : IR base va' ys wr') (hg : wr.grownBy wr' va.ownBlock) : SwIn p t lo hi L base w M la ys T va' f wr' :=
  ⟨hin_grown h.h h.ia hg (by omega) h2 h3, h.ra, h.fl, hv, h.nd, Nat.le_trans h.bs hg.size, h.sd, h.hz⟩
theorem SwIn.set (hp : p.ok) (h0 : 0 ≤ t) (h3 : t < p.t) (h : SwIn p t lo hi L base w M la xs T va f wr) (hm : MemIn lo hi L M' wr') (hf : Fr lo hi wr wr') (hz : HzTo p M M' g) (h1 : w.heap.size < lo) (h2 : hi ≤ base) : SwIn p t lo hi L base w M' la xs T va g wr' := by
  obtain ⟨q1, q2, q3, q4, q5, q6⟩ := thr_pl hp h0 h3
  have hr : 1 ≤ p.r := by unfold Pl.ok at hp; omega
  refine ⟨h.h.ran hm hf hz.mg (by omega) h1, hz.rts hp h0 h3 h.ra, hz.fls hp h.fl, h.ia.fr hf h2, h.nd, Nat.le_trans h.bs hf.size, fun m hm => ?_, hz.hz⟩
  rw [hz.ot _ fun i hi => ?_]
  · exact h.sd m hm
  · obtain ⟨e1, _, _, _, _⟩ := node_pl hp hm
    have := hz_pl hp hi
    have := hm.1
    unfold sdN
    omega
end
/-- In the first loop. -/
def SwRel (p : Pl) (t : Int) (lo hi : Nat) (L : Lay) (base : Nat) (w : World) (T m : Nat) (va vi : Value) (wr : World) : Prop :=
  ∃ (i : Nat) (M : MS) (la : List Int), vi = .int .i64 (i : Int) ∧ i ≤ m ∧ la.length ≤ i ∧ SwIn p t lo hi L base w M la la T va (fun _ => 0#64) wr
/-- In the second. -/
def SwRel2 (p : Pl) (t : Int) (lo hi : Nat) (L : Lay) (base : Nat) (w : World) (la : List Int) (va : Value) (T m : Nat) (vh vs vi : Value) (wr : World) : Prop :=
  ∃ (n : Nat) (M : MS) (hl : List Bool) (hs : List Int), vi = .int .i64 (n : Int) ∧ n ≤ m ∧ hl.length = m ∧ vs = .int .i64 (hs.length : Int) ∧ BsO lo hi wr vh hl ∧ HdIn p M n hl hs ∧ SwIn p t lo hi L base w M la la T va (hzW p M) wr
/-- In the third. -/
def SwRel3 (W : World) (out : List Int) (vw vi : Value) (wr : World) : Prop :=
  ∃ (k : Nat), vi = .int .i64 (k : Int) ∧ k ≤ out.length ∧ IR W.heap.size vw (pushL (fun _ => false) [] (out.take k)) wr ∧ Ext W wr
theorem pushL_len (g : Int → Bool) : ∀ (out fl : List Int), (pushL g fl out).length ≤ fl.length + out.length
  | [], _ => Nat.le_refl _
  | n :: out, fl => by
    rw [pushL]
    refine Nat.le_trans (pushL_len g out _) ?_
    split <;> simp <;> omega
theorem pushF_snoc (out : List Int) (k : Nat) (h : k < out.length) : pushL (fun _ => false) [] (out.take (k + 1)) = iN out k :: pushL (fun _ => false) [] (out.take k) := by
  rw [take_snoc _ _ h, pushL_snoc]
  rfl
theorem setB_eq (l : List Bool) (n : Nat) (h : n < l.length) : l.take n ++ ([false] ++ l.drop (n + 1)) = l.set n false := by
  rw [List.set_eq_take_append_cons_drop, if_pos h]
  rfl
theorem bN_drop (l : List Bool) (n i : Nat) : bN (l.drop n) i = bN l (n + i) := by
  unfold bN
  rw [List.getD_eq_getElem?_getD, List.getD_eq_getElem?_getD, List.getElem?_drop]
theorem bN_take (l : List Bool) (n i : Nat) (h : i < n) : bN (l.take n) i = bN l i := by
  unfold bN
  rw [List.getD_eq_getElem?_getD, List.getD_eq_getElem?_getD, List.getElem?_take, if_pos h]
end Go.Proofs.YtlapcocljjgjlaaGreat
