/-
  What the calls of the reference's Fresh, Pop, Push, Same and Has come to. Conditions: those of each theorem.
-/
import Derived.Test.YtlapcocljjgjlaaGreatGbf
namespace Go.Proofs.YtlapcocljjgjlaaGreat
open Go Go.RowKit

def RetI (l : List Int) (w : World) (e : Ending) (w' : World) : Prop := ∃ v, e = .returned v ∧ IR w.heap.size v l w' ∧ Ext w w'
def FrRel (n : Int) (w : World) (vo vi : Value) (wr : World) : Prop := ∃ (k : Nat), vi = .int .i64 (k : Int) ∧ (k : Int) ≤ n ∧ IR w.heap.size vo (rfr k 0) wr ∧ Ext w wr
theorem rfr_snoc : ∀ (k : Nat) (j : Int), rfr k j ++ [j + k] = rfr (k + 1) j
  | 0, j => by simp [rfr]
  | k + 1, j => by
    have := rfr_snoc k (j + 1)
    simp only [rfr, List.cons_append] at this ⊢
    rw [show j + ((k + 1 : Nat) : Int) = j + 1 + k by omega, this]
def SameRel (n : Nat) (w : World) (vi : Value) (wr : World) : Prop := ∃ (k : Nat), vi = .int .i64 (k : Int) ∧ k ≤ n ∧ Ext w wr
set_option maxRecDepth 8000 in
set_option maxHeartbeats 1000000 in
theorem rsame_yes (l : List Int) (va vb : Value) (w : World) (hl : l.length ≤ 2000000) (ha : Is w va l) (hb : Is w vb l) : Calls Tryz.prog 20 #[va, vb] w (Ret (.bool true) w) := by
  have HA := Lib.hid ha
  have HB := Lib.hid hb
  obtain ⟨a0, ca, rfl, _, _⟩ := ha
  obtain ⟨b0, cb, rfl, _, _⟩ := hb
  go_enter Tryz.func20, Tryz.ntmps20
  go_wp2
  go_loopw [5] (fun vi wr => SameRel l.length w vi wr) (fun i _ => (l.length - intOf i).toNat)
  case atStart => exact ⟨0, rfl, Nat.zero_le _, ext_refl w⟩
  case round =>
    obtain ⟨k, rfl, hk, hX⟩ := hrel
    have HX := Lib.hid hX
    clear hX
    by_cases hlt : k < l.length
    · obtain ⟨b1, o1, rfl, hb1, hc1⟩ := (HA.out.ext HX.out).at (by omega)
      obtain ⟨b2, o2, rfl, hb2, hc2⟩ := (HB.out.ext HX.out).at (by omega)
      have d1 := hc1 k hlt
      have d2 := hc2 k hlt
      have hlt' : (k : Int) < l.length := by omega
      have e2 : wrap64 ((k : Int) + 1) = ((k + 1 : Nat) : Int) := by unfold wrap64; omega
      replace e2 := Lib.hid e2
      clear hc1 hc2
      go_wp2
      refine wp_region_over (by kernel_rfl) (by kernel_rfl) ?_
      repeat (go_big_quiet_step (fail))
      refine wpQuiet_nil ?_
      intro _ hw'
      obtain ⟨s1, hw''⟩ := hw'
      subst hw''
      have HX2 := Lib.hid (ext_over s1 HX.out)
      generalize over wr s1 = w2 at HX2 ⊢
      go_wp2
      exact ⟨⟨k + 1, by first | exact congrArg _ e2.out | rfl, by omega, HX2.out⟩, by simp [intOf]; omega⟩
    · have hn : ¬ (k : Int) < l.length := by omega
      go_wp2
      go_ret
      exact Ret.mk HX.out
theorem mem_iN {l : List Int} {n : Int} : n ∈ l ↔ ∃ i, i < l.length ∧ iN l i = n := by
  constructor
  · intro h
    obtain ⟨i, hi, e⟩ := List.getElem_of_mem h
    exact ⟨i, hi, by simp [iN, List.getD_eq_getElem?_getD, hi, e]⟩
  · rintro ⟨i, hi, e⟩
    simp [iN, List.getD_eq_getElem?_getD, hi] at e
    rw [← e]
    exact List.getElem_mem hi
def HasRel (l : List Int) (n : Int) (w : World) (vi : Value) (wr : World) : Prop := ∃ (k : Nat), vi = .int .i64 (k : Int) ∧ k ≤ l.length ∧ (∀ i, i < k → iN l i ≠ n) ∧ wr = w
set_option maxRecDepth 8000 in
set_option maxHeartbeats 1000000 in
theorem rhas_any (l : List Int) (n : Int) (va : Value) (w : World) (r : Bool) (hr : Hid (r = true ↔ n ∈ l)) (hl : l.length ≤ 2000000) (ha : Is w va l) : Calls Tryz.prog 11 #[va, .int .i64 n] w (Ret (.bool r) w) := by
  have HA := Lib.hid ha
  obtain ⟨a0, ca, rfl, _, _⟩ := ha
  go_enter Tryz.func11, Tryz.ntmps11
  go_wp2
  go_loopw [5] (fun vi wr => HasRel l n w vi wr) (fun i _ => (l.length - intOf i).toNat)
  case atStart => exact ⟨0, rfl, Nat.zero_le _, fun i h => absurd h (Nat.not_lt_zero _), rfl⟩
  case round =>
    obtain ⟨k, rfl, hk, hno, rfl⟩ := hrel
    by_cases hlt : k < l.length
    · obtain ⟨b1, o1, rfl, hb1, hc1⟩ := HA.out.at (by omega)
      have d1 := hc1 k hlt
      have hlt' : (k : Int) < l.length := by omega
      clear hc1
      by_cases he : iN l k = n
      · have hrt : r = true := hr.out.2 (mem_iN.2 ⟨k, hlt, he⟩)
        rw [he] at d1
        subst hrt
        go_wp2
        go_ret
        exact Ret.mk (ext_refl _)
      · have HNO : Hid (∀ i, i < k + 1 → iN l i ≠ n) := Lib.hid fun i hi => by
          by_cases hik : i = k
          · subst hik; exact he
          · exact hno i (by omega)
        have he2 : (iN l k == n) = false := by simpa using he
        clear hno
        go_wp2
        exact ⟨⟨k + 1, by go_num, by omega, HNO.out, rfl⟩, by simp [intOf]; omega⟩
    · have hn : ¬ (k : Int) < l.length := by omega
      have hrf : r = false := by
        cases r with
        | false => rfl
        | true =>
          obtain ⟨i, hi, e⟩ := mem_iN.1 (hr.out.1 rfl)
          exact absurd e (hno i (by omega))
      subst hrf
      clear hno
      go_wp2
      go_ret
      exact Ret.mk (ext_refl _)
theorem own_of_row {w : World} {base : Nat} {x : Int} (g : Nat) (hg : g = w.heap.size) (h : base ≤ w.heap.size) : (w.alloc (.cells #[.int .i64 x] 3)).ownsRow base 3 1 (.slice (some ⟨g, 0, none⟩) 1 1) 1 [.int .i64 x] := by
  subst hg
  exact ⟨by simp, .inr ⟨w.heap.size, 1, _, rfl, h, heap_alloc_new w _, Nat.le_refl _, by unfold maxLen; omega, rfl, rfl⟩⟩
theorem infoI : ∃ i, Tryz.prog.info? 3 = some i ∧ i.zero = some (.int .i64 0) ∧ i.size = 1 ∧ i.bytes = 8 := by
  have h := Tryz.infoI64
  cases hi : Tryz.prog.info? 3 with
  | none => rw [hi] at h; cases h
  | some i =>
    rw [hi] at h
    simp at h
    exact ⟨i, rfl, h.1, h.2.1, h.2.2⟩
theorem newsI {w : World} {ad : Addr} {n c : Nat} {l : List Int} (h : Is w (.slice (some ad) n c) l) : ∀ j u, (l.map fun x => Value.int .i64 x)[j]? = some u → w.cell? (ad.add j) = some u := by
  intro j u hj
  have hlt : j < l.length := by
    have := (List.getElem?_eq_some_iff.1 hj).1
    simpa using this
  obtain ⟨b, off, ea, _, hc⟩ := h.at (by omega)
  cases ea
  rw [add_at', hc j hlt]
  rw [List.getElem?_map, List.getElem?_eq_getElem hlt] at hj
  simp at hj
  rw [← hj]
  simp [iN, List.getD_eq_getElem?_getD, hlt]
theorem onesI (l : List Int) : ∀ u ∈ (l.map fun x => Value.int .i64 x), u.oneCell' = true := by
  intro u hu
  obtain ⟨i, _, rfl⟩ := List.mem_map.1 hu
  rfl
set_option maxRecDepth 8000 in
set_option maxHeartbeats 1000000 in
theorem rpush_any (n : Int) (l : List Int) (v : Value) (w : World) (hl : l.length ≤ 2000000) (hI : Is w v l) : Calls Tryz.prog 19 #[v, .int .i64 n] w (RetI (n :: l) w) := by
  have HI := Lib.hid hI
  obtain ⟨a0, cap, rfl, _, hr⟩ := hI
  have h0 : a0 = none → l.length = 0 := by
    intro e
    cases l with
    | nil => rfl
    | cons x l => obtain ⟨b, off, ea, _⟩ := hr (by simp); rw [e] at ea; cases ea
  have H0 := Lib.hid h0
  clear hr h0
  obtain ⟨iU, hiU, hy0, hy1, hy2⟩ := infoI
  go_enter Tryz.func19, Tryz.ntmps19
  go_wp2_with (at_builtin; refine wpList_append_opt rfl (.tmp 6) (.tmp 7) 24 rfl w.heap.size 3 iU (.int .i64 0) 1 8 Tryz.underlying24 hiU hy0 hy1 hy2 rfl (by decide) (.slice (some ⟨w.heap.size, 0, none⟩) 1 1) 1 [.int .i64 n] rfl (own_of_row _ rfl (Nat.le_refl _)) a0 l.length cap (l.map fun x => Value.int .i64 x) rfl H0.out (by simp) (fun ad ea => newsI (by rw [← ea]; exact HI.out.ext (ext_alloc _ (ext_refl w)))) (onesI l) (by unfold maxLen; omega) (by omega) (by simp) ?_; intro v2 w2 hv2 hg2; have HV := Lib.hid hv2; have HX2 := Lib.hid (ext_own (w := w) (ext_alloc _ (ext_refl w)) (own_of_row (x := n) _ rfl (Nat.le_refl _)) hg2); clear hv2 hg2)
  go_ret
  refine ⟨_, rfl, ir_of_own (l := n :: l) ?_, HX2.out⟩
  have := HV.out
  rw [Nat.add_comm] at this
  simpa using this
def RetPopR (n : Int) (l : List Int) (w : World) (e : Ending) (w' : World) : Prop := ∃ v, e = .returned (.tuple #[.int .i64 n, v]) ∧ IR w.heap.size v l w' ∧ Ext w w'
theorem is_tail {w : World} {b off cap : Nat} {n : Int} {l : List Int} (h : Is w (.slice (some ⟨b, off, none⟩) (l.length + 1) cap) (n :: l)) (off' : Nat) (ho : off' = off + 1 ∨ (cap = 1 ∧ off' = off)) : Is w (.slice (some ⟨b, off', none⟩) l.length (cap - 1)) l := by
  obtain ⟨a0, c, e, hc, hr⟩ := h
  simp at e
  obtain ⟨rfl, rfl⟩ := e
  simp only [List.length_cons] at hc hr
  obtain ⟨b', o', e', hlt, hcell⟩ := hr (by omega)
  cases e'
  refine ⟨_, _, rfl, by omega, fun hp => ⟨b, off', rfl, hlt, fun i hi => ?_⟩⟩
  rcases ho with rfl | ⟨rfl, rfl⟩
  · rw [show off + 1 + i = off + (i + 1) by omega, hcell (i + 1) (by omega)]
    simp [iN]
  · omega
end Go.Proofs.YtlapcocljjgjlaaGreat

/-
  What stands in the midst of the law RetireOthers: two threads' retired nodes, and the law's own rows of them. Conditions: a formed plan with two threads.
-/
namespace Go.Proofs.YtlapcocljjgjlaaGreat
open Go Go.RowKit

/-- Thread 0 has retired la, thread 1 lb; the rows tell xa and xb. -/
structure OtIn (p : Pl) (lo hi : Nat) (L : Lay) (base : Nat) (w : World) (M : MS) (la lb xa xb : List Int) (T : Nat) (va vb : Value) (wr : World) : Prop where
  h : HIn p lo hi L w.heap.size w M wr
  ra : RTs p M 0 la
  rb : RTs p M 1 lb
  fl : FL p M [] T
  hz : ∀ i : Nat, (i : Int) < 3 * p.t → hzW p M i = 0#64
  ia : IR base va xa wr
  ib : IR base vb xb wr
  ne : ∀ g, va.ownBlock = some g → vb.ownBlock ≠ some g
  nd : (la ++ lb).Nodup
  bs : base ≤ wr.heap.size
section
variable {p : Pl} {lo hi : Nat} {L : Lay} {base : Nat} {w : World} {M M' : MS} {la lb xa xb : List Int} {T : Nat} {va vb va' : Value} {wr wr' : World}
theorem OtIn.ext (h : OtIn p lo hi L base w M la lb xa xb T va vb wr) (hx : Ext wr wr') : OtIn p lo hi L base w M la lb xa xb T va vb wr' :=
  ⟨h.h.ext hx, h.ra, h.rb, h.fl, h.hz, h.ia.ext hx, h.ib.ext hx, h.ne, h.nd, Nat.le_trans h.bs hx.size⟩
/-- Nothing that counts has turned. -/
theorem OtIn.same (hp : p.ok) (ht : 2 ≤ p.t) (h : OtIn p lo hi L base w M la lb xa xb T va vb wr) (hm : MemIn lo hi L M' wr') (hf : Fr lo hi wr wr') (hG : Mg p M') (h1 : w.heap.size < lo) (h2 : hi ≤ base) (hs : ∀ j, M'.wd 0 j = M.wd 0 j) : OtIn p lo hi L base w M' la lb xa xb T va vb wr' :=
  ⟨h.h.ran hm hf hG (by omega) h1, h.ra.of hp (by omega) (by omega) fun j _ _ => hs j, h.rb.of hp (by omega) (by omega) fun j _ _ => hs j, h.fl.same hG hs, fun i hi => (hs _).trans (h.hz i hi), h.ia.fr hf h2, h.ib.fr hf h2, h.ne, h.nd, Nat.le_trans h.bs hf.size⟩
theorem OtIn.put0 (hp : p.ok) (ht : 2 ≤ p.t) {n : Int} (h : OtIn p lo hi L base w M la lb xa xb T va vb wr) (hm : MemIn lo hi L M' wr') (hf : Fr lo hi wr wr') (hG : Mg p M') (h1 : w.heap.size < lo) (h2 : hi ≤ base) (hR : RTs p M' 0 (la ++ [n]))
    (hs : ∀ j : Nat, ((j : Int) < p.cnt 0 ∨ p.cnt 0 + 1 + p.r ≤ j) → M'.wd 0 j = M.wd 0 j) (hna : n ∉ la) (hnb : n ∉ lb) : OtIn p lo hi L base w M' (la ++ [n]) lb xa xb T va vb wr' := by
  have h12 := thr_two hp (show (0 : Int) < 1 by omega)
  refine ⟨h.h.ran hm hf hG (by omega) h1, hR, h.rb.of hp (by omega) (by omega) fun j a _ => hs j (.inr (by omega)), put_fl hp hG (by omega) (by omega) hs h.fl, fun i hi => ?_, h.ia.fr hf h2, h.ib.fr hf h2, h.ne, ?_, Nat.le_trans h.bs hf.size⟩
  · obtain ⟨q1, q2, q3, q4, q5, q6⟩ := thr_pl hp (t := 0) (by omega) (by omega)
    have := hz_pl hp hi
    exact (hs _ (.inl (by omega))).trans (h.hz i hi)
  · rw [List.append_assoc]
    refine (List.Perm.nodup_iff (List.perm_middle (a := n) (l₁ := la) (l₂ := lb))).2 (List.nodup_cons.2 ⟨fun hh => ?_, h.nd⟩)
    rcases List.mem_append.1 hh with hh | hh
    · exact hna hh
    · exact hnb hh
theorem OtIn.put1 (hp : p.ok) (ht : 2 ≤ p.t) {n : Int} (h : OtIn p lo hi L base w M la lb xa xb T va vb wr) (hm : MemIn lo hi L M' wr') (hf : Fr lo hi wr wr') (hG : Mg p M') (h1 : w.heap.size < lo) (h2 : hi ≤ base) (hR : RTs p M' 1 (lb ++ [n]))
    (hs : ∀ j : Nat, ((j : Int) < p.cnt 1 ∨ p.cnt 1 + 1 + p.r ≤ j) → M'.wd 0 j = M.wd 0 j) (hna : n ∉ la) (hnb : n ∉ lb) : OtIn p lo hi L base w M' la (lb ++ [n]) xa xb T va vb wr' := by
  have h12 := thr_two hp (show (0 : Int) < 1 by omega)
  refine ⟨h.h.ran hm hf hG (by omega) h1, h.ra.of hp (by omega) (by omega) fun j _ b => hs j (.inl (by omega)), hR, put_fl hp hG (by omega) (by omega) hs h.fl, fun i hi => ?_, h.ia.fr hf h2, h.ib.fr hf h2, h.ne, ?_, Nat.le_trans h.bs hf.size⟩
  · obtain ⟨q1, q2, q3, q4, q5, q6⟩ := thr_pl hp (t := 1) (by omega) (by omega)
    have := hz_pl hp hi
    exact (hs _ (.inl (by omega))).trans (h.hz i hi)
  · rw [← List.append_assoc]
    refine (List.Perm.nodup_iff (List.perm_append_comm (l₁ := la ++ lb) (l₂ := [n]))).2 (List.nodup_cons.2 ⟨fun hh => ?_, h.nd⟩)
    rcases List.mem_append.1 (show n ∈ la ++ lb from hh) with hh | hh
    · exact hna hh
    · exact hnb hh
/-- A row grows: the memory and the plan's box stay. -/
theorem hin_grown {B : Nat} {xs : List Int} (h : HIn p lo hi L B w M wr) (hI : IR base va xs wr) (hg : wr.grownBy wr' va.ownBlock) (h1 : w.heap.size ≤ base) (h2 : hi ≤ base) (hB : B < base) : HIn p lo hi L B w M wr' :=
  have hlh := h.m.top
  ⟨h.m.keep hg.size fun k _ hk => grown_at hI hg (by omega) (by omega), h.mg, grown_ext h.ex hI hg h1, (grown_at hI hg (heap_lt h.pb) hB).trans h.pb⟩
theorem OtIn.rowA (h : OtIn p lo hi L base w M la lb xa xb T va vb wr) (_ : w.heap.size < lo) (h2 : hi ≤ base) (h3 : w.heap.size < base) {ys : List Int} (hv : IR base va' ys wr') (hg : wr.grownBy wr' va.ownBlock) (hn : va'.ownBlock = va.ownBlock ∨ ∃ g, va'.ownBlock = some g ∧ wr.heap.size ≤ g) : OtIn p lo hi L base w M la lb ys xb T va' vb wr' := by
  refine ⟨hin_grown h.h h.ia hg (by omega) h2 h3, h.ra, h.rb, h.fl, h.hz, hv, h.ib.keep fun g hgb => ?_, fun g hga => ?_, h.nd, Nat.le_trans h.bs hg.size⟩
  · obtain ⟨_, cur, hh⟩ := h.ib.own hgb
    exact hg.block g (hp_lt hh) fun e => h.ne g e.symm hgb
  · rcases hn with e | ⟨g', e, hle⟩
    · exact h.ne g (e ▸ hga)
    · intro hgb
      obtain ⟨_, cur, hh⟩ := h.ib.own hgb
      have := hp_lt hh
      rw [e] at hga
      cases hga
      omega
theorem OtIn.rowB (h : OtIn p lo hi L base w M la lb xa xb T va vb wr) (_ : w.heap.size < lo) (h2 : hi ≤ base) (h3 : w.heap.size < base) {ys : List Int} (hv : IR base va' ys wr') (hg : wr.grownBy wr' vb.ownBlock) (hn : va'.ownBlock = vb.ownBlock ∨ ∃ g, va'.ownBlock = some g ∧ wr.heap.size ≤ g) : OtIn p lo hi L base w M la lb xa ys T va va' wr' := by
  refine ⟨hin_grown h.h h.ib hg (by omega) h2 h3, h.ra, h.rb, h.fl, h.hz, h.ia.keep fun g hga => ?_, hv, fun g hga => ?_, h.nd, Nat.le_trans h.bs hg.size⟩
  · obtain ⟨_, cur, hh⟩ := h.ia.own hga
    exact hg.block g (hp_lt hh) fun e => h.ne g hga e.symm
  · rcases hn with e | ⟨g', e, hle⟩
    · rw [e]
      exact h.ne g hga
    · obtain ⟨_, cur, hh⟩ := h.ia.own hga
      have := hp_lt hh
      rw [e]
      intro e2
      cases e2
      omega
end
theorem hldB_zero {p : Pl} (hp : p.ok) {n : Int} (hn : InR p n) : hldB p (fun _ => 0#64) n = false := by
  unfold hldB
  rw [heldR_no _ _ fun j _ => Ne.symm (nameW_ne0 hn.1 (by have := hn.lt hp; omega))]
end Go.Proofs.YtlapcocljjgjlaaGreat

/-
  Two scans, one behind the other; what stands in the midst of the law RetireTwice. Conditions: a formed plan.
-/
namespace Go.Proofs.YtlapcocljjgjlaaGreat
open Go Go.RowKit

theorem scan_twice {p : Pl} (hp : p.ok) {M : MS} {l : List Int} {T : Nat} (hT : T ≤ 1500000) (hG : Mg p M) (hL : RTs p M 0 l) (hF : FL p M [] T) (hn : l.Nodup) :
    ∃ M2 T2 s2 l1 fl1, Runs (scanT p 0 2) M s2 M2 ((l.length : Int) - (l1.length : Int)) ∧ s2 ≤ 100000 ∧ Mg p M2 ∧ RTs p M2 0 l1 ∧ FL p M2 fl1 T2 ∧ l1.length ≤ l.length ∧
      ∃ M3 T3 s3, Runs (scanT p 0 2) M2 s3 M3 0 ∧ s3 ≤ 100000 ∧ Mg p M3 ∧ RTs p M3 0 l1 ∧ FL p M3 fl1 T3 := by
  have ht := hp.2.1
  have hr : p.r ≤ 1024 := by unfold Pl.ok at hp; omega
  have hlr := hL.len
  obtain ⟨M2, T2, s2, r2, hs2, S2⟩ := scan_run (hd := hzW p M) hp (t := 0) (by omega) (by omega) (show T ≤ 2000000 by omega) hG hL hF hn (fun _ _ h => by simp at h) (fun _ _ => rfl)
  have hlen := scanP_len (hldB p (hzW p M)) l.length l [] (Nat.le_refl _)
  have hheld := scanP_held (hldB p (hzW p M)) l.length l [] (Nat.le_refl _) fun i a b => by omega
  have htt := S2.tt
  simp only [List.length_nil, Nat.add_zero] at hlen
  obtain ⟨l1, hl1⟩ : ∃ l1, (scanP (hldB p (hzW p M)) l.length l []).1 = l1 := ⟨_, rfl⟩
  obtain ⟨out, hout⟩ : ∃ out, (scanP (hldB p (hzW p M)) l.length l []).2 = out := ⟨_, rfl⟩
  rw [hl1] at r2 S2 hlen hheld
  rw [hout] at S2 hlen htt
  obtain ⟨M3, T3, s3, r3, hs3, S3⟩ := scan_run (hd := hzW p M) hp (t := 0) (by omega) (by omega) (show T2 ≤ 2000000 by omega) S2.mg S2.rt S2.fl (List.nodup_append.1 S2.nd).1 S2.nf S2.hz
  rw [scanP_all _ _ _ _ (Nat.le_refl _) hheld] at r3 S3
  rw [Int.sub_self] at r3
  exact ⟨M2, T2, s2, l1, _, r2, hs2, S2.mg, S2.rt, S2.fl, by omega, M3, T3, s3, r3, hs3, S3.mg, S3.rt, S3.fl⟩
/-- In the midst of the first loop: the law's row tells had, of which la are retired. -/
structure TwIn (p : Pl) (lo hi : Nat) (L : Lay) (base : Nat) (w : World) (M : MS) (la had xs : List Int) (T : Nat) (vh : Value) (wr : World) : Prop where
  h : HIn p lo hi L w.heap.size w M wr
  ra : RTs p M 0 la
  fl : FL p M [] T
  ih : IR base vh xs wr
  sb : ∀ n ∈ la, n ∈ had
  nd : la.Nodup
  bs : base ≤ wr.heap.size
section
variable {p : Pl} {lo hi : Nat} {L : Lay} {base : Nat} {w : World} {M M' : MS} {la had xs : List Int} {T : Nat} {vh vh' : Value} {wr wr' : World}
theorem TwIn.ext (h : TwIn p lo hi L base w M la had xs T vh wr) (hx : Ext wr wr') : TwIn p lo hi L base w M la had xs T vh wr' :=
  ⟨h.h.ext hx, h.ra, h.fl, h.ih.ext hx, h.sb, h.nd, Nat.le_trans h.bs hx.size⟩
theorem TwIn.same (hp : p.ok) (h : TwIn p lo hi L base w M la had xs T vh wr) (hm : MemIn lo hi L M' wr') (hf : Fr lo hi wr wr') (hG : Mg p M') (h1 : w.heap.size < lo) (h2 : hi ≤ base) (hs : ∀ j, M'.wd 0 j = M.wd 0 j) : TwIn p lo hi L base w M' la had xs T vh wr' :=
  ⟨h.h.ran hm hf hG (by omega) h1, h.ra.of hp (by omega) (by have := hp.2.1; omega) fun j _ _ => hs j, h.fl.same hG hs, h.ih.fr hf h2, h.sb, h.nd, Nat.le_trans h.bs hf.size⟩
theorem TwIn.put (hp : p.ok) {n : Int} (h : TwIn p lo hi L base w M la had xs T vh wr) (hm : MemIn lo hi L M' wr') (hf : Fr lo hi wr wr') (hG : Mg p M') (h1 : w.heap.size < lo) (h2 : hi ≤ base) (hR : RTs p M' 0 (la ++ [n]))
    (hs : ∀ j : Nat, ((j : Int) < p.cnt 0 ∨ p.cnt 0 + 1 + p.r ≤ j) → M'.wd 0 j = M.wd 0 j) (hna : n ∉ la) (hnh : n ∈ had) : TwIn p lo hi L base w M' (la ++ [n]) had xs T vh wr' := by
  refine ⟨h.h.ran hm hf hG (by omega) h1, hR, put_fl hp hG (by omega) (by have := hp.2.1; omega) hs h.fl, h.ih.fr hf h2, fun m hm => ?_, ?_, Nat.le_trans h.bs hf.size⟩
  · rcases List.mem_append.1 hm with hm | hm
    · exact h.sb m hm
    · simp at hm
      subst hm
      exact hnh
  · refine (List.Perm.nodup_iff (List.perm_append_comm (l₁ := la) (l₂ := [n]))).2 (List.nodup_cons.2 ⟨hna, h.nd⟩)
theorem TwIn.row (h : TwIn p lo hi L base w M la had xs T vh wr) (h2 : hi ≤ base) (h3 : w.heap.size < base) {n : Int} (hv : IR base vh' (xs ++ [n]) wr') (hg : wr.grownBy wr' vh.ownBlock) : TwIn p lo hi L base w M la (had ++ [n]) (xs ++ [n]) T vh' wr' :=
  ⟨hin_grown h.h h.ih hg (by omega) h2 h3, h.ra, h.fl, hv, fun m hm => List.mem_append_left _ (h.sb m hm), h.nd, Nat.le_trans h.bs hg.size⟩
end
end Go.Proofs.YtlapcocljjgjlaaGreat
