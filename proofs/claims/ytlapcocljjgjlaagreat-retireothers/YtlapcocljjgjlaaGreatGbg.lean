/-
  What stands in the midst of the law RetireOthers: two threads' retired nodes, and the law's own rows of them. Conditions: a formed plan with two threads.
-/
import Derived.Test.YtlapcocljjgjlaaGreatGbf
namespace Go.Proofs.YtlapcocljjgjlaaGreat
open Go Go.RowKit

/-- Thread 0 has retired la, thread 1 lb; the rows tell xa and xb. -/
structure OtIn (p : Pl) (lo hi : Nat) (L : Lay) (base : Nat) (w : World) (M : MS) (la lb xa xb : List Int) (T : Nat) (va vb : Value) (wr : World) : Prop where
  h : HIn p lo hi L w.heap.size w M wr
  ra : RTs p M 0 la
  rb : RTs p M 1 lb
  fl : FL p M [] T
  hz : ∀ i : Nat, (i : Int) < 3 * p.t → hzW p M i = 0#64
  ia : IR base va xa wr
  ib : IR base vb xb wr
  ne : ∀ g, va.ownBlock = some g → vb.ownBlock ≠ some g
  nd : (la ++ lb).Nodup
  bs : base ≤ wr.heap.size
section
variable {p : Pl} {lo hi : Nat} {L : Lay} {base : Nat} {w : World} {M M' : MS} {la lb xa xb : List Int} {T : Nat} {va vb va' : Value} {wr wr' : World}
theorem OtIn.ext (h : OtIn p lo hi L base w M la lb xa xb T va vb wr) (hx : Ext wr wr') : OtIn p lo hi L base w M la lb xa xb T va vb wr' :=
  ⟨h.h.ext hx, h.ra, h.rb, h.fl, h.hz, h.ia.ext hx, h.ib.ext hx, h.ne, h.nd, Nat.le_trans h.bs hx.size⟩
/-- Nothing that counts has turned. -/
theorem OtIn.same (hp : p.ok) (ht : 2 ≤ p.t) (h : OtIn p lo hi L base w M la lb xa xb T va vb wr) (hm : MemIn lo hi L M' wr') (hf : Fr lo hi wr wr') (hG : Mg p M') (h1 : w.heap.size < lo) (h2 : hi ≤ base) (hs : ∀ j, M'.wd 0 j = M.wd 0 j) : OtIn p lo hi L base w M' la lb xa xb T va vb wr' :=
  ⟨h.h.ran hm hf hG (by omega) h1, h.ra.of hp (by omega) (by omega) fun j _ _ => hs j, h.rb.of hp (by omega) (by omega) fun j _ _ => hs j, h.fl.same hG hs, fun i hi => (hs _).trans (h.hz i hi), h.ia.fr hf h2, h.ib.fr hf h2, h.ne, h.nd, Nat.le_trans h.bs hf.size⟩
theorem OtIn.put0 (hp : p.ok) (ht : 2 ≤ p.t) {n : Int} (h : OtIn p lo hi L base w M la lb xa xb T va vb wr) (hm : MemIn lo hi L M' wr') (hf : Fr lo hi wr wr') (hG : Mg p M') (h1 : w.heap.size < lo) (h2 : hi ≤ base) (hR : RTs p M' 0 (la ++ [n]))
    (hs : ∀ j : Nat, ((j : Int) < p.cnt 0 ∨ p.cnt 0 + 1 + p.r ≤ j) → M'.wd 0 j = M.wd 0 j) (hna : n ∉ la) (hnb : n ∉ lb) : OtIn p lo hi L base w M' (la ++ [n]) lb xa xb T va vb wr' := by
  have h12 := thr_two hp (show (0 : Int) < 1 by omega)
  refine ⟨h.h.ran hm hf hG (by omega) h1, hR, h.rb.of hp (by omega) (by omega) fun j a _ => hs j (.inr (by omega)), put_fl hp hG (by omega) (by omega) hs h.fl, fun i hi => ?_, h.ia.fr hf h2, h.ib.fr hf h2, h.ne, ?_, Nat.le_trans h.bs hf.size⟩
  · obtain ⟨q1, q2, q3, q4, q5, q6⟩ := thr_pl hp (t := 0) (by omega) (by omega)
    have := hz_pl hp hi
    exact (hs _ (.inl (by omega))).trans (h.hz i hi)
  · rw [List.append_assoc]
    refine (List.Perm.nodup_iff (List.perm_middle (a := n) (l₁ := la) (l₂ := lb))).2 (List.nodup_cons.2 ⟨fun hh => ?_, h.nd⟩)
    rcases List.mem_append.1 hh with hh | hh
    · exact hna hh
    · exact hnb hh
theorem OtIn.put1 (hp : p.ok) (ht : 2 ≤ p.t) {n : Int} (h : OtIn p lo hi L base w M la lb xa xb T va vb wr) (hm : MemIn lo hi L M' wr') (hf : Fr lo hi wr wr') (hG : Mg p M') (h1 : w.heap.size < lo) (h2 : hi ≤ base) (hR : RTs p M' 1 (lb ++ [n]))
    (hs : ∀ j : Nat, ((j : Int) < p.cnt 1 ∨ p.cnt 1 + 1 + p.r ≤ j) → M'.wd 0 j = M.wd 0 j) (hna : n ∉ la) (hnb : n ∉ lb) : OtIn p lo hi L base w M' la (lb ++ [n]) xa xb T va vb wr' := by
  have h12 := thr_two hp (show (0 : Int) < 1 by omega)
  refine ⟨h.h.ran hm hf hG (by omega) h1, h.ra.of hp (by omega) (by omega) fun j _ b => hs j (.inl (by omega)), hR, put_fl hp hG (by omega) (by omega) hs h.fl, fun i hi => ?_, h.ia.fr hf h2, h.ib.fr hf h2, h.ne, ?_, Nat.le_trans h.bs hf.size⟩
  · obtain ⟨q1, q2, q3, q4, q5, q6⟩ := thr_pl hp (t := 1) (by omega) (by omega)
    have := hz_pl hp hi
    exact (hs _ (.inl (by omega))).trans (h.hz i hi)
  · rw [← List.append_assoc]
    refine (List.Perm.nodup_iff (List.perm_append_comm (l₁ := la ++ lb) (l₂ := [n]))).2 (List.nodup_cons.2 ⟨fun hh => ?_, h.nd⟩)
    rcases List.mem_append.1 (show n ∈ la ++ lb from hh) with hh | hh
    · exact hna hh
    · exact hnb hh
/-- A row grows: the memory and the plan's box stay. -/
theorem hin_grown {B : Nat} {xs : List Int} (h : HIn p lo hi L B w M wr) (hI : IR base va xs wr) (hg : wr.grownBy wr' va.ownBlock) (h1 : w.heap.size ≤ base) (h2 : hi ≤ base) (hB : B < base) : HIn p lo hi L B w M wr' :=
  have hlh := h.m.top
  ⟨h.m.keep hg.size fun k _ hk => grown_at hI hg (by omega) (by omega), h.mg, grown_ext h.ex hI hg h1, (grown_at hI hg (heap_lt h.pb) hB).trans h.pb⟩
theorem OtIn.rowA (h : OtIn p lo hi L base w M la lb xa xb T va vb wr) (_ : w.heap.size < lo) (h2 : hi ≤ base) (h3 : w.heap.size < base) {ys : List Int} (hv : IR base va' ys wr') (hg : wr.grownBy wr' va.ownBlock) (hn : va'.ownBlock = va.ownBlock ∨ ∃ g, va'.ownBlock = some g ∧ wr.heap.size ≤ g) : OtIn p lo hi L base w M la lb ys xb T va' vb wr' := by
  refine ⟨hin_grown h.h h.ia hg (by omega) h2 h3, h.ra, h.rb, h.fl, h.hz, hv, h.ib.keep fun g hgb => ?_, fun g hga => ?_, h.nd, Nat.le_trans h.bs hg.size⟩
  · obtain ⟨_, cur, hh⟩ := h.ib.own hgb
    exact hg.block g (hp_lt hh) fun e => h.ne g e.symm hgb
  · rcases hn with e | ⟨g', e, hle⟩
    · exact h.ne g (e ▸ hga)
    · intro hgb
      obtain ⟨_, cur, hh⟩ := h.ib.own hgb
      have := hp_lt hh
      rw [e] at hga
      cases hga
      omega
theorem OtIn.rowB (h : OtIn p lo hi L base w M la lb xa xb T va vb wr) (_ : w.heap.size < lo) (h2 : hi ≤ base) (h3 : w.heap.size < base) {ys : List Int} (hv : IR base va' ys wr') (hg : wr.grownBy wr' vb.ownBlock) (hn : va'.ownBlock = vb.ownBlock ∨ ∃ g, va'.ownBlock = some g ∧ wr.heap.size ≤ g) : OtIn p lo hi L base w M la lb xa ys T va va' wr' := by
  refine ⟨hin_grown h.h h.ib hg (by omega) h2 h3, h.ra, h.rb, h.fl, h.hz, h.ia.keep fun g hga => ?_, hv, fun g hga => ?_, h.nd, Nat.le_trans h.bs hg.size⟩
  · obtain ⟨_, cur, hh⟩ := h.ia.own hga
    exact hg.block g (hp_lt hh) fun e => h.ne g hga e.symm
  · rcases hn with e | ⟨g', e, hle⟩
    · rw [e]
      exact h.ne g hga
    · obtain ⟨_, cur, hh⟩ := h.ia.own hga
      have := hp_lt hh
      rw [e]
      intro e2
      cases e2
      omega
end
theorem hldB_zero {p : Pl} (hp : p.ok) {n : Int} (hn : InR p n) : hldB p (fun _ => 0#64) n = false := by
  unfold hldB
  rw [heldR_no _ _ fun j _ => Ne.symm (nameW_ne0 hn.1 (by have := hn.lt hp; omega))]
end Go.Proofs.YtlapcocljjgjlaaGreat

/-
  The law RetireOthers, walked. Conditions: those of each theorem.
-/
namespace Go.Proofs.YtlapcocljjgjlaaGreat
open Go Go.RowKit

set_option maxRecDepth 8000 in
set_option maxHeartbeats 1000000 in
theorem oth_nofew (p : Pl) (a : Option Addr) (m cap : Nat) (hf : ¬ (p.few ∧ p.ok)) (w : World) : Calls Tryz.prog 7 #[plV p, .slice a m cap] w (Ret (.bool true) w) := by
  have HFP := Lib.hid hf
  clear hf
  go_enter Tryz.func7, Tryz.ntmps7
  go_wp2_with (first
    | (go_at_call 8; refine (r11wake_any _).mono ?_; rintro e w' hr; obtain ⟨rfl, sA, rfl⟩ := hr.over; clear hr)
    | (go_at_call 9; refine (r11few_any p _ false (hid_no HFP.out)).mono ?_; rintro e w' hr; obtain ⟨rfl, sA, rfl⟩ := hr.over; clear hr))
  go_ret
  exact Ret.mk (by repeat (first | exact ext_refl _ | apply ext_over | apply ext_alloc))
set_option maxRecDepth 8000 in
set_option maxHeartbeats 1000000 in
theorem oth_long (p : Pl) (a : Option Addr) (m cap : Nat) (hf : p.few ∧ p.ok) (hm : 40 < m) (w : World) : Calls Tryz.prog 7 #[plV p, .slice a m cap] w (Ret (.bool true) w) := by
  have HFP := Lib.hid hf
  have d1 : decide (40 < (m : Int)) = true := by simp; omega
  clear hf
  go_enter Tryz.func7, Tryz.ntmps7
  go_wp2_with (first
    | (go_at_call 8; refine (r11wake_any _).mono ?_; rintro e w' hr; obtain ⟨rfl, sA, rfl⟩ := hr.over; clear hr)
    | (go_at_call 9; refine (r11few_any p _ true (hid_yes HFP.out)).mono ?_; rintro e w' hr; obtain ⟨rfl, sA, rfl⟩ := hr.over; clear hr))
  go_ret
  exact Ret.mk (by repeat (first | exact ext_refl _ | apply ext_over | apply ext_alloc))
set_option maxRecDepth 8000 in
set_option maxHeartbeats 1000000 in
theorem oth_one (p : Pl) (a : Option Addr) (m cap : Nat) (hf : p.few ∧ p.ok) (hm : m ≤ 40) (hn : p.t < 2) (w : World) : Calls Tryz.prog 7 #[plV p, .slice a m cap] w (Ret (.bool true) w) := by
  have HFP := Lib.hid hf
  have d1 : decide (40 < (m : Int)) = false := by simp; omega
  have d2 : decide (p.t < 2) = true := by simp; omega
  clear hf
  go_enter Tryz.func7, Tryz.ntmps7
  go_wp2_with (first
    | (go_at_call 8; refine (r11wake_any _).mono ?_; rintro e w' hr; obtain ⟨rfl, sA, rfl⟩ := hr.over; clear hr)
    | (go_at_call 9; refine (r11few_any p _ true (hid_yes HFP.out)).mono ?_; rintro e w' hr; obtain ⟨rfl, sA, rfl⟩ := hr.over; clear hr))
  go_ret
  exact Ret.mk (by repeat (first | exact ext_refl _ | apply ext_over | apply ext_alloc))
def OtRel (p : Pl) (lo hi : Nat) (L : Lay) (base : Nat) (w : World) (T m : Nat) (va vb vi : Value) (wr : World) : Prop :=
  ∃ (i : Nat) (M : MS) (la lb : List Int), vi = .int .i64 (i : Int) ∧ i ≤ m ∧ la.length + lb.length ≤ i ∧ OtIn p lo hi L base w M la lb la lb T va vb wr
set_option maxRecDepth 8000 in
set_option maxHeartbeats 4000000 in
theorem oth_yes (p : Pl) (hf : p.few ∧ p.ok) (hn : 2 ≤ p.t) (ls : List Int) (v : Value) (w : World) (hls : Is w v ls) (hm : ls.length ≤ 40) : Calls Tryz.prog 7 #[plV p, v] w (Ret (.bool true) w) := by
  have HFP := Lib.hid hf
  have HP := Lib.hid hf.2
  have HX := Lib.hid hls
  obtain ⟨a0, cap, rfl, hcap, hcell⟩ := hls
  clear hcell
  have hpt := hf.2.2.1
  have hpn := hf.2.1
  have hrr : 3 * p.t + 1 ≤ p.r ∧ p.r ≤ 1024 := hf.2.2.2.1
  have d1 : decide (40 < (ls.length : Int)) = false := by simp; omega
  have d2 : decide (p.t < 2) = false := by simp; omega
  clear hf
  have hPop : ∀ W, Calls Tryz.prog 10 #[plV p, .agg #[.int .i64 0, .int .i64 2, .int .i64 0]] W (RetPopd p ⟨0, 2, 0⟩ W) := fun W => popped_any p HP.out ⟨0, 2, 0⟩ W
  replace hPop := Lib.hid hPop
  go_enter Tryz.func7, Tryz.ntmps7
  go_wp2_with (first
    | (go_at_call 8; refine (r11wake_any _).mono ?_; rintro e w' hr; obtain ⟨rfl, sA, rfl⟩ := hr.over; clear hr)
    | (go_at_call 9; refine (r11few_any p _ true (hid_yes HFP.out)).mono ?_; rintro e w' hr; obtain ⟨rfl, sA, rfl⟩ := hr.over; clear hr)
    | (go_at_call 10; refine Hid.out ?_))
  refine Lib.hid ?_
  refine (hPop.out _).mono ?_
  rintro e w1 ⟨lo, hi, L, M, rfl, hM, hPo, hx, hlo⟩
  have hx1 : Ext (w.alloc (.cells #[.int .i64 p.n, .int .i64 p.t, .int .i64 p.r, .int .i64 p.d, .int .i64 p.b, .int .i64 p.g] 23)) w1 := by
    refine ext_trans ?_ hx
    repeat (first | exact ext_refl _ | apply ext_over)
  have hlo1 : w.heap.size < lo := by
    refine Nat.lt_of_lt_of_le ?_ hlo
    refine Nat.lt_of_lt_of_le (m := (w.alloc (.cells #[.int .i64 p.n, .int .i64 p.t, .int .i64 p.r, .int .i64 p.d, .int .i64 p.b, .int .i64 p.g] 23)).heap.size) (by simp) ?_
    first | exact over_size _ _ | exact Nat.le_trans (over_size _ _) (over_size _ _) | exact Nat.le_trans (over_size _ _) (Nat.le_trans (over_size _ _) (over_size _ _))
  have hb0 : PBox w.heap.size p w1 := (hx1.block _ (by simp)).trans (heap_at w _ _ rfl)
  have hhi := hM.top
  have HI := Lib.hid (HIn.mk hM hPo.fl.mg (ext_trans (ext_alloc _ (ext_refl w)) hx1) hb0)
  have HPO := Lib.hid hPo
  clear hM hPo hx hx1 hlo hb0 hPop
  have hfl := HPO.out.fl
  rw [Nat.sub_self] at hfl
  obtain ⟨base, hbase⟩ : ∃ b, Hid (w1.heap.size = b) := ⟨_, Lib.hid rfl⟩
  have hbs : w.heap.size < base := by have := heap_lt HI.out.pb; have := hbase.out; omega
  have hhb : hi ≤ base := by have := hbase.out; omega
  have HS : Hid (OtIn p lo hi L base w M [] [] [] [] p.n.toNat (.slice none 0 0) (.slice none 0 0) w1) := Lib.hid ⟨HI.out, low_rts HP.out HPO.out.low (by omega) (by omega), low_rts HP.out HPO.out.low (by omega) (by omega), hfl, fun i hi => low_hz HP.out HPO.out.low hi, IR.nil _ _, IR.nil _ _, fun g hg => (by cases hg), (by simp), (by have := hbase.out; omega)⟩
  clear hfl HPO HI hhi
  go_wp2
  go_loopw [6, 7, 8] (fun va vb vi wr => OtRel p lo hi L base w p.n.toNat ls.length va vb vi wr) (fun _ _ vi _ => (ls.length - intOf vi).toNat)
  case atStart => exact ⟨0, M, [], [], rfl, Nat.zero_le _, (by simp), HS.out⟩
  case round =>
    clear HS
    obtain ⟨i, M, la, lb, rfl, him, hsum, hS⟩ := hrel
    have HR := Lib.hid hS
    clear hS
    have ⟨c0, c1, c2, c3, c4, c5, lt⟩ := HR.out.h.pb.plc
    by_cases hlt : i < ls.length
    · have hlt' : (i : Int) < ls.length := by omega
      obtain ⟨bb, ofs, rfl, hbl, hcell⟩ := HX.out.at (by omega)
      have d0 := hcell i hlt
      obtain ⟨y, hy⟩ : ∃ y, y = iN ls i := ⟨_, rfl⟩
      rw [← hy] at d0
      replace d0 := ext_cell HR.out.h.ex d0
      have hbl2 := cell_lt d0
      clear hcell hy
      by_cases hy0 : 0 ≤ y
      · by_cases hy1 : y < p.n
        · have dy0 : decide (y < 0) = false := by simp; omega
          have dy1 : decide (p.n ≤ y) = false := by simp; omega
          by_cases hya : y ∈ la
          · go_wp2_with (go_at_call 11; refine (rhas_any la y _ _ true (hid_yes hya) (by omega) HR.out.ia.is).mono ?_; rintro e w2 ⟨rfl, hx⟩; refine Hid.out ?_)
            refine Lib.hid ?_
            have HR2 := Lib.hid (HR.out.ext hx)
            clear hx c0 c1 c2 c3 c4 c5 lt
            have ⟨c0, c1, c2, c3, c4, c5, lt⟩ := HR2.out.h.pb.plc
            go_wp2
            exact ⟨⟨i + 1, M, la, lb, by go_num, by omega, by omega, HR2.out⟩, by simp [intOf]; omega⟩
          · go_wp2_with (go_at_call 11; refine (rhas_any la y _ _ false (hid_no hya) (by omega) HR.out.ia.is).mono ?_; rintro e w2 ⟨rfl, hx⟩; refine Hid.out ?_)
            refine Lib.hid ?_
            have HR2 := Lib.hid (HR.out.ext hx)
            clear hx c0 c1 c2 c3 c4 c5 lt
            have ⟨c0, c1, c2, c3, c4, c5, lt⟩ := HR2.out.h.pb.plc
            by_cases hyb : y ∈ lb
            · go_wp2_with (go_at_call 11; refine (rhas_any lb y _ _ true (hid_yes hyb) (by omega) HR2.out.ib.is).mono ?_; rintro e w3 ⟨rfl, hx⟩; refine Hid.out ?_)
              refine Lib.hid ?_
              have HR3 := Lib.hid (HR2.out.ext hx)
              clear hx c0 c1 c2 c3 c4 c5 lt
              have ⟨c0, c1, c2, c3, c4, c5, lt⟩ := HR3.out.h.pb.plc
              go_wp2
              exact ⟨⟨i + 1, M, la, lb, by go_num, by omega, by omega, HR3.out⟩, by simp [intOf]; omega⟩
            · go_wp2_with (go_at_call 11; refine (rhas_any lb y _ _ false (hid_no hyb) (by omega) HR2.out.ib.is).mono ?_; rintro e w3 ⟨rfl, hx⟩; refine Hid.out ?_)
              refine Lib.hid ?_
              have HR3 := Lib.hid (HR2.out.ext hx)
              clear hx c0 c1 c2 c3 c4 c5 lt
              have ⟨c0, c1, c2, c3, c4, c5, lt⟩ := HR3.out.h.pb.plc
              have hyr : InR p y := ⟨hy0, hy1⟩
              by_cases hpar : i % 2 = 0
              · have hmod : Int.tmod (i : Int) 2 = 0 := by rw [Int.tmod_eq_emod_of_nonneg (by omega)]; omega
                have hpr := put_run HP.out HR3.out.h.mg (t := 0) (by omega) (by omega) HR3.out.ra hyr
                by_cases hfu : (la.length : Int) = p.r
                · rw [if_pos hfu] at hpr
                  obtain ⟨M1, r1, g1, s1⟩ := hpr
                  have HR1 := Lib.hid r1
                  have HN := Lib.hid (And.intro g1 s1)
                  have HH := Lib.hid HR3.out.h
                  clear r1 g1 s1
                  go_wp2_with (go_at_call 13; refine (rput_PT p 0 y _ HP.out (by omega) (by omega)).mono ?_; rintro e w4 ⟨v1, F1, rfl, hx2, hp1, hbn1, hsub1⟩; refine Hid.out ?_)
                  refine Lib.hid ?_
                  have HOF1 := Lib.hid (fun j (hj : F1 j) => (hsub1 j hj).elim (fun h => h.elim) fun h => (.inr (Nat.le_trans HH.out.m.top h) : j < lo ∨ hi ≤ j))
                  have HH2 := Lib.hid (HH.out.ext hx2)
                  have HP1 := Lib.hid hp1
                  have HBN1 := Lib.hid hbn1
                  have HRb := Lib.hid (HR3.out.ext hx2)
                  clear hx2 hp1 hbn1 hsub1
                  go_wp2_with (go_at_call 14; refine (cap_int HH2.out.m 0 1#64 (by omega) (by rw [HH2.out.mg.n]; omega) (Lib.hid HH2.out.mg.e)).mono ?_; rintro e w5 ⟨rfl, hx3⟩; refine Hid.out ?_)
                  refine Lib.hid ?_
                  have HH3 := Lib.hid (HH2.out.ext hx3)
                  replace HP1 := Lib.hid (HP1.out.agr (Agr.of_ext hx3 HBN1.out))
                  replace HBN1 := Lib.hid (HBN1.out.ext hx3.size)
                  have HRc := Lib.hid (HRb.out.ext hx3)
                  clear hx3
                  go_wp2_with (go_at_call 12; refine (runI_any HR1.out 9 (by omega) (by omega) F1 v1 w5 HP1.out HBN1.out HOF1.out HH3.out.m).mono ?_; rintro e w6 ⟨rfl, hm4, hf4⟩; refine Hid.out ?_)
                  refine Lib.hid ?_
                  have HR4 := Lib.hid (HRc.out.same HP.out (by omega) hm4 hf4 HN.out.1 hlo1 hhb HN.out.2)
                  clear hm4 hf4 HP1 HBN1 HOF1 HR HR2 HR3 HRb HRc HH HH2 HH3 HR1 HN c0 c1 c2 c3 c4 c5 lt d0
                  go_wp2
                  exact ⟨⟨i + 1, M1, la, lb, by go_num, by omega, by omega, HR4.out⟩, by simp [intOf]; omega⟩
                · rw [if_neg hfu] at hpr
                  obtain ⟨M1, r1, g1, t1, s1⟩ := hpr
                  have dk : decide (0 < (la.length : Int) + 1) = true := decide_eq_true (by omega)
                  have dk1 : 0 < (la.length : Int) + 1 := by omega
                  have HR1 := Lib.hid r1
                  have HN := Lib.hid (And.intro g1 (And.intro t1 s1))
                  have HH := Lib.hid HR3.out.h
                  clear r1 g1 s1 t1
                  go_wp2_with (go_at_call 13; refine (rput_PT p 0 y _ HP.out (by omega) (by omega)).mono ?_; rintro e w4 ⟨v1, F1, rfl, hx2, hp1, hbn1, hsub1⟩; refine Hid.out ?_)
                  refine Lib.hid ?_
                  have HOF1 := Lib.hid (fun j (hj : F1 j) => (hsub1 j hj).elim (fun h => h.elim) fun h => (.inr (Nat.le_trans HH.out.m.top h) : j < lo ∨ hi ≤ j))
                  have HH2 := Lib.hid (HH.out.ext hx2)
                  have HP1 := Lib.hid hp1
                  have HBN1 := Lib.hid hbn1
                  have HRb := Lib.hid (HR3.out.ext hx2)
                  clear hx2 hp1 hbn1 hsub1
                  go_wp2_with (go_at_call 14; refine (cap_int HH2.out.m 0 1#64 (by omega) (by rw [HH2.out.mg.n]; omega) (Lib.hid HH2.out.mg.e)).mono ?_; rintro e w5 ⟨rfl, hx3⟩; refine Hid.out ?_)
                  refine Lib.hid ?_
                  have HH3 := Lib.hid (HH2.out.ext hx3)
                  replace HP1 := Lib.hid (HP1.out.agr (Agr.of_ext hx3 HBN1.out))
                  replace HBN1 := Lib.hid (HBN1.out.ext hx3.size)
                  have HRc := Lib.hid (HRb.out.ext hx3)
                  clear hx3
                  go_wp2_with (go_at_call 12; refine (runI_any HR1.out 9 (by omega) (by omega) F1 v1 w5 HP1.out HBN1.out HOF1.out HH3.out.m).mono ?_; rintro e w6 ⟨rfl, hm4, hf4⟩; refine Hid.out ?_)
                  refine Lib.hid ?_
                  have HR4 := Lib.hid (HRc.out.put0 HP.out (by omega) hm4 hf4 HN.out.1 hlo1 hhb HN.out.2.1 HN.out.2.2 hya hyb)
                  clear hm4 hf4 HP1 HBN1 HOF1 HR HR2 HR3 HRb HRc HH HH2 HH3 HR1 HN c0 c1 c2 c3 c4 c5 lt d0
                  go_wp2_with (at_builtin; refine wpList_irow rfl (.tmp 87) (.tmp 89) rfl base _ la rfl (HR4.out.ia.ext (ext_alloc _ (ext_refl w6))) ⟨w6.heap.size, 0, none⟩ y rfl (newy _ _ _ _ rfl) (by omega) (by have := HR4.out.bs; simp; omega) ?_; intro v7 w7 hv7 hg7 hn7; refine Hid.out ?_)
                  refine Lib.hid ?_
                  have HR5 := Lib.hid ((HR4.out.ext (ext_alloc (.cells #[.int .i64 y] 3) (ext_refl w6))).rowA hlo1 hhb hbs hv7 hg7 hn7)
                  clear hv7 hg7 hn7 HR4
                  go_wp2
                  exact ⟨⟨i + 1, M1, _, _, by go_num, by omega, by simp; omega, HR5.out⟩, by simp [intOf]; omega⟩
              · have hmod : Int.tmod (i : Int) 2 = 1 := by rw [Int.tmod_eq_emod_of_nonneg (by omega)]; omega
                have hpr := put_run HP.out HR3.out.h.mg (t := 1) (by omega) (by omega) HR3.out.rb hyr
                by_cases hfu : (lb.length : Int) = p.r
                · rw [if_pos hfu] at hpr
                  obtain ⟨M1, r1, g1, s1⟩ := hpr
                  have HR1 := Lib.hid r1
                  have HN := Lib.hid (And.intro g1 s1)
                  have HH := Lib.hid HR3.out.h
                  clear r1 g1 s1
                  go_wp2_with (go_at_call 13; refine (rput_PT p 1 y _ HP.out (by omega) (by omega)).mono ?_; rintro e w4 ⟨v1, F1, rfl, hx2, hp1, hbn1, hsub1⟩; refine Hid.out ?_)
                  refine Lib.hid ?_
                  have HOF1 := Lib.hid (fun j (hj : F1 j) => (hsub1 j hj).elim (fun h => h.elim) fun h => (.inr (Nat.le_trans HH.out.m.top h) : j < lo ∨ hi ≤ j))
                  have HH2 := Lib.hid (HH.out.ext hx2)
                  have HP1 := Lib.hid hp1
                  have HBN1 := Lib.hid hbn1
                  have HRb := Lib.hid (HR3.out.ext hx2)
                  clear hx2 hp1 hbn1 hsub1
                  go_wp2_with (go_at_call 14; refine (cap_int HH2.out.m 0 1#64 (by omega) (by rw [HH2.out.mg.n]; omega) (Lib.hid HH2.out.mg.e)).mono ?_; rintro e w5 ⟨rfl, hx3⟩; refine Hid.out ?_)
                  refine Lib.hid ?_
                  have HH3 := Lib.hid (HH2.out.ext hx3)
                  replace HP1 := Lib.hid (HP1.out.agr (Agr.of_ext hx3 HBN1.out))
                  replace HBN1 := Lib.hid (HBN1.out.ext hx3.size)
                  have HRc := Lib.hid (HRb.out.ext hx3)
                  clear hx3
                  go_wp2_with (go_at_call 12; refine (runI_any HR1.out 9 (by omega) (by omega) F1 v1 w5 HP1.out HBN1.out HOF1.out HH3.out.m).mono ?_; rintro e w6 ⟨rfl, hm4, hf4⟩; refine Hid.out ?_)
                  refine Lib.hid ?_
                  have HR4 := Lib.hid (HRc.out.same HP.out (by omega) hm4 hf4 HN.out.1 hlo1 hhb HN.out.2)
                  clear hm4 hf4 HP1 HBN1 HOF1 HR HR2 HR3 HRb HRc HH HH2 HH3 HR1 HN c0 c1 c2 c3 c4 c5 lt d0
                  go_wp2
                  exact ⟨⟨i + 1, M1, la, lb, by go_num, by omega, by omega, HR4.out⟩, by simp [intOf]; omega⟩
                · rw [if_neg hfu] at hpr
                  obtain ⟨M1, r1, g1, t1, s1⟩ := hpr
                  have dk : decide (0 < (lb.length : Int) + 1) = true := decide_eq_true (by omega)
                  have dk1 : 0 < (lb.length : Int) + 1 := by omega
                  have HR1 := Lib.hid r1
                  have HN := Lib.hid (And.intro g1 (And.intro t1 s1))
                  have HH := Lib.hid HR3.out.h
                  clear r1 g1 s1 t1
                  go_wp2_with (go_at_call 13; refine (rput_PT p 1 y _ HP.out (by omega) (by omega)).mono ?_; rintro e w4 ⟨v1, F1, rfl, hx2, hp1, hbn1, hsub1⟩; refine Hid.out ?_)
                  refine Lib.hid ?_
                  have HOF1 := Lib.hid (fun j (hj : F1 j) => (hsub1 j hj).elim (fun h => h.elim) fun h => (.inr (Nat.le_trans HH.out.m.top h) : j < lo ∨ hi ≤ j))
                  have HH2 := Lib.hid (HH.out.ext hx2)
                  have HP1 := Lib.hid hp1
                  have HBN1 := Lib.hid hbn1
                  have HRb := Lib.hid (HR3.out.ext hx2)
                  clear hx2 hp1 hbn1 hsub1
                  go_wp2_with (go_at_call 14; refine (cap_int HH2.out.m 0 1#64 (by omega) (by rw [HH2.out.mg.n]; omega) (Lib.hid HH2.out.mg.e)).mono ?_; rintro e w5 ⟨rfl, hx3⟩; refine Hid.out ?_)
                  refine Lib.hid ?_
                  have HH3 := Lib.hid (HH2.out.ext hx3)
                  replace HP1 := Lib.hid (HP1.out.agr (Agr.of_ext hx3 HBN1.out))
                  replace HBN1 := Lib.hid (HBN1.out.ext hx3.size)
                  have HRc := Lib.hid (HRb.out.ext hx3)
                  clear hx3
                  go_wp2_with (go_at_call 12; refine (runI_any HR1.out 9 (by omega) (by omega) F1 v1 w5 HP1.out HBN1.out HOF1.out HH3.out.m).mono ?_; rintro e w6 ⟨rfl, hm4, hf4⟩; refine Hid.out ?_)
                  refine Lib.hid ?_
                  have HR4 := Lib.hid (HRc.out.put1 HP.out (by omega) hm4 hf4 HN.out.1 hlo1 hhb HN.out.2.1 HN.out.2.2 hya hyb)
                  clear hm4 hf4 HP1 HBN1 HOF1 HR HR2 HR3 HRb HRc HH HH2 HH3 HR1 HN c0 c1 c2 c3 c4 c5 lt d0
                  go_wp2_with (at_builtin; refine wpList_irow rfl (.tmp 98) (.tmp 100) rfl base _ lb rfl (HR4.out.ib.ext (ext_alloc _ (ext_refl w6))) ⟨w6.heap.size, 0, none⟩ y rfl (newy _ _ _ _ rfl) (by omega) (by have := HR4.out.bs; simp; omega) ?_; intro v7 w7 hv7 hg7 hn7; refine Hid.out ?_)
                  refine Lib.hid ?_
                  have HR5 := Lib.hid ((HR4.out.ext (ext_alloc (.cells #[.int .i64 y] 3) (ext_refl w6))).rowB hlo1 hhb hbs hv7 hg7 hn7)
                  clear hv7 hg7 hn7 HR4
                  go_wp2
                  exact ⟨⟨i + 1, M1, _, _, by go_num, by omega, by simp; omega, HR5.out⟩, by simp [intOf]; omega⟩
        · have dy0 : decide (y < 0) = false := by simp; omega
          have dy1 : decide (p.n ≤ y) = true := by simp; omega
          go_wp2
          exact ⟨⟨i + 1, M, la, lb, by go_num, by omega, by omega, HR.out⟩, by simp [intOf]; omega⟩
      · have dy0 : decide (y < 0) = true := by simp; omega
        go_wp2
        exact ⟨⟨i + 1, M, la, lb, by go_num, by omega, by omega, HR.out⟩, by simp [intOf]; omega⟩
    · have hnl4 : ls.length ≤ i := by omega
      have hnl5 : ¬ (i : Int) < ls.length := by omega
      have hgg := fun j hj => hldB_zero HP.out (HR.out.ra.rg _ (iN_mem (l := la) (i := j) hj))
      obtain ⟨M2, T2, s2, r2, hs2, S2⟩ := scan_run (hd := fun _ => 0#64) HP.out (t := 0) (by omega) (by omega) (by omega) HR.out.h.mg HR.out.ra HR.out.fl (List.nodup_append.1 HR.out.nd).1 (fun _ _ h => by simp at h) HR.out.hz
      rw [scanP_none _ _ _ _ rfl hgg] at r2 S2
      rw [show (la.length : Int) - (([] : List Int).length : Int) = la.length by simp] at r2
      have HR2 := Lib.hid r2
      have HRA := Lib.hid S2.rt
      have HMG := Lib.hid S2.mg
      have HRB : Hid (RTs p M2 1 lb) := Lib.hid (HR.out.rb.of HP.out (by omega) (by omega) fun j a b => by
        have h12 := thr_two HP.out (show (0 : Int) < 1 by omega)
        obtain ⟨q1, q2, q3, q4, q5, q6⟩ := thr_pl HP.out (t := 1) (by omega) (by omega)
        exact S2.ot j (by omega) (by omega) (.inr (by omega)))
      clear hgg r2 S2
      have HH := Lib.hid HR.out.h
      have HIA := Lib.hid HR.out.ia
      have HIB := Lib.hid HR.out.ib
      obtain ⟨aa, ac, rfl⟩ := HR.out.ia.slice
      have hll := HR.out.rb.len
      go_wp2_with (go_at_call 17; refine (scan_PT p 0 2 _ HP.out).mono ?_; rintro e w2 ⟨v1, F1, rfl, hx2, hp1, hbn1, hsub1⟩; refine Hid.out ?_)
      refine Lib.hid ?_
      have HOF1 := Lib.hid (fun j (hj : F1 j) => (hsub1 j hj).elim (fun h => h.elim) fun h => (.inr (Nat.le_trans HH.out.m.top h) : j < lo ∨ hi ≤ j))
      have HH2 := Lib.hid (HH.out.ext hx2)
      have HP1 := Lib.hid hp1
      have HBN1 := Lib.hid hbn1
      have HIA2 := Lib.hid (HIA.out.ext hx2)
      have HIB2 := Lib.hid (HIB.out.ext hx2)
      clear hx2 hp1 hbn1 hsub1
      go_wp2_with (go_at_call 14; refine (cap_int HH2.out.m 0 1#64 (by omega) (by rw [HH2.out.mg.n]; omega) (Lib.hid HH2.out.mg.e)).mono ?_; rintro e w3 ⟨rfl, hx3⟩; refine Hid.out ?_)
      refine Lib.hid ?_
      have HH3 := Lib.hid (HH2.out.ext hx3)
      replace HP1 := Lib.hid (HP1.out.agr (Agr.of_ext hx3 HBN1.out))
      replace HBN1 := Lib.hid (HBN1.out.ext hx3.size)
      have HIA3 := Lib.hid (HIA2.out.ext hx3)
      have HIB3 := Lib.hid (HIB2.out.ext hx3)
      clear hx3
      go_wp2_with (go_at_call 12; refine (runI_any HR2.out 100000 (by omega) (by omega) F1 v1 w3 HP1.out HBN1.out HOF1.out HH3.out.m).mono ?_; rintro e w4 ⟨rfl, hm4, hf4⟩; refine Hid.out ?_)
      refine Lib.hid ?_
      have HI4 := Lib.hid (HH3.out.ran hm4 hf4 HMG.out (by omega) hlo1)
      have HIA4 := Lib.hid (HIA3.out.fr hf4 hhb)
      have HIB4 := Lib.hid (HIB3.out.fr hf4 hhb)
      clear hm4 hf4 HP1 HBN1 HOF1 HR HH HH2 HH3 HR2 HIA HIA2 HIA3 HIB HIB2 HIB3 c0 c1 c2 c3 c4 c5 lt
      have ⟨c0, c1, c2, c3, c4, c5, lt⟩ := HI4.out.pb.plc
      go_wp2_with (go_at_call 21; refine (rlist_any p HP.out 0 (by omega) (by omega) [] HMG.out HRA.out HI4.out.m).mono ?_; rintro e w5 ⟨v5, rfl, hv5, hx5⟩; refine Hid.out ?_)
      refine Lib.hid ?_
      obtain ⟨v5a, v5c, rfl⟩ := hv5.slice
      have HI5 := Lib.hid (HI4.out.ext hx5)
      have HIB5 := Lib.hid (HIB4.out.ext hx5)
      clear hv5 hx5 c0 c1 c2 c3 c4 c5 lt
      have ⟨c0, c1, c2, c3, c4, c5, lt⟩ := HI5.out.pb.plc
      go_wp2_with (go_at_call 21; refine (rlist_any p HP.out 1 (by omega) (by omega) lb HMG.out HRB.out HI5.out.m).mono ?_; rintro e w6 ⟨v6, rfl, hv6, hx6⟩; refine Hid.out ?_)
      refine Lib.hid ?_
      have HI6 := Lib.hid (HI5.out.ext hx6)
      have HIB6 := Lib.hid (HIB5.out.ext hx6)
      have HV6 := Lib.hid hv6
      clear hv6 hx6 c0 c1 c2 c3 c4 c5 lt
      go_wp2_with (go_at_call 20; refine (rsame_yes lb _ _ _ (by omega) HV6.out.is HIB6.out.is).mono ?_; rintro e w7 ⟨rfl, hx7⟩; have HX7 := Lib.hid (ext_trans HI6.out.ex hx7); clear hx7)
      go_ret
      exact Ret.bool (by first | rfl | simp) HX7.out
end Go.Proofs.YtlapcocljjgjlaaGreat
