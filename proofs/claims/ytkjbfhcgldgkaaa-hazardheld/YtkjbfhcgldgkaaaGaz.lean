/-
  The law HazardHeld, walked. Conditions: those of each theorem.
-/
import Derived.Test.YtkjbfhcgldgkaaaGay
import Derived.Deep.Cut
namespace Go.Proofs.Ytkjbfhcgldgkaaa
open Go Go.RowKit

/-- n words that stand in the block g. -/
def UW (g n : Nat) (f : Nat → BitVec 64) (w : World) : Prop := ∃ cs, w.heap[g]? = some (.cells cs 33 (0, 0)) ∧ n ≤ cs.size ∧ ∀ j, j < n → cs[j]? = some (.int .u64 (U (f j)))
theorem UW.ext {g n : Nat} {f : Nat → BitVec 64} {w w' : World} (h : UW g n f w) (hx : Ext w w') : UW g n f w' := by
  obtain ⟨cs, h1, h2⟩ := h
  exact ⟨cs, (hx.block _ (heap_lt h1)).trans h1, h2⟩
theorem UW.fr {g n lo hi : Nat} {f : Nat → BitVec 64} {w w' : World} (h : UW g n f w) (hx : Fr lo hi w w') (hg : hi ≤ g) : UW g n f w' := by
  obtain ⟨cs, h1, h2⟩ := h
  exact ⟨cs, (hx.block _ (heap_lt h1) (.inr hg)).trans h1, h2⟩
theorem UW.congr {g n : Nat} {f f' : Nat → BitVec 64} {w : World} (h : UW g n f w) (e : ∀ j, j < n → f' j = f j) : UW g n f' w := by
  obtain ⟨cs, h1, h2, h3⟩ := h
  exact ⟨cs, h1, h2, fun j hj => by rw [h3 j hj, e j hj]⟩
theorem UW.lt {g n : Nat} {f : Nat → BitVec 64} {w : World} (h : UW g n f w) : g < w.heap.size := by
  obtain ⟨cs, h1, _⟩ := h
  exact heap_lt h1
theorem UW.cell {g n : Nat} {f : Nat → BitVec 64} {w : World} (h : UW g n f w) {j : Nat} (hj : j < n) : w.cell? ⟨g, j, none⟩ = some (.int .u64 (U (f j))) := by
  obtain ⟨cs, h1, h2, h3⟩ := h
  exact cell_at h1 (h3 j hj)
theorem UW.free {g n : Nat} {f : Nat → BitVec 64} {w : World} (h : UW g n f w) (j : Nat) : w.frozen? ⟨g, j, none⟩ = false := by
  obtain ⟨cs, h1, h2, h3⟩ := h
  exact free_at h1
theorem UW.set {g n : Nat} {f : Nat → BitVec 64} {w : World} (h : UW g n f w) (q : Nat) (hq : q < n) (y : BitVec 64) : UW g n (fun j => if j = q then y else f j) (w.setCell ⟨g, q, none⟩ (.int .u64 (U y))) := by
  obtain ⟨cs, h1, h2, h3⟩ := h
  refine ⟨_, set_same (o := q) _ h1, by simpa using h2, fun j hj => ?_⟩
  by_cases e : j = q
  · subst e
    rw [Array.getElem?_setIfInBounds_self_of_lt (by omega)]
    simp
  · rw [Array.getElem?_setIfInBounds_ne (fun h => e h.symm), h3 j hj]
    simp [e]
theorem UW.us {g n : Nat} {f : Nat → BitVec 64} {w : World} (h : UW g n f w) : Us w (.slice (some ⟨g, 0, none⟩) n n) ((List.range n).map f) := by
  refine ⟨some ⟨g, 0, none⟩, n, by simp, by simp, fun _ => ⟨g, 0, rfl, h.lt, fun i hi => ?_⟩⟩
  have hi' : i < n := by simpa using hi
  rw [Nat.zero_add, h.cell hi']
  unfold uN
  rw [getD_range _ _ _ _ hi']
theorem made_words {w : World} {base g n : Nat} (h : w.ownsRow base 33 1 (.slice (some ⟨g, 0, none⟩) n n) n (madeCells (Value.int .u64 0).cells (n * 1)).toList) : UW g n (fun _ => 0#64) w := by
  rcases h.2 with ⟨h1, _⟩ | ⟨g', cap, cur, h1, _, hh, _, _, hs, ht⟩
  · cases h1
  · simp at h1
    obtain ⟨rfl, rfl⟩ := h1
    refine ⟨cur, hh, by omega, fun j hj => ?_⟩
    have e1 : (madeCells (Value.int .u64 0).cells n).toList = List.replicate n (Value.int .u64 0) := toList_madeCells_one _ _
    rw [Nat.mul_one, e1] at ht
    have h3 : (cur.toList.take n)[j]? = (List.replicate n (Value.int .u64 0))[j]? := by rw [ht]
    rw [List.getElem?_take, if_pos hj, List.getElem?_replicate, if_pos hj] at h3
    rw [← Array.getElem?_toList, h3, U_0]
theorem infoU : ∃ i, Try.prog.info? 33 = some i ∧ i.zero = some (.int .u64 0) ∧ i.size = 1 ∧ i.bytes = 8 := by
  have h : (Try.prog.info? 33).map (fun i => (i.zero, i.size, i.bytes)) = some (some (.int .u64 0), 1, 8) := by kernel_rfl
  cases hi : Try.prog.info? 33 with
  | none => rw [hi] at h; cases h
  | some i =>
    rw [hi] at h
    simp at h
    exact ⟨i, rfl, h.1, h.2.1, h.2.2⟩
theorem HIn.setG {p : Pl} {lo hi : Nat} {L : Lay} {B : Nat} {w0 : World} {M : MS} {wr : World} (h : HIn p lo hi L B w0 M wr) {g o : Nat} (x : Value) (hg : hi ≤ g) (hw : w0.heap.size ≤ g) (hB : B ≠ g) : HIn p lo hi L B w0 M (wr.setCell ⟨g, o, none⟩ x) :=
  ⟨h.m.setFar _ (.inr hg), h.mg, ext_set _ hw h.ex, (set_other _ hB).trans h.pb⟩
theorem refHeld {g N : Nat} {f : Nat → BitVec 64} {W : World} (n : Int) (hn0 : 0 ≤ n) (hn1 : n < 4611686018427387904) (hN : N ≤ 2000) (hU : UW g N f W) (b : Bool) (c : Nat) (hr : heldR f (nameW n) N 0 = (b, c)) :
    Calls Try.prog 24 #[.slice (some ⟨g, 0, none⟩) N N, .int .i64 n] W (Ret (.tuple #[.bool b, .int .i64 (c : Int)]) W) := by
  have h := rheld_any ((List.range N).map f) n hn0 hn1 _ W (by simpa using hN) hU.us
  have e : heldR (uN ((List.range N).map f)) (nameW n) ((List.range N).map f).length 0 = (b, c) := by
    rw [List.length_map, List.length_range, ← hr]
    exact heldR_congr _ _ fun j hj => by unfold uN; exact getD_range _ _ _ _ (by omega)
  rw [e] at h
  exact h
def HtRel (p : Pl) (lo hi : Nat) (L : Lay) (g N : Nat) (w : World) (M1 M2 : MS) (k : Int) (vi : Value) (wr : World) : Prop :=
  ∃ i : Nat, vi = .int .i64 (i : Int) ∧ (i : Int) ≤ k ∧ HIn p lo hi L w.heap.size w M2 wr ∧ UW g N (hzW p M1) wr
def HdRel (p : Pl) (lo hi : Nat) (L : Lay) (g N : Nat) (w : World) (m : Nat) (vi : Value) (wr : World) : Prop :=
  ∃ (i : Nat) (M : MS), vi = .int .i64 (i : Int) ∧ i ≤ m ∧ HIn p lo hi L w.heap.size w M wr ∧ UW g N (hzW p M) wr
set_option maxRecDepth 8000 in
set_option maxHeartbeats 1000000 in
theorem held_nofit (p : Pl) (n : Int) (a : Option Addr) (m c : Nat) (hm : m ≤ 30) (hf : ¬ FitsP p 0 0 n) (w : World) : Calls Try.prog 4 #[plV p, .slice a m c, .int .i64 n] w (Ret (.bool true) w) := by
  have HFT := Lib.hid hf
  clear hf
  have q2 : decide (30 < (m : Int)) = false := by simp; omega
  go_enter Try.func4, Try.ntmps4
  go_wp2_with (first
    | (go_at_call 17; refine (hwake_any _).mono ?_; rintro e w' hr; obtain ⟨rfl, sA, rfl⟩ := hr.over; clear hr)
    | (go_at_call 18; refine (fits_any p 0 0 n _ false (hid_no HFT.out)).mono ?_; rintro e w' hr; obtain ⟨rfl, sA, rfl⟩ := hr.over; clear hr))
  go_ret
  exact Ret.mk (by repeat (first | exact ext_refl _ | apply ext_over | apply ext_alloc))
set_option maxRecDepth 8000 in
set_option maxHeartbeats 1000000 in
theorem held_neg (p : Pl) (n : Int) (a : Option Addr) (m c : Nat) (hm : m ≤ 30) (hf : FitsP p 0 0 n) (hn : n < 0) (w : World) : Calls Try.prog 4 #[plV p, .slice a m c, .int .i64 n] w (Ret (.bool true) w) := by
  have HFT := Lib.hid hf
  clear hf
  have q2 : decide (30 < (m : Int)) = false := by simp; omega
  have q1 : decide (n < 0) = true := by simp; omega
  go_enter Try.func4, Try.ntmps4
  go_wp2_with (first
    | (go_at_call 17; refine (hwake_any _).mono ?_; rintro e w' hr; obtain ⟨rfl, sA, rfl⟩ := hr.over; clear hr)
    | (go_at_call 18; refine (fits_any p 0 0 n _ true (hid_yes HFT.out)).mono ?_; rintro e w' hr; obtain ⟨rfl, sA, rfl⟩ := hr.over; clear hr))
  go_ret
  exact Ret.mk (by repeat (first | exact ext_refl _ | apply ext_over | apply ext_alloc))
set_option maxRecDepth 8000 in
set_option maxHeartbeats 1000000 in
theorem held_long (p : Pl) (n : Int) (a : Option Addr) (m c : Nat) (hm : 30 < m) (w : World) : Calls Try.prog 4 #[plV p, .slice a m c, .int .i64 n] w (Ret (.bool true) w) := by
  have q2 : decide (30 < (m : Int)) = true := by simp; omega
  go_enter Try.func4, Try.ntmps4
  go_wp2_with (go_at_call 17; refine (hwake_any _).mono ?_; rintro e w' hr; obtain ⟨rfl, sA, rfl⟩ := hr.over; clear hr)
  go_ret
  exact Ret.mk (by repeat (first | exact ext_refl _ | apply ext_over | apply ext_alloc))
set_option maxRecDepth 8000 in
set_option maxHeartbeats 4000000 in
theorem held_yes (p : Pl) (n : Int) (hf : FitsP p 0 0 n) (hn : 0 ≤ n) (m : Nat) (x : Nat → Nat → Int) (v : Value) (w : World) (hX : Rs 3 (fun _ => .i64) w v m x) (hm : m ≤ 30) : Calls Try.prog 4 #[plV p, v, .int .i64 n] w (Ret (.bool true) w) := by
  have HFT := Lib.hid hf
  have HP := Lib.hid hf.2.1
  have HXX := Lib.hid hX
  have hnn : n < p.n := hf.2.2.2.2.2.2.2
  have hn1 : p.n < 4611686018427387904 := by have := hf.2.1.1; omega
  have hpt := HP.out.2.1
  obtain ⟨a0, cap, rfl, _, _⟩ := hX
  have q1 : decide (n < 0) = false := by simp; omega
  have q2 : decide (30 < (m : Int)) = false := by simp; omega
  obtain ⟨iU, hiU, hy0, hy1, hy2⟩ := infoU
  obtain ⟨N, hN⟩ : ∃ N : Nat, 3 * p.t = (N : Int) := ⟨(3 * p.t).toNat, by omega⟩
  clear hf
  go_enter Try.func4, Try.ntmps4
  go_wp2_with (first
    | (go_at_call 17; refine (hwake_any _).mono ?_; rintro e w' hr; obtain ⟨rfl, sA, rfl⟩ := hr.over; clear hr)
    | (go_at_call 18; refine (fits_any p 0 0 n _ true (hid_yes HFT.out)).mono ?_; rintro e w' hr; obtain ⟨rfl, sA, rfl⟩ := hr.over; clear hr)
    | (go_at_call 12; refine Hid.out ?_))
  refine Lib.hid ?_
  refine (laidZ_any p HP.out _).mono ?_
  rintro e w1 ⟨lo, hi, L, M, rfl, hM, hF, hx, hlo⟩
  have hx1 : Ext (w.alloc (.cells #[.int .i64 p.n, .int .i64 p.t, .int .i64 p.r, .int .i64 p.d, .int .i64 p.b, .int .i64 p.g] 23)) w1 := by
    refine ext_trans ?_ hx
    repeat (first | exact ext_refl _ | apply ext_over)
  have hlo1 : w.heap.size < lo := by
    refine Nat.lt_of_lt_of_le ?_ hlo
    refine Nat.lt_of_lt_of_le (m := (w.alloc (.cells #[.int .i64 p.n, .int .i64 p.t, .int .i64 p.r, .int .i64 p.d, .int .i64 p.b, .int .i64 p.g] 23)).heap.size) (by simp) ?_
    first | exact over_size _ _ | exact Nat.le_trans (over_size _ _) (over_size _ _) | exact Nat.le_trans (over_size _ _) (Nat.le_trans (over_size _ _) (over_size _ _))
  have hb0 : PBox w.heap.size p w1 := (hx1.block _ (by simp)).trans (heap_at w _ _ rfl)
  have hhi := hM.top
  have HI := Lib.hid (HIn.mk hM hF.1.mg (ext_trans (ext_alloc _ (ext_refl w)) hx1) hb0)
  have HZ := Lib.hid hF.2
  clear hM hF hx hx1 hlo hb0
  have ⟨c0, c1, c2, c3, c4, c5, lt⟩ := HI.out.pb.plc
  go_wp2_with (at_make; (refine wpList_make_full _ rfl (.tmp 46) (.tmp 46) 50 rfl w1.heap.size 33 iU (.int .u64 0) 1 Try.underlying50 hiU hy0 hy1 .i64 .i64 (N : Int) (N : Int) N rfl rfl (by omega) (by omega) (by rw [hy2]; omega) (by unfold maxLen; omega) (Nat.le_refl _) ?_); intro w2 ho2 hg2; have HX2 := Lib.hid (ext_grown00 (ext_refl w1) hg2); have HS2 := Lib.hid (made_words ho2); clear ho2 hg2)
  replace HI := Lib.hid (HI.out.ext HX2.out)
  obtain ⟨g, hg⟩ : ∃ b, Hid (w1.heap.size = b) := ⟨_, Lib.hid rfl⟩
  rw [hg.out] at HS2 hhi ⊢
  have hmi := HI.out.m.mIn
  have hgw : w.heap.size < g := by omega
  have HS : Hid (UW g N (hzW p M) w2) := Lib.hid (HS2.out.congr fun j hj => hz_zero HP.out HZ.out (by omega))
  replace hN := Lib.hid hN
  clear HX2 HS2 HZ c0 c1 c2 c3 c4 c5 lt hiU hy0 hy1 hy2
  have hhg : hi ≤ g := hhi
  go_wp2
  go_loopw [9] (fun vi wr => HdRel p lo hi L g N w m vi wr) (fun i _ => (m - intOf i).toNat)
  case atStart => exact ⟨0, M, rfl, Nat.zero_le _, HI.out, HS.out⟩
  case round =>
    obtain ⟨i, M, rfl, him, hR, hU⟩ := hrel
    have HR := Lib.hid hR
    have HU := Lib.hid hU
    have ⟨c0, c1, c2, c3, c4, c5, lt⟩ := hR.pb.plc
    have e2 := Lib.hid (h64 i (by omega))
    clear hR hU HI HS
    by_cases hlt : i < m
    · obtain ⟨bb, ofs, rfl, hbl, hcell⟩ := HXX.out.at (by omega)
      have d0 := (hcell i (by omega) 0 (by omega)).1
      have d1 := (hcell i (by omega) 1 (by omega)).1
      have d2 := (hcell i (by omega) 2 (by omega)).1
      have D0 := Lib.hid d0
      have D1 := Lib.hid d1
      have D2 := Lib.hid d2
      replace d0 := ext_cell HR.out.ex d0
      replace d1 := ext_cell HR.out.ex d1
      replace d2 := ext_cell HR.out.ex d2
      rw [Nat.add_zero] at d0
      have hbl2 := cell_lt d0
      have hbl3 : bb < lo := by omega
      have hlt' : (i : Int) < m := by omega
      clear hcell
      by_cases hft : FitsP p (x i 0) (x i 1) (x i 2)
      · have HF2 := Lib.hid hft
        obtain ⟨ta, hta⟩ : ∃ a : Nat, x i 0 = (a : Int) := ⟨(x i 0).toNat, by have := hft.2.2.1; omega⟩
        obtain ⟨sb, hsb⟩ : ∃ a : Nat, x i 1 = (a : Int) := ⟨(x i 1).toNat, by have := hft.2.2.2.2.1; omega⟩
        obtain ⟨nn, hnn2⟩ : ∃ a : Int, x i 2 = a := ⟨_, rfl⟩
        rw [hta, hsb, hnn2] at hft HF2
        rw [hta] at d0 D0
        rw [hsb] at d1 D1
        rw [hnn2] at d2 D2
        have hb1 := hft.2.2.2.1
        have hb3 := hft.2.2.2.2.2.1
        have hb4 := hft.2.2.2.2.2.2.1
        have hb5 := hft.2.2.2.2.2.2.2
        have hq : 3 * ta + sb < N := by have := hN.out; omega
        have hq2 : (3 * (ta : Int) + (sb : Int)).toNat = 3 * ta + sb := by omega
        have hnu := U_nameH (n := nn) hb4 (by omega)
        replace hnu := Lib.hid hnu
        clear hft hta hsb hnn2
        go_wp2
        refine wp_region_over (by kernel_rfl) (by kernel_rfl) ?_
        repeat (go_big_quiet_step (first | (go_at_call 18; exact over_call (fits_any p ta sb nn _ true (hid_yes HF2.out)))))
        refine wpQuiet_nil ?_
        intro _ hw'
        obtain ⟨s1, hw''⟩ := hw'
        subst hw''
        have hxo := over_below wr s1
        replace HR := Lib.hid (HR.out.ext hxo)
        replace HU := Lib.hid (HU.out.ext hxo)
        replace d0 := ext_cell hxo d0
        replace d1 := ext_cell hxo d1
        replace d2 := ext_cell hxo d2
        replace hbl2 := cell_lt d0
        clear hxo c0 c1 c2 c3 c4 c5 lt
        generalize over wr s1 = wq at HR HU d0 d1 d2 hbl2 ⊢
        have ⟨c0, c1, c2, c3, c4, c5, lt⟩ := HR.out.pb.plc
        go_upto_region 11 with (fail)
        refine wp_region_ways (fun x => ∃ s, x = off lo hi wq s) (by kernel_rfl) (off_of ((Fr.refl lo hi wq).drew)) ?_
        refine ways_reads [0, 1, 2, 3, 4, 5, 6, 7, 8, 9, 10, 11, 12, 13, 14, 15, 17, 18] (by kernel_rfl) ?_
        simp only [pickL, List.map_cons, List.map_nil, List.getD_cons_zero, List.getD_cons_succ]
        repeat (go_big_quiet_step (fail))
        refine wpQuiet_nil ?_
        have HZ := Lib.hid ((Fr.refl lo hi wq).drew)
        have HI := Lib.hid (HR.out.ext (ext_drew (ext_refl wq)))
        replace HU := Lib.hid (HU.out.ext (ext_drew (ext_refl wq)))
        have hsx : wq.heap.size ≤ wq.drew.heap.size := Nat.le_refl _
        have hwtop := HR.out.m.top
        clear HR c0 c1 c2 c3 c4 c5 lt
        generalize wq.drew = X at HZ HI hsx HU ⊢
        refine ways_fork 25 (by kernel_rfl) ?_ (ways_act 16 (by kernel_rfl) ?_)
        · simp only [pickL, List.map_cons, List.map_nil, List.getD_cons_zero, List.getD_cons_succ]
          go_wp2
          have hxa := ext_alloc (.cells #[] 54) (ext_refl X)
          replace HZ := Lib.hid (HZ.out.ext hxa)
          replace HI := Lib.hid (HI.out.ext hxa)
          replace HU := Lib.hid (HU.out.ext hxa)
          have hbx := Lib.hid (heap_at X (.cells #[] 54) X.heap.size rfl)
          have hlx : wq.heap.size ≤ X.heap.size := hsx
          replace hsx : wq.heap.size ≤ (X.alloc (.cells #[] 54)).heap.size := by simp; omega
          clear hxa
          refine mixQ_mk (off_of HZ.out) ?_
          generalize X.alloc (.cells #[] 54) = XA at HZ HI hbx hsx HU ⊢
          generalize X.heap.size = bx at hbx hlx ⊢
          refine ways_act 16 (by kernel_rfl) ?_
          simp only [pickL, List.map_cons, List.map_nil, List.getD_cons_zero, List.getD_cons_succ]
          go_wp2_with (go_at_call 20; refine (hset_PT p ta sb nn hb4 (by omega) _).mono ?_; rintro e XP ⟨v1, F1, rfl, hx, hp, hbn, hsub⟩; refine Hid.out ?_)
          refine Lib.hid ?_
          have HOF1 := Lib.hid (fun j (hj : F1 j) => (hsub j hj).elim (fun h => h.elim) fun h => (.inr (Nat.le_trans HI.out.m.top h) : j < lo ∨ hi ≤ j))
          have HP1 := Lib.hid hp
          have HBN1 := Lib.hid hbn
          replace HZ := Lib.hid (HZ.out.ext hx)
          replace HI := Lib.hid (HI.out.ext hx)
          replace HU := Lib.hid (HU.out.ext hx)
          replace hbx := Lib.hid ((hx.block _ (heap_lt hbx.out)).trans hbx.out)
          replace hsx := Nat.le_trans hsx hx.size
          clear hx hp hbn hsub
          go_wp2
          refine mixQ_mk (off_of HZ.out) ?_
          refine ways_act 19 (by kernel_rfl) ?_
          simp only [pickL, List.map_cons, List.map_nil, List.getD_cons_zero, List.getD_cons_succ]
          go_wp2_with (go_at_call 21; refine (cap_int HI.out.m 0 1#64 (by omega) (by rw [HI.out.mg.n]; omega) (Lib.hid HI.out.mg.e)).mono ?_; rintro e XC ⟨rfl, hx⟩; refine Hid.out ?_)
          refine Lib.hid ?_
          replace HZ := Lib.hid (HZ.out.ext hx)
          replace HI := Lib.hid (HI.out.ext hx)
          replace HU := Lib.hid (HU.out.ext hx)
          replace HP1 := Lib.hid (HP1.out.agr (Agr.of_ext hx HBN1.out))
          replace HBN1 := Lib.hid (HBN1.out.ext hx.size)
          replace hbx := Lib.hid ((hx.block _ (heap_lt hbx.out)).trans hbx.out)
          replace hsx := Nat.le_trans hsx hx.size
          clear hx
          go_wp2
          refine mixQ_mk (off_of HZ.out) ?_
          refine ways_act 20 (by kernel_rfl) ?_
          simp only [pickL, List.map_cons, List.map_nil, List.getD_cons_zero, List.getD_cons_succ]
          go_wp2_with (go_at_call 19; refine (runSetH p HP.out HI.out.mg ta sb (nameW nn) (by omega) hb1 (by omega) hb3 F1 v1 XC HP1.out HBN1.out HOF1.out HI.out.m).mono ?_; rintro e XR ⟨M1, rfl, hm, hf, hz4⟩; refine Hid.out ?_)
          refine Lib.hid ?_
          replace HZ := Lib.hid (HZ.out.trans hf)
          replace HU := Lib.hid (HU.out.fr hf hhg)
          replace HI := Lib.hid (HI.out.ran hm hf hz4.mg (by omega) hlo1)
          have HZ4 := Lib.hid hz4
          clear hz4
          replace hbx := Lib.hid ((hf.block _ (heap_lt hbx.out) (.inr (Nat.le_trans hwtop hlx))).trans hbx.out)
          replace hsx := Nat.le_trans hsx hf.size
          clear hf hm HP1 HBN1 HOF1
          go_wp2
          refine mixQ_mk (off_of HZ.out) ?_
          refine ways_reads [21, 22, 23, 24] (by kernel_rfl) ?_
          simp only [pickL, List.map_cons, List.map_nil, List.getD_cons_zero, List.getD_cons_succ]
          repeat (go_big_quiet_step (fail))
          refine wpQuiet_nil ?_
          refine ways_act 26 (by kernel_rfl) ?_
          simp only [pickL, List.map_cons, List.map_nil, List.getD_cons_zero, List.getD_cons_succ]
          have lbx := heap_lt hbx.out
          go_wp2
          refine mixQ_mk (off_of HZ.out) ?_
          refine ways_reads [27, 28] (by kernel_rfl) ?_
          simp only [pickL, List.map_cons, List.map_nil, List.getD_cons_zero, List.getD_cons_succ]
          repeat (go_big_quiet_step (fail))
          refine wpQuiet_nil ?_
          refine ways_end (by kernel_rfl) ?_
          clear hbx hlx lbx HZ hsx
          generalize XR = XE at HI HU ⊢
          clear d0 d1 d2 hbl2
          have d0 := ext_cell HI.out.ex D0.out
          have d1 := ext_cell HI.out.ex D1.out
          have d2 := ext_cell HI.out.ex D2.out
          rw [Nat.add_zero] at d0
          have hbl2 := cell_lt d0
          have hbg : bb ≠ g := by omega
          have hlb : ((ofs + i * 3 : Nat) : Int) = ofs + i * 3 := by omega
          clear hlb
          have hq3 : 3 * (ta : Int) + (sb : Int) < (N : Int) := by omega
          have e8 := (HU.out.ext (ext_drew (ext_refl XE))).cell hq
          have e9 := (HU.out.ext (ext_drew (ext_refl XE))).free (3 * ta + sb)
          have hgl := HU.out.lt
          have e11 := hnu.out
          go_wp2
          refine wp_region_mix (fun w' => ∃ s, w' = off1 g XE s) [(0, [0, 1, 2, 3, 4, 5, 6, 7, 8, 9, 10, 11, 12, 13, 14, 15, 16, 17, 18, 19, 20]), (1, [21])] (by kernel_rfl) (by kernel_rfl) (off1_of ((Fr.refl g (g + 1) XE).drew)) ?_
          simp only [pieces, pickL, List.map_cons, List.map_nil, List.getD_cons_zero, List.getD_cons_succ]
          refine mix_reads ?_
          repeat (go_big_quiet_step (fail))
          refine wpQuiet_nil (mix_acts ?_)
          have hus := (HU.out.ext (ext_drew (ext_refl XE))).set (3 * ta + sb) hq (nameW nn)
          rw [e11] at hus
          have HUS := Lib.hid (hus.congr (f' := hzW p M1) fun j hj => by rw [HZ4.out.hz j (by have := hN.out; omega), hq2])
          clear hus
          have HI5 := Lib.hid ((HI.out.ext (ext_drew (ext_refl XE))).setG (o := 3 * ta + sb) (.int .u64 (nn + 1)) hhg (by omega) (by omega))
          go_wp2
          refine mixQ_mk (off1_of ((Fr.refl g (g + 1) XE).drew.set _ (Nat.le_refl _) (Nat.lt_succ_self _))) (mix_end ?_)
          clear d0 d1 d2 hbl2 e8 e9 e11 hgl HI HU HZ4 hq hq2 hq3
          go_wp2
          exact ⟨⟨i + 1, M1, by first | exact congrArg _ e2.out | rfl, by omega, HI5.out, HUS.out⟩, by simp [intOf]; omega⟩
        · simp only [pickL, List.map_cons, List.map_nil, List.getD_cons_zero, List.getD_cons_succ]
          go_wp2_with (go_at_call 20; refine (hset_PT p ta sb nn hb4 (by omega) _).mono ?_; rintro e XP ⟨v1, F1, rfl, hx, hp, hbn, hsub⟩; refine Hid.out ?_)
          refine Lib.hid ?_
          have HOF1 := Lib.hid (fun j (hj : F1 j) => (hsub j hj).elim (fun h => h.elim) fun h => (.inr (Nat.le_trans HI.out.m.top h) : j < lo ∨ hi ≤ j))
          have HP1 := Lib.hid hp
          have HBN1 := Lib.hid hbn
          replace HZ := Lib.hid (HZ.out.ext hx)
          replace HI := Lib.hid (HI.out.ext hx)
          replace HU := Lib.hid (HU.out.ext hx)
          replace hsx := Nat.le_trans hsx hx.size
          clear hx hp hbn hsub
          go_wp2
          refine mixQ_mk (off_of HZ.out) ?_
          refine ways_fork 25 (by kernel_rfl) ?_ (ways_act 19 (by kernel_rfl) ?_)
          · simp only [pickL, List.map_cons, List.map_nil, List.getD_cons_zero, List.getD_cons_succ]
            go_wp2
            have hxa := ext_alloc (.cells #[] 54) (ext_refl XP)
            replace HZ := Lib.hid (HZ.out.ext hxa)
            replace HI := Lib.hid (HI.out.ext hxa)
            replace HU := Lib.hid (HU.out.ext hxa)
            replace HP1 := Lib.hid (HP1.out.agr (Agr.of_ext hxa HBN1.out))
            replace HBN1 := Lib.hid (HBN1.out.ext hxa.size)
            have hbx := Lib.hid (heap_at XP (.cells #[] 54) XP.heap.size rfl)
            have hlx : wq.heap.size ≤ XP.heap.size := hsx
            replace hsx : wq.heap.size ≤ (XP.alloc (.cells #[] 54)).heap.size := by simp; omega
            clear hxa
            refine mixQ_mk (off_of HZ.out) ?_
            generalize XP.alloc (.cells #[] 54) = XA at HZ HI hbx hsx HU HP1 HBN1 ⊢
            generalize XP.heap.size = bx at hbx hlx ⊢
            refine ways_act 19 (by kernel_rfl) ?_
            simp only [pickL, List.map_cons, List.map_nil, List.getD_cons_zero, List.getD_cons_succ]
            go_wp2_with (go_at_call 21; refine (cap_int HI.out.m 0 1#64 (by omega) (by rw [HI.out.mg.n]; omega) (Lib.hid HI.out.mg.e)).mono ?_; rintro e XC ⟨rfl, hx⟩; refine Hid.out ?_)
            refine Lib.hid ?_
            replace HZ := Lib.hid (HZ.out.ext hx)
            replace HI := Lib.hid (HI.out.ext hx)
            replace HU := Lib.hid (HU.out.ext hx)
            replace HP1 := Lib.hid (HP1.out.agr (Agr.of_ext hx HBN1.out))
            replace HBN1 := Lib.hid (HBN1.out.ext hx.size)
            replace hbx := Lib.hid ((hx.block _ (heap_lt hbx.out)).trans hbx.out)
            replace hsx := Nat.le_trans hsx hx.size
            clear hx
            go_wp2
            refine mixQ_mk (off_of HZ.out) ?_
            refine ways_act 20 (by kernel_rfl) ?_
            simp only [pickL, List.map_cons, List.map_nil, List.getD_cons_zero, List.getD_cons_succ]
            go_wp2_with (go_at_call 19; refine (runSetH p HP.out HI.out.mg ta sb (nameW nn) (by omega) hb1 (by omega) hb3 F1 v1 XC HP1.out HBN1.out HOF1.out HI.out.m).mono ?_; rintro e XR ⟨M1, rfl, hm, hf, hz4⟩; refine Hid.out ?_)
            refine Lib.hid ?_
            replace HZ := Lib.hid (HZ.out.trans hf)
            replace HU := Lib.hid (HU.out.fr hf hhg)
            replace HI := Lib.hid (HI.out.ran hm hf hz4.mg (by omega) hlo1)
            have HZ4 := Lib.hid hz4
            clear hz4
            replace hbx := Lib.hid ((hf.block _ (heap_lt hbx.out) (.inr (Nat.le_trans hwtop hlx))).trans hbx.out)
            replace hsx := Nat.le_trans hsx hf.size
            clear hf hm HP1 HBN1 HOF1
            go_wp2
            refine mixQ_mk (off_of HZ.out) ?_
            refine ways_reads [21, 22, 23, 24] (by kernel_rfl) ?_
            simp only [pickL, List.map_cons, List.map_nil, List.getD_cons_zero, List.getD_cons_succ]
            repeat (go_big_quiet_step (fail))
            refine wpQuiet_nil ?_
            refine ways_act 26 (by kernel_rfl) ?_
            simp only [pickL, List.map_cons, List.map_nil, List.getD_cons_zero, List.getD_cons_succ]
            have lbx := heap_lt hbx.out
            go_wp2
            refine mixQ_mk (off_of HZ.out) ?_
            refine ways_reads [27, 28] (by kernel_rfl) ?_
            simp only [pickL, List.map_cons, List.map_nil, List.getD_cons_zero, List.getD_cons_succ]
            repeat (go_big_quiet_step (fail))
            refine wpQuiet_nil ?_
            refine ways_end (by kernel_rfl) ?_
            clear hbx hlx lbx HZ hsx
            generalize XR = XE at HI HU ⊢
            clear d0 d1 d2 hbl2
            have d0 := ext_cell HI.out.ex D0.out
            have d1 := ext_cell HI.out.ex D1.out
            have d2 := ext_cell HI.out.ex D2.out
            rw [Nat.add_zero] at d0
            have hbl2 := cell_lt d0
            have hbg : bb ≠ g := by omega
            have hlb : ((ofs + i * 3 : Nat) : Int) = ofs + i * 3 := by omega
            clear hlb
            have hq3 : 3 * (ta : Int) + (sb : Int) < (N : Int) := by omega
            have e8 := (HU.out.ext (ext_drew (ext_refl XE))).cell hq
            have e9 := (HU.out.ext (ext_drew (ext_refl XE))).free (3 * ta + sb)
            have hgl := HU.out.lt
            have e11 := hnu.out
            go_wp2
            refine wp_region_mix (fun w' => ∃ s, w' = off1 g XE s) [(0, [0, 1, 2, 3, 4, 5, 6, 7, 8, 9, 10, 11, 12, 13, 14, 15, 16, 17, 18, 19, 20]), (1, [21])] (by kernel_rfl) (by kernel_rfl) (off1_of ((Fr.refl g (g + 1) XE).drew)) ?_
            simp only [pieces, pickL, List.map_cons, List.map_nil, List.getD_cons_zero, List.getD_cons_succ]
            refine mix_reads ?_
            repeat (go_big_quiet_step (fail))
            refine wpQuiet_nil (mix_acts ?_)
            have hus := (HU.out.ext (ext_drew (ext_refl XE))).set (3 * ta + sb) hq (nameW nn)
            rw [e11] at hus
            have HUS := Lib.hid (hus.congr (f' := hzW p M1) fun j hj => by rw [HZ4.out.hz j (by have := hN.out; omega), hq2])
            clear hus
            have HI5 := Lib.hid ((HI.out.ext (ext_drew (ext_refl XE))).setG (o := 3 * ta + sb) (.int .u64 (nn + 1)) hhg (by omega) (by omega))
            go_wp2
            refine mixQ_mk (off1_of ((Fr.refl g (g + 1) XE).drew.set _ (Nat.le_refl _) (Nat.lt_succ_self _))) (mix_end ?_)
            clear d0 d1 d2 hbl2 e8 e9 e11 hgl HI HU HZ4 hq hq2 hq3
            go_wp2
            exact ⟨⟨i + 1, M1, by first | exact congrArg _ e2.out | rfl, by omega, HI5.out, HUS.out⟩, by simp [intOf]; omega⟩
          · simp only [pickL, List.map_cons, List.map_nil, List.getD_cons_zero, List.getD_cons_succ]
            go_wp2_with (go_at_call 21; refine (cap_int HI.out.m 0 1#64 (by omega) (by rw [HI.out.mg.n]; omega) (Lib.hid HI.out.mg.e)).mono ?_; rintro e XC ⟨rfl, hx⟩; refine Hid.out ?_)
            refine Lib.hid ?_
            replace HZ := Lib.hid (HZ.out.ext hx)
            replace HI := Lib.hid (HI.out.ext hx)
            replace HU := Lib.hid (HU.out.ext hx)
            replace HP1 := Lib.hid (HP1.out.agr (Agr.of_ext hx HBN1.out))
            replace HBN1 := Lib.hid (HBN1.out.ext hx.size)
            replace hsx := Nat.le_trans hsx hx.size
            clear hx
            go_wp2
            refine mixQ_mk (off_of HZ.out) ?_
            refine ways_fork 25 (by kernel_rfl) ?_ (ways_act 20 (by kernel_rfl) ?_)
            · simp only [pickL, List.map_cons, List.map_nil, List.getD_cons_zero, List.getD_cons_succ]
              go_wp2
              have hxa := ext_alloc (.cells #[] 54) (ext_refl XC)
              replace HZ := Lib.hid (HZ.out.ext hxa)
              replace HI := Lib.hid (HI.out.ext hxa)
              replace HU := Lib.hid (HU.out.ext hxa)
              replace HP1 := Lib.hid (HP1.out.agr (Agr.of_ext hxa HBN1.out))
              replace HBN1 := Lib.hid (HBN1.out.ext hxa.size)
              have hbx := Lib.hid (heap_at XC (.cells #[] 54) XC.heap.size rfl)
              have hlx : wq.heap.size ≤ XC.heap.size := hsx
              replace hsx : wq.heap.size ≤ (XC.alloc (.cells #[] 54)).heap.size := by simp; omega
              clear hxa
              refine mixQ_mk (off_of HZ.out) ?_
              generalize XC.alloc (.cells #[] 54) = XA at HZ HI hbx hsx HU HP1 HBN1 ⊢
              generalize XC.heap.size = bx at hbx hlx ⊢
              refine ways_act 20 (by kernel_rfl) ?_
              simp only [pickL, List.map_cons, List.map_nil, List.getD_cons_zero, List.getD_cons_succ]
              go_wp2_with (go_at_call 19; refine (runSetH p HP.out HI.out.mg ta sb (nameW nn) (by omega) hb1 (by omega) hb3 F1 v1 XA HP1.out HBN1.out HOF1.out HI.out.m).mono ?_; rintro e XR ⟨M1, rfl, hm, hf, hz4⟩; refine Hid.out ?_)
              refine Lib.hid ?_
              replace HZ := Lib.hid (HZ.out.trans hf)
              replace HU := Lib.hid (HU.out.fr hf hhg)
              replace HI := Lib.hid (HI.out.ran hm hf hz4.mg (by omega) hlo1)
              have HZ4 := Lib.hid hz4
              clear hz4
              replace hbx := Lib.hid ((hf.block _ (heap_lt hbx.out) (.inr (Nat.le_trans hwtop hlx))).trans hbx.out)
              replace hsx := Nat.le_trans hsx hf.size
              clear hf hm HP1 HBN1 HOF1
              go_wp2
              refine mixQ_mk (off_of HZ.out) ?_
              refine ways_reads [21, 22, 23, 24] (by kernel_rfl) ?_
              simp only [pickL, List.map_cons, List.map_nil, List.getD_cons_zero, List.getD_cons_succ]
              repeat (go_big_quiet_step (fail))
              refine wpQuiet_nil ?_
              refine ways_act 26 (by kernel_rfl) ?_
              simp only [pickL, List.map_cons, List.map_nil, List.getD_cons_zero, List.getD_cons_succ]
              have lbx := heap_lt hbx.out
              go_wp2
              refine mixQ_mk (off_of HZ.out) ?_
              refine ways_reads [27, 28] (by kernel_rfl) ?_
              simp only [pickL, List.map_cons, List.map_nil, List.getD_cons_zero, List.getD_cons_succ]
              repeat (go_big_quiet_step (fail))
              refine wpQuiet_nil ?_
              refine ways_end (by kernel_rfl) ?_
              clear hbx hlx lbx HZ hsx
              generalize XR = XE at HI HU ⊢
              clear d0 d1 d2 hbl2
              have d0 := ext_cell HI.out.ex D0.out
              have d1 := ext_cell HI.out.ex D1.out
              have d2 := ext_cell HI.out.ex D2.out
              rw [Nat.add_zero] at d0
              have hbl2 := cell_lt d0
              have hbg : bb ≠ g := by omega
              have hlb : ((ofs + i * 3 : Nat) : Int) = ofs + i * 3 := by omega
              clear hlb
              have hq3 : 3 * (ta : Int) + (sb : Int) < (N : Int) := by omega
              have e8 := (HU.out.ext (ext_drew (ext_refl XE))).cell hq
              have e9 := (HU.out.ext (ext_drew (ext_refl XE))).free (3 * ta + sb)
              have hgl := HU.out.lt
              have e11 := hnu.out
              go_wp2
              refine wp_region_mix (fun w' => ∃ s, w' = off1 g XE s) [(0, [0, 1, 2, 3, 4, 5, 6, 7, 8, 9, 10, 11, 12, 13, 14, 15, 16, 17, 18, 19, 20]), (1, [21])] (by kernel_rfl) (by kernel_rfl) (off1_of ((Fr.refl g (g + 1) XE).drew)) ?_
              simp only [pieces, pickL, List.map_cons, List.map_nil, List.getD_cons_zero, List.getD_cons_succ]
              refine mix_reads ?_
              repeat (go_big_quiet_step (fail))
              refine wpQuiet_nil (mix_acts ?_)
              have hus := (HU.out.ext (ext_drew (ext_refl XE))).set (3 * ta + sb) hq (nameW nn)
              rw [e11] at hus
              have HUS := Lib.hid (hus.congr (f' := hzW p M1) fun j hj => by rw [HZ4.out.hz j (by have := hN.out; omega), hq2])
              clear hus
              have HI5 := Lib.hid ((HI.out.ext (ext_drew (ext_refl XE))).setG (o := 3 * ta + sb) (.int .u64 (nn + 1)) hhg (by omega) (by omega))
              go_wp2
              refine mixQ_mk (off1_of ((Fr.refl g (g + 1) XE).drew.set _ (Nat.le_refl _) (Nat.lt_succ_self _))) (mix_end ?_)
              clear d0 d1 d2 hbl2 e8 e9 e11 hgl HI HU HZ4 hq hq2 hq3
              go_wp2
              exact ⟨⟨i + 1, M1, by first | exact congrArg _ e2.out | rfl, by omega, HI5.out, HUS.out⟩, by simp [intOf]; omega⟩
            · simp only [pickL, List.map_cons, List.map_nil, List.getD_cons_zero, List.getD_cons_succ]
              go_wp2_with (go_at_call 19; refine (runSetH p HP.out HI.out.mg ta sb (nameW nn) (by omega) hb1 (by omega) hb3 F1 v1 XC HP1.out HBN1.out HOF1.out HI.out.m).mono ?_; rintro e XR ⟨M1, rfl, hm, hf, hz4⟩; refine Hid.out ?_)
              refine Lib.hid ?_
              replace HZ := Lib.hid (HZ.out.trans hf)
              replace HU := Lib.hid (HU.out.fr hf hhg)
              replace HI := Lib.hid (HI.out.ran hm hf hz4.mg (by omega) hlo1)
              have HZ4 := Lib.hid hz4
              clear hz4
              replace hsx := Nat.le_trans hsx hf.size
              clear hf hm HP1 HBN1 HOF1
              go_wp2
              refine mixQ_mk (off_of HZ.out) ?_
              refine ways_reads [21, 22, 23, 24] (by kernel_rfl) ?_
              simp only [pickL, List.map_cons, List.map_nil, List.getD_cons_zero, List.getD_cons_succ]
              repeat (go_big_quiet_step (fail))
              refine wpQuiet_nil ?_
              refine ways_act 25 (by kernel_rfl) ?_
              simp only [pickL, List.map_cons, List.map_nil, List.getD_cons_zero, List.getD_cons_succ]
              go_wp2
              have hxa := ext_alloc (.cells #[] 54) (ext_refl XR)
              replace HZ := Lib.hid (HZ.out.ext hxa)
              replace HI := Lib.hid (HI.out.ext hxa)
              replace HU := Lib.hid (HU.out.ext hxa)
              have hbx := Lib.hid (heap_at XR (.cells #[] 54) XR.heap.size rfl)
              have hlx : wq.heap.size ≤ XR.heap.size := hsx
              replace hsx : wq.heap.size ≤ (XR.alloc (.cells #[] 54)).heap.size := by simp; omega
              clear hxa
              refine mixQ_mk (off_of HZ.out) ?_
              generalize XR.alloc (.cells #[] 54) = XA at HZ HI hbx hsx HU ⊢
              generalize XR.heap.size = bx at hbx hlx ⊢
              refine ways_act 26 (by kernel_rfl) ?_
              simp only [pickL, List.map_cons, List.map_nil, List.getD_cons_zero, List.getD_cons_succ]
              have lbx := heap_lt hbx.out
              go_wp2
              refine mixQ_mk (off_of HZ.out) ?_
              refine ways_reads [27, 28] (by kernel_rfl) ?_
              simp only [pickL, List.map_cons, List.map_nil, List.getD_cons_zero, List.getD_cons_succ]
              repeat (go_big_quiet_step (fail))
              refine wpQuiet_nil ?_
              refine ways_end (by kernel_rfl) ?_
              clear hbx hlx lbx HZ hsx
              generalize XA = XE at HI HU ⊢
              clear d0 d1 d2 hbl2
              have d0 := ext_cell HI.out.ex D0.out
              have d1 := ext_cell HI.out.ex D1.out
              have d2 := ext_cell HI.out.ex D2.out
              rw [Nat.add_zero] at d0
              have hbl2 := cell_lt d0
              have hbg : bb ≠ g := by omega
              have hlb : ((ofs + i * 3 : Nat) : Int) = ofs + i * 3 := by omega
              clear hlb
              have hq3 : 3 * (ta : Int) + (sb : Int) < (N : Int) := by omega
              have e8 := (HU.out.ext (ext_drew (ext_refl XE))).cell hq
              have e9 := (HU.out.ext (ext_drew (ext_refl XE))).free (3 * ta + sb)
              have hgl := HU.out.lt
              have e11 := hnu.out
              go_wp2
              refine wp_region_mix (fun w' => ∃ s, w' = off1 g XE s) [(0, [0, 1, 2, 3, 4, 5, 6, 7, 8, 9, 10, 11, 12, 13, 14, 15, 16, 17, 18, 19, 20]), (1, [21])] (by kernel_rfl) (by kernel_rfl) (off1_of ((Fr.refl g (g + 1) XE).drew)) ?_
              simp only [pieces, pickL, List.map_cons, List.map_nil, List.getD_cons_zero, List.getD_cons_succ]
              refine mix_reads ?_
              repeat (go_big_quiet_step (fail))
              refine wpQuiet_nil (mix_acts ?_)
              have hus := (HU.out.ext (ext_drew (ext_refl XE))).set (3 * ta + sb) hq (nameW nn)
              rw [e11] at hus
              have HUS := Lib.hid (hus.congr (f' := hzW p M1) fun j hj => by rw [HZ4.out.hz j (by have := hN.out; omega), hq2])
              clear hus
              have HI5 := Lib.hid ((HI.out.ext (ext_drew (ext_refl XE))).setG (o := 3 * ta + sb) (.int .u64 (nn + 1)) hhg (by omega) (by omega))
              go_wp2
              refine mixQ_mk (off1_of ((Fr.refl g (g + 1) XE).drew.set _ (Nat.le_refl _) (Nat.lt_succ_self _))) (mix_end ?_)
              clear d0 d1 d2 hbl2 e8 e9 e11 hgl HI HU HZ4 hq hq2 hq3
              go_wp2
              exact ⟨⟨i + 1, M1, by first | exact congrArg _ e2.out | rfl, by omega, HI5.out, HUS.out⟩, by simp [intOf]; omega⟩
      · have HF2 := Lib.hid hft
        clear hft
        go_wp2
        refine wp_region_over (by kernel_rfl) (by kernel_rfl) ?_
        repeat (go_big_quiet_step (first | (go_at_call 18; exact over_call (fits_any p (x i 0) (x i 1) (x i 2) _ false (hid_no HF2.out)))))
        refine wpQuiet_nil ?_
        intro _ hw'
        obtain ⟨s1, hw''⟩ := hw'
        subst hw''
        have hxo := over_below wr s1
        replace HR := Lib.hid (HR.out.ext hxo)
        replace HU := Lib.hid (HU.out.ext hxo)
        clear hxo c0 c1 c2 c3 c4 c5 lt d0 d1 d2
        generalize over wr s1 = wq at HR HU ⊢
        go_wp2
        exact ⟨⟨i + 1, M, by first | exact congrArg _ e2.out | rfl, by omega, HR.out, HU.out⟩, by simp [intOf]; omega⟩
    · obtain rfl : i = m := by omega
      have hnlt : ¬ (i : Int) < i := by omega
      have hN48 : N ≤ 48 := by have := hN.out; omega
      go_wp2_with (go_at_call 23; refine (hheld_PT p HP.out n (by omega) _).mono ?_; rintro e w3 ⟨v1, F1, rfl, hx2, hp1, hbn1, hsub1⟩; refine Hid.out ?_)
      refine Lib.hid ?_
      have HOF1 := Lib.hid (fun j (hj : F1 j) => (hsub1 j hj).elim (fun h => h.elim) fun h => (.inr (Nat.le_trans HR.out.m.top h) : j < lo ∨ hi ≤ j))
      have HI2 := Lib.hid (HR.out.ext hx2)
      have HP1 := Lib.hid hp1
      have HBN1 := Lib.hid hbn1
      have HU2 := Lib.hid (HU.out.ext hx2)
      clear hx2 hp1 hbn1 hsub1
      go_wp2_with (go_at_call 21; refine (cap_int HI2.out.m 0 1#64 (by omega) (by rw [HI2.out.mg.n]; omega) (Lib.hid HI2.out.mg.e)).mono ?_; rintro e w4 ⟨rfl, hx3⟩; refine Hid.out ?_)
      refine Lib.hid ?_
      have HI3 := Lib.hid (HI2.out.ext hx3)
      replace HP1 := Lib.hid (HP1.out.agr (Agr.of_ext hx3 HBN1.out))
      replace HBN1 := Lib.hid (HBN1.out.ext hx3.size)
      have HU3 := Lib.hid (HU2.out.ext hx3)
      clear hx3
      go_wp2_with (go_at_call 22; refine (runHldH p HP.out HI3.out.mg n hn 200 (by omega) (by omega) F1 v1 w4 HP1.out HBN1.out HOF1.out HI3.out.m).mono ?_; rintro e w5 ⟨M1, b, c, rfl, hm4, hf4, hz4, hr4⟩; refine Hid.out ?_)
      refine Lib.hid ?_
      have HI4 := Lib.hid (HI3.out.ran hm4 hf4 hz4.1 (by omega) hlo1)
      have HU4 := Lib.hid ((HU3.out.fr hf4 hhg).congr (f' := hzW p M1) fun j _ => hz4.2 _)
      have hr5 : heldR (hzW p M1) (nameW n) N 0 = (b, c) := by
        rw [show N = (3 * p.t).toNat by have := hN.out; omega, ← hr4]
        exact heldR_congr _ _ fun j _ => hz4.2 _
      replace hr5 := Lib.hid hr5
      clear hm4 hf4 hz4 hr4 HP1 HBN1 HOF1 HI2 HI3 HU2 HU3 HR HU c0 c1 c2 c3 c4 c5 lt
      go_wp2_with (go_at_call 24; refine (refHeld n hn (by omega) (by omega) HU4.out b c hr5.out).mono ?_; rintro e w6 ⟨rfl, hx⟩; refine Hid.out ?_)
      refine Lib.hid ?_
      have HI6 := Lib.hid (HI4.out.ext hx)
      have HU6 := Lib.hid (HU4.out.ext hx)
      clear hx HI4 HU4 hr5
      have ⟨c0, c1, c2, c3, c4, c5, lt⟩ := HI6.out.pb.plc
      go_wp2_with (go_at_call 25; refine (hclear_PT p (p.t - 1) _).mono ?_; rintro e w7 ⟨v1, F1, rfl, hx2, hp1, hbn1, hsub1⟩; refine Hid.out ?_)
      refine Lib.hid ?_
      have HOF1 := Lib.hid (fun j (hj : F1 j) => (hsub1 j hj).elim (fun h => h.elim) fun h => (.inr (Nat.le_trans HI6.out.m.top h) : j < lo ∨ hi ≤ j))
      have HI7 := Lib.hid (HI6.out.ext hx2)
      have HP1 := Lib.hid hp1
      have HBN1 := Lib.hid hbn1
      have HU7 := Lib.hid (HU6.out.ext hx2)
      clear hx2 hp1 hbn1 hsub1
      go_wp2_with (go_at_call 21; refine (cap_int HI7.out.m 0 1#64 (by omega) (by rw [HI7.out.mg.n]; omega) (Lib.hid HI7.out.mg.e)).mono ?_; rintro e w8 ⟨rfl, hx3⟩; refine Hid.out ?_)
      refine Lib.hid ?_
      have HI8 := Lib.hid (HI7.out.ext hx3)
      replace HP1 := Lib.hid (HP1.out.agr (Agr.of_ext hx3 HBN1.out))
      replace HBN1 := Lib.hid (HBN1.out.ext hx3.size)
      have HU8 := Lib.hid (HU7.out.ext hx3)
      clear hx3
      go_wp2_with (go_at_call 19; refine (runClrH p HP.out HI8.out.mg (p.t - 1) (by omega) (by omega) F1 v1 w8 HP1.out HBN1.out HOF1.out HI8.out.m).mono ?_; rintro e w9 ⟨M2, rfl, hm4, hf4, hz9⟩; refine Hid.out ?_)
      refine Lib.hid ?_
      have HI9 := Lib.hid ((HI8.out.ran hm4 hf4 hz9.mg (by omega) hlo1).ext (ext_alloc (.cells #[] 54) (ext_refl w9)))
      have HU9 := Lib.hid ((HU8.out.fr hf4 hhg).ext (ext_alloc (.cells #[] 54) (ext_refl w9)))
      have HZ9 := Lib.hid hz9
      clear hm4 hf4 hz9 HP1 HBN1 HOF1 HI6 HI7 HI8 HU6 HU7 HU8 c0 c1 c2 c3 c4 c5 lt
      go_upto_region 18 with (fail)
      generalize w9.alloc (.cells #[] 54) = W9 at HI9 HU9 ⊢
      go_wp2
      go_loopw [21] (fun vi wr => HtRel p lo hi L g N w M1 M2 p.t vi wr) (fun t _ => (p.t - intOf t).toNat)
      case atStart => exact ⟨0, rfl, by omega, HI9.out, HU9.out⟩
      case round =>
        obtain ⟨t, rfl, htp, hR, hU⟩ := hrel
        have HR := Lib.hid hR
        have HU := Lib.hid hU
        have ⟨c0, c1, c2, c3, c4, c5, lt⟩ := hR.pb.plc
        have e3 := Lib.hid (h64 t (by omega))
        clear hR hU HI9 HU9
        by_cases htt : (t : Int) < p.t
        · go_wp2
          go_loopw [22] (fun vi wr => HtRel p lo hi L g N w M1 M2 3 vi wr) (fun t _ => (3 - intOf t).toNat)
          case atStart => exact ⟨0, rfl, by omega, HR.out, HU.out⟩
          case round =>
            obtain ⟨k, rfl, hk3, hR2, hU2⟩ := hrel
            have HR2 := Lib.hid hR2
            have HU2 := Lib.hid hU2
            have e4 := Lib.hid (h64 k (by omega))
            clear hR2 hU2 HR HU c0 c1 c2 c3 c4 c5 lt
            have ⟨c0, c1, c2, c3, c4, c5, lt⟩ := HR2.out.pb.plc
            by_cases hkk : (k : Int) < 3
            · obtain ⟨hp_, hhp⟩ : ∃ a, Hid (p.hazF t k = a) := ⟨_, Lib.hid rfl⟩
              have hrg := haz_rg HP.out (t := t) (s := k) (by omega) htt (by omega) hkk
              have hza := hzW_at HP.out M2 (t := t) (s := k) (by omega) htt (by omega) hkk
              rw [hhp.out] at hrg hza
              have hr0 : (0 : Int) < M2.n := by rw [HR2.out.mg.n]; omega
              have hr1 : hp_ < M2.sz (0 : Int).toNat := by show hp_ < (M2.sz 0 : Int); rw [HR2.out.mg.s]; omega
              have hr2 := hrg.1
              have hix : (3 * (t : Int) + (k : Int)).toNat = 3 * t + k := by omega
              have hq : 3 * t + k < N := by have := hN.out; omega
              have hq3 : 3 * (t : Int) + (k : Int) < (N : Int) := by omega
              have hz := HZ9.out.hz (3 * t + k) (by have := hN.out; omega)
              rw [hix] at hza
              obtain ⟨xv, hxv⟩ : ∃ y, Hid (U (M2.wd (0 : Int).toNat hp_.toNat) = y) := ⟨_, Lib.hid rfl⟩
              have hxv2 : U (hzW p M2 (3 * t + k)) = xv := by rw [← hza, ← hxv.out]; rfl
              clear hrg hza hix
              by_cases hl : (t : Int) = p.t - 1
              · have h1 : ((t : Int) == p.t - 1) = true := by simp [hl]
                have h2 : decide ((t : Int) < p.t - 1) = false := by simp; omega
                have h3 : ¬ (t : Int) < p.t - 1 := by omega
                have hx0 : xv = 0 := by rw [← hxv2, hz, if_pos (by omega), U_0]
                subst hx0
                replace hl := Lib.hid hl
                clear hz hxv2 hq hq3
                go_wp2_with (first
                  | (go_at_call 27; refine (hazard_is p t k _ hp_ hhp).mono ?_; rintro e wa ⟨rfl, hx⟩; have HRa := Lib.hid (HR2.out.ext hx); have HUa := Lib.hid (HU2.out.ext hx); clear hx)
                  | (go_at_call 26; refine (peek_int HRa.out.m 0 hp_ 0 (by omega) hr0 hr2 hr1 hxv).mono ?_; rintro e wb ⟨rfl, hx⟩; have HRb := Lib.hid (HRa.out.ext hx); have HUb := Lib.hid (HUa.out.ext hx); have d1 := HRb.out.pb.plc.c1; have dl := HRb.out.pb.plc.lt; clear hx))
                exact ⟨⟨k + 1, by first | exact congrArg _ e4.out | rfl, by omega, HRb.out, HUb.out⟩, by simp [intOf]; omega⟩
              · have h1 : ((t : Int) == p.t - 1) = false := by simpa using hl
                have h2 : decide ((t : Int) < p.t - 1) = true := by simp; omega
                have h3 : (t : Int) < p.t - 1 := by omega
                have hxw : U (hzW p M1 (3 * t + k)) = xv := by rw [← hxv2, hz, if_neg (by omega)]
                clear hz hxv2
                go_wp2_with (first
                  | (go_at_call 27; refine (hazard_is p t k _ hp_ hhp).mono ?_; rintro e wa ⟨rfl, hx⟩; have HRa := Lib.hid (HR2.out.ext hx); have HUa := Lib.hid (HU2.out.ext hx); clear hx)
                  | (go_at_call 26; refine (peek_int HRa.out.m 0 hp_ xv (by omega) hr0 hr2 hr1 hxv).mono ?_; rintro e wb ⟨rfl, hx⟩; have HRb := Lib.hid (HRa.out.ext hx); have HUb := Lib.hid (HUa.out.ext hx); have d1 := HRb.out.pb.plc.c1; have dl := HRb.out.pb.plc.lt; have d9 := HUb.out.cell hq; rw [hxw] at d9; have d8 := HUb.out.lt; clear hx))
                exact ⟨⟨k + 1, by first | exact congrArg _ e4.out | rfl, by omega, HRb.out, HUb.out⟩, by simp [intOf]; omega⟩
            · go_wp2
              exact ⟨⟨t + 1, by first | exact congrArg _ e3.out | rfl, by omega, HR2.out, HU2.out⟩, by simp [intOf]; omega⟩
        · go_wp2
          go_ret
          exact Ret.mk HR.out.ex
end Go.Proofs.Ytkjbfhcgldgkaaa
