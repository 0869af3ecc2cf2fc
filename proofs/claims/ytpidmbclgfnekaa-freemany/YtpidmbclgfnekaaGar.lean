/-
  What the laws' Laid comes to. Conditions: those of each theorem.
-/
import Derived.Test.YtpidmbclgfnekaaGaq
import Derived.ChangeArms
namespace Go.Proofs.Ytpidmbclgfnekaa
open Go Go.RowKit

/-- A memory of one region, with a list of all nodes. -/
def RetLaid (p : Pl) (w : World) (e : Ending) (w' : World) : Prop :=
  ∃ lo hi L M, e = .returned (.pointer (some ⟨L.bm, 0, none⟩)) ∧ MemIn lo hi L M w' ∧ FL p M (rfr p.n.toNat 0) 0 ∧ Ext w w' ∧ w.heap.size ≤ lo
/-- All words but the head and the nodes' NEXT are 0. -/
def Zer (p : Pl) (M : MS) : Prop := ∀ j, j ≠ 0 → (∀ m, InR p m → j ≠ nxN p m) → M.wd 0 j = 0#64
def RetLaidZ (p : Pl) (w : World) (e : Ending) (w' : World) : Prop :=
  ∃ lo hi L M, e = .returned (.pointer (some ⟨L.bm, 0, none⟩)) ∧ MemIn lo hi L M w' ∧ (FL p M (rfr p.n.toNat 0) 0 ∧ Zer p M) ∧ Ext w w' ∧ w.heap.size ≤ lo
theorem fresh_keep {p : Pl} (hp : p.ok) : ∀ (k : Nat) (n : Int) (M M' : MS) (s : Nat) (t : Tr Unit), 0 ≤ n → n + k = p.n → runT 0 1#64 (k + 1) (freshT p k n) M = some (M', s, t) → ∀ j, j ≠ 0 → (∀ m, InR p m → j ≠ nxN p m) → M'.wd 0 j = M.wd 0 j
  | 0, n, M, M', s, t, h0, h1, hr, j, hj0, hj => by
    replace hr : runT 0 1#64 1 (.ask (stA p.headF (putN 0 21 0#64 (nameW 0))) fun _ => .done ()) M = some (M', s, t) := hr
    rw [runT] at hr
    split at hr
    · simp only [runT, Option.map_some, Option.some.injEq, Prod.mk.injEq] at hr
      obtain ⟨rfl, _, _⟩ := hr
      show (M.done 0 1 p.headF _ _).wd 0 j = _
      rw [wd_store, if_neg]
      rw [head_zero hp]
      exact hj0
    · simp only [Option.some.injEq, Prod.mk.injEq] at hr
      rw [hr.1]
  | k + 1, n, M, M', s, t, h0, h1, hr, j, hj0, hj => by
    replace hr : runT 0 1#64 (k + 1 + 1) (.ask (stA (p.nxF n) (fnxW p n)) fun _ => freshT p k (n + 1)) M = some (M', s, t) := hr
    rw [runT] at hr
    split at hr
    · obtain ⟨x, hx, hy⟩ := Option.map_eq_some_iff.1 hr
      simp only [Prod.mk.injEq] at hy
      obtain ⟨rfl, _, rfl⟩ := hy
      have := fresh_keep hp k (n + 1) _ x.1 x.2.1 x.2.2 (by omega) (by omega) hx j hj0 hj
      rw [this]
      show (M.done 0 1 (p.nxF n) _ _).wd 0 j = _
      rw [wd_store, if_neg]
      exact hj n ⟨h0, by omega⟩
    · simp only [Option.some.injEq, Prod.mk.injEq] at hr
      rw [hr.1]
theorem size_ok {p : Pl} (hp : p.ok) : SizesOk [p.sizeF] := ⟨by simp, fun i hi => by
  obtain rfl : i = 0 := by simp at hi; omega
  have := size_pos hp
  simp [iN, sumTo]
  omega⟩
set_option maxRecDepth 8000 in
set_option maxHeartbeats 4000000 in
theorem laidZ_any (p : Pl) (hp : p.ok) (w : World) : Calls Try.prog 7 #[plV p] w (RetLaidZ p w) := by
  have hn1 : p.n ≤ 1048576 := hp.1.2
  have hn0 : 1 ≤ p.n := hp.1.1
  have e1 : wrap64 (p.n + 1) = p.n + 1 := by unfold wrap64; omega
  obtain ⟨M', hrun, hfl⟩ := fresh_FL hp (Mg.zero p)
  have HRUN := Lib.hid hrun
  have hzz : Zer p M' := by
    intro j hj0 hj
    rw [show (p.n + 1).toNat = p.n.toNat + 1 by omega] at hrun
    exact fresh_keep hp p.n.toNat 0 _ M' _ _ (by omega) (by omega) hrun j hj0 hj
  have HFL := Lib.hid (And.intro hfl hzz)
  clear hzz
  have HP := Lib.hid hp
  clear hrun hfl hp
  go_enter Try.func7, Try.ntmps7
  go_wp2_with (go_at_call 13; refine Hid.out ?_)
  refine Lib.hid ?_
  have hx0 : Ext w (w.alloc (.cells #[.int .i64 p.n, .int .i64 p.t, .int .i64 p.r, .int .i64 p.d, .int .i64 p.b, .int .i64 p.g] 23)) := ext_alloc _ (ext_refl w)
  refine (size_any p _).mono ?_
  rintro e w1 ⟨rfl, hx⟩
  have hb0 : PBox w.heap.size p w1 := (hx.block _ (by simp)).trans (heap_at w _ _ rfl)
  have hE := ext_trans hx0 hx
  clear hx hx0
  have hlt0 := heap_lt hb0
  replace hE := Lib.hid hE
  replace hb0 := Lib.hid hb0
  go_wp2_with (go_at_call 12; refine Hid.out ?_)
  refine Lib.hid ?_
  replace hE := hE.out
  replace hb0 := hb0.out
  refine (new_law [p.sizeF] _ 1 (ext_refl w1) rfl rfl (size_ok HP.out)).mono ?_
  rintro e w2 ⟨lo, hi, L, rfl, hM, hx, hlo⟩
  replace hE := ext_trans hE hx
  replace hb0 := hb0.ext hx
  have hM' : MemIn lo hi L (M0 [p.sizeF] 1) w2 := hM
  replace hM := hM'
  clear hx hM'
  have ⟨c0, c1, c2, c3, c4, c5, lt⟩ := hb0.plc
  have hhi := hM.top
  have hb0lo : w.heap.size < lo := by omega
  replace hE := Lib.hid hE
  replace hb0 := Lib.hid hb0
  replace hM := Lib.hid hM
  go_wp2
  refine wp_region_ways (fun x => ∃ s, x = off lo hi w2 s) (by kernel_rfl) (off_of ((Fr.refl lo hi w2).drew)) ?_
  refine ways_reads [0, 2, 3, 5, 6, 7] (by kernel_rfl) ?_
  simp only [pickL, List.map_cons, List.map_nil, List.getD_cons_zero, List.getD_cons_succ]
  repeat (go_big_quiet_step (fail))
  refine wpQuiet_nil ?_
  clear c0 c1 c2 c3 c4 c5 lt
  have HZ := Lib.hid ((Fr.refl lo hi w2).drew)
  have HM := Lib.hid (hM.out.drew)
  have HX := Lib.hid (ext_drew (ext_refl w2))
  have hsx : w2.heap.size ≤ w2.drew.heap.size := Nat.le_refl _
  have hEw := Lib.hid (ext_drew hE.out)
  generalize w2.drew = X at HZ HM HX hEw hsx ⊢
  refine ways_fork 13 (by kernel_rfl) ?_ (ways_act 1 (by kernel_rfl) ?_)
  · simp only [pickL, List.map_cons, List.map_nil, List.getD_cons_zero, List.getD_cons_succ]
    go_wp2
    replace HZ := Lib.hid (HZ.out.alloc (.cells #[] 53))
    replace HM := Lib.hid (HM.out.alloc (.cells #[] 53))
    replace HX := Lib.hid (ext_alloc (.cells #[] 53) HX.out)
    replace hEw := Lib.hid (ext_alloc (.cells #[] 53) hEw.out)
    have hbx := Lib.hid (heap_at X (.cells #[] 53) X.heap.size rfl)
    have hlx : w2.heap.size ≤ X.heap.size := hsx
    replace hsx : w2.heap.size ≤ (X.alloc (.cells #[] 53)).heap.size := by simp; omega
    refine mixQ_mk (off_of HZ.out) ?_
    generalize X.alloc (.cells #[] 53) = X2 at HZ HM hEw hbx hsx HX ⊢
    generalize X.heap.size = bx at hbx hlx ⊢
    refine ways_act 1 (by kernel_rfl) ?_
    simp only [pickL, List.map_cons, List.map_nil, List.getD_cons_zero, List.getD_cons_succ]
    go_wp2_with (go_at_call 15; refine (fresh_PT p (by omega) hn1 _).mono ?_; rintro e X1 ⟨v1, F1, rfl, hx, hp, hbn, hsub⟩; refine Hid.out ?_)
    refine Lib.hid ?_
    have hof : ∀ j, F1 j → j < lo ∨ hi ≤ j := fun j hj => (hsub j hj).elim (fun h => h.elim) fun h => .inr (by omega)
    have hp1 := Lib.hid hp
    have hbn1 := Lib.hid hbn
    have hof1 := Lib.hid hof
    replace HZ := Lib.hid (HZ.out.ext hx)
    replace HM := Lib.hid (HM.out.ext hx)
    replace HX := Lib.hid (ext_trans HX.out hx)
    replace hEw := Lib.hid (ext_trans hEw.out hx)
    replace hbx := Lib.hid ((hx.block _ (heap_lt hbx.out)).trans hbx.out)
    replace hsx := Nat.le_trans hsx hx.size
    clear hx hp hbn hsub hof
    go_wp2
    refine mixQ_mk (off_of HZ.out) ?_
    refine ways_act 4 (by kernel_rfl) ?_
    simp only [pickL, List.map_cons, List.map_nil, List.getD_cons_zero, List.getD_cons_succ]
    go_wp2_with (go_at_call 16; refine (cap_int HM.out 0 1#64 (by omega) (show (0 : Int) < ((1 : Nat) : Int) by omega) (Lib.hid rfl)).mono ?_; rintro e X3 ⟨rfl, hx⟩; refine Hid.out ?_)
    refine Lib.hid ?_
    replace HZ := Lib.hid (HZ.out.ext hx)
    replace HM := Lib.hid (HM.out.ext hx)
    replace HX := Lib.hid (ext_trans HX.out hx)
    replace hEw := Lib.hid (ext_trans hEw.out hx)
    replace hp1 := Lib.hid (hp1.out.agr (Agr.of_ext hx hbn1.out))
    replace hbn1 := Lib.hid (hbn1.out.ext hx.size)
    replace hbx := Lib.hid ((hx.block _ (heap_lt hbx.out)).trans hbx.out)
    replace hsx := Nat.le_trans hsx hx.size
    clear hx
    go_wp2
    refine mixQ_mk (off_of HZ.out) ?_
    refine ways_act 8 (by kernel_rfl) ?_
    simp only [pickL, List.map_cons, List.map_nil, List.getD_cons_zero, List.getD_cons_succ]
    go_wp2_with (go_at_call 14; refine (run_N (freshT p p.n.toNat 0) F1 _ 0 1#64 (p.n + 1) _ _ (by omega) HRUN.out hp1.out hbn1.out hof1.out HM.out).mono ?_; rintro e X4 ⟨rfl, hm, hf⟩; refine Hid.out ?_)
    refine Lib.hid ?_
    replace HZ := Lib.hid (HZ.out.trans hf)
    replace HM := Lib.hid hm
    replace hEw := Lib.hid (hf.below hEw.out (by omega))
    replace hbx := Lib.hid ((hf.block _ (heap_lt hbx.out) (.inr (by omega))).trans hbx.out)
    replace hsx := Nat.le_trans hsx hf.size
    clear hf hm hp1 hbn1 hof1 HX
    simp only [ans_N, ovT]
    go_wp2
    refine mixQ_mk (off_of HZ.out) ?_
    refine ways_reads [9, 10, 11, 12] (by kernel_rfl) ?_
    simp only [pickL, List.map_cons, List.map_nil, List.getD_cons_zero, List.getD_cons_succ]
    repeat (go_big_quiet_step (fail))
    refine wpQuiet_nil ?_
    refine ways_act 14 (by kernel_rfl) ?_
    simp only [pickL, List.map_cons, List.map_nil, List.getD_cons_zero, List.getD_cons_succ]
    have lbx := heap_lt hbx.out
    go_wp2
    refine mixQ_mk (off_of HZ.out) ?_
    refine ways_reads [15, 16] (by kernel_rfl) ?_
    simp only [pickL, List.map_cons, List.map_nil, List.getD_cons_zero, List.getD_cons_succ]
    repeat (go_big_quiet_step (fail))
    refine wpQuiet_nil ?_
    refine ways_end (by kernel_rfl) ?_
    go_wp2
    go_ret
    exact ⟨lo, hi, L, M', rfl, HM.out, HFL.out, hEw.out, by omega⟩
  · simp only [pickL, List.map_cons, List.map_nil, List.getD_cons_zero, List.getD_cons_succ]
    go_wp2_with (go_at_call 15; refine (fresh_PT p (by omega) hn1 _).mono ?_; rintro e X1 ⟨v1, F1, rfl, hx, hp, hbn, hsub⟩; refine Hid.out ?_)
    refine Lib.hid ?_
    have hof : ∀ j, F1 j → j < lo ∨ hi ≤ j := fun j hj => (hsub j hj).elim (fun h => h.elim) fun h => .inr (by omega)
    have hp1 := Lib.hid hp
    have hbn1 := Lib.hid hbn
    have hof1 := Lib.hid hof
    replace HZ := Lib.hid (HZ.out.ext hx)
    replace HM := Lib.hid (HM.out.ext hx)
    replace HX := Lib.hid (ext_trans HX.out hx)
    replace hEw := Lib.hid (ext_trans hEw.out hx)
    replace hsx := Nat.le_trans hsx hx.size
    clear hx hp hbn hsub hof
    go_wp2
    refine mixQ_mk (off_of HZ.out) ?_
    refine ways_fork 13 (by kernel_rfl) ?_ (ways_act 4 (by kernel_rfl) ?_)
    · simp only [pickL, List.map_cons, List.map_nil, List.getD_cons_zero, List.getD_cons_succ]
      go_wp2
      replace HZ := Lib.hid (HZ.out.alloc (.cells #[] 53))
      replace HM := Lib.hid (HM.out.alloc (.cells #[] 53))
      replace HX := Lib.hid (ext_alloc (.cells #[] 53) HX.out)
      replace hEw := Lib.hid (ext_alloc (.cells #[] 53) hEw.out)
      replace hp1 := Lib.hid (hp1.out.agr (Agr.of_ext (ext_alloc (.cells #[] 53) (ext_refl X1)) hbn1.out))
      replace hbn1 := Lib.hid (hbn1.out.ext (w' := X1.alloc (.cells #[] 53)) (by simp))
      have hbx := Lib.hid (heap_at X1 (.cells #[] 53) X1.heap.size rfl)
      have hlx : w2.heap.size ≤ X1.heap.size := hsx
      replace hsx : w2.heap.size ≤ (X1.alloc (.cells #[] 53)).heap.size := by simp; omega
      refine mixQ_mk (off_of HZ.out) ?_
      generalize X1.alloc (.cells #[] 53) = X2 at HZ HM hEw hbx hsx HX hp1 hbn1 ⊢
      generalize X1.heap.size = bx at hbx hlx ⊢
      refine ways_act 4 (by kernel_rfl) ?_
      simp only [pickL, List.map_cons, List.map_nil, List.getD_cons_zero, List.getD_cons_succ]
      go_wp2_with (go_at_call 16; refine (cap_int HM.out 0 1#64 (by omega) (show (0 : Int) < ((1 : Nat) : Int) by omega) (Lib.hid rfl)).mono ?_; rintro e X3 ⟨rfl, hx⟩; refine Hid.out ?_)
      refine Lib.hid ?_
      replace HZ := Lib.hid (HZ.out.ext hx)
      replace HM := Lib.hid (HM.out.ext hx)
      replace HX := Lib.hid (ext_trans HX.out hx)
      replace hEw := Lib.hid (ext_trans hEw.out hx)
      replace hp1 := Lib.hid (hp1.out.agr (Agr.of_ext hx hbn1.out))
      replace hbn1 := Lib.hid (hbn1.out.ext hx.size)
      replace hbx := Lib.hid ((hx.block _ (heap_lt hbx.out)).trans hbx.out)
      replace hsx := Nat.le_trans hsx hx.size
      clear hx
      go_wp2
      refine mixQ_mk (off_of HZ.out) ?_
      refine ways_act 8 (by kernel_rfl) ?_
      simp only [pickL, List.map_cons, List.map_nil, List.getD_cons_zero, List.getD_cons_succ]
      go_wp2_with (go_at_call 14; refine (run_N (freshT p p.n.toNat 0) F1 _ 0 1#64 (p.n + 1) _ _ (by omega) HRUN.out hp1.out hbn1.out hof1.out HM.out).mono ?_; rintro e X4 ⟨rfl, hm, hf⟩; refine Hid.out ?_)
      refine Lib.hid ?_
      replace HZ := Lib.hid (HZ.out.trans hf)
      replace HM := Lib.hid hm
      replace hEw := Lib.hid (hf.below hEw.out (by omega))
      replace hbx := Lib.hid ((hf.block _ (heap_lt hbx.out) (.inr (by omega))).trans hbx.out)
      replace hsx := Nat.le_trans hsx hf.size
      clear hf hm hp1 hbn1 hof1 HX
      simp only [ans_N, ovT]
      go_wp2
      refine mixQ_mk (off_of HZ.out) ?_
      refine ways_reads [9, 10, 11, 12] (by kernel_rfl) ?_
      simp only [pickL, List.map_cons, List.map_nil, List.getD_cons_zero, List.getD_cons_succ]
      repeat (go_big_quiet_step (fail))
      refine wpQuiet_nil ?_
      refine ways_act 14 (by kernel_rfl) ?_
      simp only [pickL, List.map_cons, List.map_nil, List.getD_cons_zero, List.getD_cons_succ]
      have lbx := heap_lt hbx.out
      go_wp2
      refine mixQ_mk (off_of HZ.out) ?_
      refine ways_reads [15, 16] (by kernel_rfl) ?_
      simp only [pickL, List.map_cons, List.map_nil, List.getD_cons_zero, List.getD_cons_succ]
      repeat (go_big_quiet_step (fail))
      refine wpQuiet_nil ?_
      refine ways_end (by kernel_rfl) ?_
      go_wp2
      go_ret
      exact ⟨lo, hi, L, M', rfl, HM.out, HFL.out, hEw.out, by omega⟩
    · simp only [pickL, List.map_cons, List.map_nil, List.getD_cons_zero, List.getD_cons_succ]
      go_wp2_with (go_at_call 16; refine (cap_int HM.out 0 1#64 (by omega) (show (0 : Int) < ((1 : Nat) : Int) by omega) (Lib.hid rfl)).mono ?_; rintro e X3 ⟨rfl, hx⟩; refine Hid.out ?_)
      refine Lib.hid ?_
      replace HZ := Lib.hid (HZ.out.ext hx)
      replace HM := Lib.hid (HM.out.ext hx)
      replace HX := Lib.hid (ext_trans HX.out hx)
      replace hEw := Lib.hid (ext_trans hEw.out hx)
      replace hp1 := Lib.hid (hp1.out.agr (Agr.of_ext hx hbn1.out))
      replace hbn1 := Lib.hid (hbn1.out.ext hx.size)
      replace hsx := Nat.le_trans hsx hx.size
      clear hx
      go_wp2
      refine mixQ_mk (off_of HZ.out) ?_
      refine ways_fork 13 (by kernel_rfl) ?_ (ways_act 8 (by kernel_rfl) ?_)
      · simp only [pickL, List.map_cons, List.map_nil, List.getD_cons_zero, List.getD_cons_succ]
        go_wp2
        replace HZ := Lib.hid (HZ.out.alloc (.cells #[] 53))
        replace HM := Lib.hid (HM.out.alloc (.cells #[] 53))
        replace HX := Lib.hid (ext_alloc (.cells #[] 53) HX.out)
        replace hEw := Lib.hid (ext_alloc (.cells #[] 53) hEw.out)
        replace hp1 := Lib.hid (hp1.out.agr (Agr.of_ext (ext_alloc (.cells #[] 53) (ext_refl X3)) hbn1.out))
        replace hbn1 := Lib.hid (hbn1.out.ext (w' := X3.alloc (.cells #[] 53)) (by simp))
        have hbx := Lib.hid (heap_at X3 (.cells #[] 53) X3.heap.size rfl)
        have hlx : w2.heap.size ≤ X3.heap.size := hsx
        replace hsx : w2.heap.size ≤ (X3.alloc (.cells #[] 53)).heap.size := by simp; omega
        refine mixQ_mk (off_of HZ.out) ?_
        generalize X3.alloc (.cells #[] 53) = X2 at HZ HM hEw hbx hsx HX hp1 hbn1 ⊢
        generalize X3.heap.size = bx at hbx hlx ⊢
        refine ways_act 8 (by kernel_rfl) ?_
        simp only [pickL, List.map_cons, List.map_nil, List.getD_cons_zero, List.getD_cons_succ]
        go_wp2_with (go_at_call 14; refine (run_N (freshT p p.n.toNat 0) F1 _ 0 1#64 (p.n + 1) _ _ (by omega) HRUN.out hp1.out hbn1.out hof1.out HM.out).mono ?_; rintro e X4 ⟨rfl, hm, hf⟩; refine Hid.out ?_)
        refine Lib.hid ?_
        replace HZ := Lib.hid (HZ.out.trans hf)
        replace HM := Lib.hid hm
        replace hEw := Lib.hid (hf.below hEw.out (by omega))
        replace hbx := Lib.hid ((hf.block _ (heap_lt hbx.out) (.inr (by omega))).trans hbx.out)
        replace hsx := Nat.le_trans hsx hf.size
        clear hf hm hp1 hbn1 hof1 HX
        simp only [ans_N, ovT]
        go_wp2
        refine mixQ_mk (off_of HZ.out) ?_
        refine ways_reads [9, 10, 11, 12] (by kernel_rfl) ?_
        simp only [pickL, List.map_cons, List.map_nil, List.getD_cons_zero, List.getD_cons_succ]
        repeat (go_big_quiet_step (fail))
        refine wpQuiet_nil ?_
        refine ways_act 14 (by kernel_rfl) ?_
        simp only [pickL, List.map_cons, List.map_nil, List.getD_cons_zero, List.getD_cons_succ]
        have lbx := heap_lt hbx.out
        go_wp2
        refine mixQ_mk (off_of HZ.out) ?_
        refine ways_reads [15, 16] (by kernel_rfl) ?_
        simp only [pickL, List.map_cons, List.map_nil, List.getD_cons_zero, List.getD_cons_succ]
        repeat (go_big_quiet_step (fail))
        refine wpQuiet_nil ?_
        refine ways_end (by kernel_rfl) ?_
        go_wp2
        go_ret
        exact ⟨lo, hi, L, M', rfl, HM.out, HFL.out, hEw.out, by omega⟩
      · simp only [pickL, List.map_cons, List.map_nil, List.getD_cons_zero, List.getD_cons_succ]
        go_wp2_with (go_at_call 14; refine (run_N (freshT p p.n.toNat 0) F1 _ 0 1#64 (p.n + 1) _ _ (by omega) HRUN.out hp1.out hbn1.out hof1.out HM.out).mono ?_; rintro e X4 ⟨rfl, hm, hf⟩; refine Hid.out ?_)
        refine Lib.hid ?_
        replace HZ := Lib.hid (HZ.out.trans hf)
        replace HM := Lib.hid hm
        replace hEw := Lib.hid (hf.below hEw.out (by omega))
        replace hsx := Nat.le_trans hsx hf.size
        clear hf hm hp1 hbn1 hof1 HX
        simp only [ans_N, ovT]
        go_wp2
        refine mixQ_mk (off_of HZ.out) ?_
        refine ways_reads [9, 10, 11, 12] (by kernel_rfl) ?_
        simp only [pickL, List.map_cons, List.map_nil, List.getD_cons_zero, List.getD_cons_succ]
        repeat (go_big_quiet_step (fail))
        refine wpQuiet_nil ?_
        refine ways_act 13 (by kernel_rfl) ?_
        simp only [pickL, List.map_cons, List.map_nil, List.getD_cons_zero, List.getD_cons_succ]
        go_wp2
        replace HZ := Lib.hid (HZ.out.alloc (.cells #[] 53))
        replace HM := Lib.hid (HM.out.alloc (.cells #[] 53))
        replace hEw := Lib.hid (ext_alloc (.cells #[] 53) hEw.out)
        have hbx := Lib.hid (heap_at X4 (.cells #[] 53) X4.heap.size rfl)
        have hlx : w2.heap.size ≤ X4.heap.size := hsx
        replace hsx : w2.heap.size ≤ (X4.alloc (.cells #[] 53)).heap.size := by simp; omega
        refine mixQ_mk (off_of HZ.out) ?_
        generalize X4.alloc (.cells #[] 53) = X2 at HZ HM hEw hbx hsx ⊢
        generalize X4.heap.size = bx at hbx hlx ⊢
        refine ways_act 14 (by kernel_rfl) ?_
        simp only [pickL, List.map_cons, List.map_nil, List.getD_cons_zero, List.getD_cons_succ]
        have lbx := heap_lt hbx.out
        go_wp2
        refine mixQ_mk (off_of HZ.out) ?_
        refine ways_reads [15, 16] (by kernel_rfl) ?_
        simp only [pickL, List.map_cons, List.map_nil, List.getD_cons_zero, List.getD_cons_succ]
        repeat (go_big_quiet_step (fail))
        refine wpQuiet_nil ?_
        refine ways_end (by kernel_rfl) ?_
        go_wp2
        go_ret
        exact ⟨lo, hi, L, M', rfl, HM.out, HFL.out, hEw.out, by omega⟩
theorem laid_any (p : Pl) (hp : p.ok) (w : World) : Calls Try.prog 7 #[plV p] w (RetLaid p w) :=
  (laidZ_any p hp w).mono fun _ _ ⟨lo, hi, L, M, h1, h2, h3, h4, h5⟩ => ⟨lo, hi, L, M, h1, h2, h3.1, h4, h5⟩
end Go.Proofs.Ytpidmbclgfnekaa

/-
  What the law's awake comes to; runs of Pop and Push, as calls. Conditions: those of each theorem.
-/
namespace Go.Proofs.Ytpidmbclgfnekaa
open Go Go.RowKit

theorem p2ok : Pl.ok ⟨2, 1, 4, 0, 1, 1⟩ := by unfold Pl.ok; decide
set_option maxRecDepth 8000 in
set_option maxHeartbeats 2000000 in
theorem fwake_any (w : World) : Calls Try.prog 4 #[] w (Ret (.bool true) w) := by
  have hL := fun W => laid_any ⟨2, 1, 4, 0, 1, 1⟩ p2ok W
  have HL := Lib.hid hL
  clear hL
  go_enter Try.func4, Try.ntmps4
  go_wp2_with (go_at_call 7; refine Hid.out ?_)
  refine Lib.hid ?_
  refine (HL.out _).mono ?_
  rintro e w1 ⟨lo, hi, L, M, rfl, hM, hF, hx, hlo⟩
  have hb0 : PBox w.heap.size ⟨2, 1, 4, 0, 1, 1⟩ w1 := (hx.block _ (by simp)).trans (heap_at w _ _ rfl)
  have ⟨c0, c1, c2, c3, c4, c5, lt⟩ := hb0.plc
  have HX := Lib.hid (ext_trans (ext_alloc _ (ext_refl w)) hx)
  have HM := Lib.hid hM
  have HF := Lib.hid hF
  clear hM hF hx hb0 hlo HL
  go_wp2_with (go_at_call 10; refine (flist_any ⟨2, 1, 4, 0, 1, 1⟩ p2ok _ _ HF.out HM.out).mono ?_; rintro e w2 ⟨v, rfl, hr, hx2⟩; refine Hid.out ?_)
  refine Lib.hid ?_
  obtain ⟨va, vc, rfl⟩ := hr.slice
  have hlen : (rfr (2 : Int).toNat 0).length = 2 := rfl
  rw [hlen]
  have HX2 := Lib.hid (ext_trans HX.out hx2)
  clear hr hx2
  go_wp2
  go_ret
  exact Ret.mk HX2.out

/-- What a Pop that is run alone comes to. -/
def PopSpec (l : List Int) (T : Nat) (r : Int) (k : Nat) (l' : List Int) (T' : Nat) : Prop := (l = [] ∧ r = -1 ∧ k = 1 ∧ l' = [] ∧ T' = T) ∨ (l = r :: l' ∧ k = 3 ∧ T' = T + 1)
def RetPop (p : Pl) (lo hi : Nat) (L : Lay) (M : MS) (l : List Int) (T : Nat) (w : World) (e : Ending) (w' : World) : Prop :=
  ∃ M' r k l' T', e = .returned (.tuple #[.int .i64 r, .int .i64 ((k : Nat) : Int), .bool true]) ∧ MemIn lo hi L M' w' ∧ Fr lo hi w w' ∧ FL p M' l' T' ∧ PopSpec l T r k l' T' ∧ Keeps p M T M' T' none
def RetPush (p : Pl) (lo hi : Nat) (L : Lay) (M : MS) (n : Int) (l : List Int) (T : Nat) (w : World) (e : Ending) (w' : World) : Prop :=
  ∃ M', e = .returned (.tuple #[.int .i64 n, .int .i64 3, .bool true]) ∧ MemIn lo hi L M' w' ∧ Fr lo hi w w' ∧ FL p M' (n :: l) (T + 1) ∧ Keeps p M T M' (T + 1) (some n)
end Go.Proofs.Ytpidmbclgfnekaa

/-
  Arguments that are slices of what holds slices, read leaf by leaf. No conditions.
-/
namespace Go.Proofs.Ytpidmbclgfnekaa
open Go Go.ChangeShapes Go.WideShapes Go.RowKit

/-- The type of the j-th cell, where that is a leaf of one cell. -/
def leafAt (P : Program) : Nat → TypeId → Nat → Option TypeId
  | 0, _, _ => none
  | f + 1, t, j => match P.underlying t with
    | some (.int _) => if j = 0 then some t else none
    | some .bool => if j = 0 then some t else none
    | some .string => if j = 0 then some t else none
    | some (.slice _) => if j = 0 then some t else none
    | some (.struct fs) => match fs.toList.find? fun x => decide (x.offset ≤ j) && decide (j < x.offset + P.cellsOf x.type) with
      | some x => leafAt P f x.type (j - x.offset)
      | none => none
    | _ => none

section
variable {H : Type} {enc : TypeId × Value → H} {P : Program} {w : World} {base : Nat} {held : Bool}
theorem leaf_trod : ∀ (f : Nat) {t e : TypeId} {j : Nat} {fuel : Nat} {cs : List Value} {x : DataW H × List MemPlace}, leafAt P f t j = some e → DataW.trod enc P w base (fun _ => true) held fuel t cs = some x →
    ∃ v fuel' y, cs[j]? = some v ∧ DataW.trod enc P w base (fun _ => true) held fuel' e [v] = some y
  | 0, t, e, j, fuel, cs, x, hk, h => by cases hk
  | f + 1, t, e, j, fuel, cs, x, hk, h => by
    unfold leafAt at hk
    split at hk
    · rename_i k' hu
      split at hk
      · rename_i hj
        obtain rfl : t = e := by simpa using hk
        subst hj
        obtain ⟨n, rfl, _, hw⟩ := DataW.trod_int hu h
        exact ⟨_, fuel, x, rfl, h⟩
      · cases hk
    · rename_i hu
      split at hk
      · rename_i hj
        obtain rfl : t = e := by simpa using hk
        subst hj
        obtain ⟨b, rfl, _⟩ := DataW.trod_bool hu h
        exact ⟨_, fuel, x, rfl, h⟩
      · cases hk
    · rename_i hu
      split at hk
      · rename_i hj
        obtain rfl : t = e := by simpa using hk
        subst hj
        obtain ⟨s, rfl, _⟩ := DataW.trod_string hu h
        exact ⟨_, fuel, x, rfl, h⟩
      · cases hk
    · rename_i e' hu
      split at hk
      · rename_i hj
        obtain rfl : t = e := by simpa using hk
        subst hj
        rcases Deep.open_slice hu h with ⟨rfl, _⟩ | ⟨a, len', cap', m, n, D, Pl, rfl, _⟩
        · exact ⟨_, fuel, x, rfl, h⟩
        · exact ⟨_, fuel, x, rfl, h⟩
      · cases hk
    · rename_i fs hu
      split at hk
      · rename_i y hy
        have hp := List.find?_some hy
        simp only [Bool.and_eq_true, decide_eq_true_eq] at hp
        obtain ⟨i, hi, hie⟩ := List.getElem_of_mem (List.mem_of_find?_eq_some hy)
        obtain ⟨xs, n', _, _, _, hxl, hfs⟩ := DataW.trod_struct hu h
        have hi' : i < fs.size := by simpa using hi
        have hf := hfs i y (by rw [← Array.getElem?_toList, List.getElem?_eq_getElem hi, hie])
        rw [List.getElem?_eq_getElem (by omega)] at hf
        obtain ⟨n, fuel', z, hn, hw⟩ := leaf_trod f hk hf
        refine ⟨n, fuel', z, ?_, hw⟩
        rw [List.getElem?_take] at hn
        split at hn
        · rw [List.getElem?_drop, show y.offset + (j - y.offset) = j by omega] at hn
          exact hn
        · cases hn
      · cases hk
    · cases hk

/-- The value v is a slice of n records of c leaves; x i j: the j-th of the i-th; its type T j reads there. -/
def Nv (enc : TypeId × Value → H) (P : Program) (base : Nat) (held : Bool) (c : Nat) (T : Nat → TypeId) (w : World) (v : Value) (n : Nat) (x : Nat → Nat → Value) : Prop :=
  ∃ a0 cap, v = .slice a0 n cap ∧ n ≤ cap ∧ (0 < n → ∃ b off, a0 = some ⟨b, off, none⟩ ∧ b < w.heap.size ∧
    ∀ i, i < n → ∀ j, j < c → w.cell? ⟨b, off + i * c + j, none⟩ = some (x i j) ∧ ∃ fuel y, DataW.trod enc P w base (fun _ => true) held fuel (T j) [x i j] = some y)
/-- A slice, of which one cell is known. -/
theorem nv_of_trod1 {t e : TypeId} {v : Value} {fuel : Nat} {y : DataW H × List MemPlace} (c : Nat) (T : Nat → TypeId) (ht : P.underlying t = some (.slice e)) (hc : P.cellsOf e = c) (hpos : 0 < c)
    (hk : ((List.range c).all fun j => decide (leafAt P 6 e j = some (T j))) = true) (hf : DataW.trod enc P w base (fun _ => true) held fuel t [v] = some y) : ∃ n x, Nv enc P base held c T w v n x := by
  have hk' : ∀ j, j < c → leafAt P 6 e j = some (T j) := fun j hj => of_decide_eq_true (List.all_eq_true.1 hk j (List.mem_range.2 hj))
  rcases Deep.open_slice ht hf with ⟨hcs, _⟩ | ⟨a, len, cap, m, n, D, Pl, hcs, _, hl, _, hmm, _, hi⟩
  · simp at hcs
    subst hcs
    exact ⟨0, fun _ _ => .bool false, none, 0, rfl, Nat.le_refl _, fun h => absurd h (Nat.not_lt_zero _)⟩
  · simp at hcs
    subst hcs
    simp at hmm
    have each : ∀ i j, ∃ u : Value, i < len → j < c → w.cell? ((a.add (i * c)).add j) = some u ∧ ∃ fuel y, DataW.trod enc P w base (fun _ => true) held fuel (T j) [u] = some y := fun i j => by
      by_cases hlt : i < len ∧ j < c
      · obtain ⟨cs', hcc, htr⟩ := hi i (by omega)
        rw [hc] at hcc
        obtain ⟨_, hcl, hat⟩ := World.cells?_some hcc
        obtain ⟨u, fuel', z, hy, hw⟩ := leaf_trod 6 (hk' j hlt.2) htr
        refine ⟨u, fun _ _ => ⟨?_, fuel', z, hw⟩⟩
        have h1 := hat j (by omega)
        rw [h1, hy]
      · exact ⟨.bool false, fun h1 h2 => absurd ⟨h1, h2⟩ hlt⟩
    obtain ⟨x, hg⟩ := Classical.axiomOfChoice fun i => Classical.axiomOfChoice (each i)
    by_cases hp : 0 < len
    · have h0 := (hg 0 0 hp hpos).1
      have ha : (a.add (0 * c)).add 0 = a := by unfold Addr.add; simp
      rw [ha] at h0
      have hsp := spot_none' h0
      refine ⟨len, x, some a, cap, rfl, hl, fun _ => ⟨a.block, a.off, by rw [← hsp], World.block_lt_of_cell? w a h0, fun i hi' j hj => ?_⟩⟩
      have h1 := hg i j hi' hj
      rw [hsp, add_at', add_at'] at h1
      exact h1
    · obtain rfl : len = 0 := by omega
      exact ⟨0, fun _ _ => .bool false, some a, cap, rfl, hl, fun h => absurd h (Nat.not_lt_zero _)⟩
theorem nv_of_trod {r : Reach} {b0 : Nat} {t e : TypeId} {v : Value} {d : DataW H} {p : List MemPlace} (c : Nat) (T : Nat → TypeId) (ht : P.underlying t = some (.slice e)) (hc : P.cellsOf e = c) (hpos : 0 < c)
    (hk : ((List.range c).all fun j => decide (leafAt P 6 e j = some (T j))) = true)
    (hv : Value.okWide P w r b0 t v) (h : DataW.Trod enc P w base (fun _ => true) held t v d p) : ∃ n x, Nv enc P base held c T w v n x := by
  obtain ⟨a0, len, cap, rfl⟩ := okWide_slice ht hv
  obtain ⟨fuel, hf⟩ := h
  exact nv_of_trod1 c T ht hc hpos hk (by simpa [Value.cells] using hf)
/-- A leaf that is an integer, a bool. -/
theorem leaf_int {t : TypeId} {k : IntKind} {u : Value} {fuel : Nat} {y : DataW H × List MemPlace} (ht : P.underlying t = some (.int k)) (h : DataW.trod enc P w base (fun _ => true) held fuel t [u] = some y) : ∃ n, u = .int k n ∧ (Lit.int k n).wf = true := by
  obtain ⟨n, hn, _, hw⟩ := DataW.trod_int ht h
  simp at hn
  exact ⟨n, hn, hw⟩
theorem leaf_bool {t : TypeId} {u : Value} {fuel : Nat} {y : DataW H × List MemPlace} (ht : P.underlying t = some .bool) (h : DataW.trod enc P w base (fun _ => true) held fuel t [u] = some y) : ∃ b, u = .bool b := by
  obtain ⟨b, hn, _⟩ := DataW.trod_bool ht h
  simp at hn
  exact ⟨b, hn⟩
/-- A slice of records of integers, of which all leaves are integers. -/
theorem rs_of_nv {c : Nat} {T : Nat → TypeId} {kd : Nat → IntKind} {v : Value} {n : Nat} {x : Nat → Nat → Value} (hT : ∀ j, j < c → P.underlying (T j) = some (.int (kd j))) (h : Nv enc P base held c T w v n x) : ∃ z, Rs c kd w v n z := by
  obtain ⟨a0, cap, e, hc, hr⟩ := h
  by_cases hp : 0 < n
  · obtain ⟨b, off, ea, hb, hcell⟩ := hr hp
    have each : ∀ i j, ∃ z : Int, i < n → j < c → x i j = .int (kd j) z ∧ (Lit.int (kd j) z).wf = true := fun i j => by
      by_cases hlt : i < n ∧ j < c
      · obtain ⟨_, fuel, y, hy⟩ := hcell i hlt.1 j hlt.2
        obtain ⟨z, hz, hw⟩ := leaf_int (hT j hlt.2) hy
        exact ⟨z, fun _ _ => ⟨hz, hw⟩⟩
      · exact ⟨0, fun h1 h2 => absurd ⟨h1, h2⟩ hlt⟩
    obtain ⟨z, hz⟩ := Classical.axiomOfChoice fun i => Classical.axiomOfChoice (each i)
    refine ⟨z, a0, cap, e, hc, fun _ => ⟨b, off, ea, hb, fun i hi j hj => ?_⟩⟩
    rw [(hcell i hi j hj).1, (hz i j hi hj).1]
    exact ⟨rfl, (hz i j hi hj).2⟩
  · exact ⟨fun _ _ => 0, a0, cap, e, hc, fun h => absurd h hp⟩
end
end Go.Proofs.Ytpidmbclgfnekaa

/-
  Slices of bools, read as lists, and the opening of such arguments. No conditions.
-/
namespace Go.Proofs.Ytpidmbclgfnekaa
open Go Go.ChangeShapes Go.WideShapes Go.RowKit

/-- A slice of bools. -/
def bN (l : List Bool) (i : Nat) : Bool := l.getD i false
def Bs (w : World) (v : Value) (l : List Bool) : Prop :=
  ∃ a0 cap, v = .slice a0 l.length cap ∧ l.length ≤ cap ∧ (0 < l.length → ∃ b off, a0 = some ⟨b, off, none⟩ ∧ b < w.heap.size ∧ ∀ i, i < l.length → w.cell? ⟨b, off + i, none⟩ = some (.bool (bN l i)))
theorem Bs.ext {w w' : World} {v : Value} {l : List Bool} (h : Bs w v l) (hb : Ext w w') : Bs w' v l := by
  obtain ⟨a0, cap, e, hc, hr⟩ := h
  refine ⟨a0, cap, e, hc, fun hl => ?_⟩
  obtain ⟨b, off, ea, hlt, hcell⟩ := hr hl
  exact ⟨b, off, ea, Nat.lt_of_lt_of_le hlt hb.size, fun i hi => ext_cell hb (hcell i hi)⟩
theorem Bs.at {w : World} {a0 : Option Addr} {n cap : Nat} {l : List Bool} (h : Bs w (.slice a0 n cap) l) {i : Nat} (hi : i < l.length) : ∃ b off, a0 = some ⟨b, off, none⟩ ∧ b < w.heap.size ∧ w.cell? ⟨b, off + i, none⟩ = some (.bool (bN l i)) := by
  obtain ⟨a, c, e, _, hr⟩ := h
  simp at e
  obtain ⟨rfl, rfl, rfl⟩ := e
  obtain ⟨b, off, e, hlt, hc⟩ := hr (by omega)
  exact ⟨b, off, e, hlt, hc i hi⟩
section
variable {H : Type} {enc : TypeId × Value → H} {P : Program} {w : World} {base : Nat} {held : Bool}
theorem bs_of_nv {v : Value} {n : Nat} {x : Nat → Nat → Value} {T : Nat → TypeId} (hT : P.underlying (T 0) = some .bool) (h : Nv enc P base held 1 T w v n x) : ∃ l, Bs w v l := by
  obtain ⟨a0, cap, e, hc, hr⟩ := h
  by_cases hp : 0 < n
  · obtain ⟨b, off, ea, hb, hcell⟩ := hr hp
    have each : ∀ i, ∃ z : Bool, i < n → x i 0 = .bool z := fun i => by
      by_cases hlt : i < n
      · obtain ⟨_, fuel, y, hy⟩ := hcell i hlt 0 (by omega)
        obtain ⟨z, hz⟩ := leaf_bool hT hy
        exact ⟨z, fun _ => hz⟩
      · exact ⟨false, fun h1 => absurd h1 hlt⟩
    obtain ⟨z, hz⟩ := Classical.axiomOfChoice each
    refine ⟨(List.range n).map z, a0, cap, by simpa using e, by simpa using hc, fun _ => ⟨b, off, ea, hb, fun i hi => ?_⟩⟩
    have hi' : i < n := by simpa using hi
    have h1 := (hcell i hi' 0 (by omega)).1
    rw [Nat.mul_one, Nat.add_zero, hz i hi'] at h1
    rw [h1]
    unfold bN
    rw [List.getD_eq_getElem?_getD, List.getElem?_map, List.getElem?_range hi']
    rfl
  · have : n = 0 := by omega
    subst this
    exact ⟨[], a0, cap, e, hc, fun h => absurd h (Nat.not_lt_zero _)⟩
theorem bs_of_trod {r : Reach} {b0 : Nat} {t e : TypeId} {v : Value} {d : DataW H} {p : List MemPlace} (ht : P.underlying t = some (.slice e)) (he : P.underlying e = some .bool) (hc : P.cellsOf e = 1)
    (hk : ((List.range 1).all fun j => decide (leafAt P 6 e j = some e)) = true) (hv : Value.okWide P w r b0 t v) (h : DataW.Trod enc P w base (fun _ => true) held t v d p) : ∃ l, Bs w v l := by
  obtain ⟨n, x, hn⟩ := nv_of_trod 1 (fun _ => e) ht hc (by omega) hk hv h
  exact bs_of_nv he hn
end
end Go.Proofs.Ytpidmbclgfnekaa

/-
  What stands, in the midst of a law of free: a memory with its list, and a row of the nodes that the law has popped. Conditions: those of each theorem.
-/
namespace Go.Proofs.Ytpidmbclgfnekaa
open Go Go.RowKit

/-- The memory, the list l with its tag T, the row v of the nodes mine, the plan's box; w0: the law's begin. -/
structure FIn (p : Pl) (lo hi : Nat) (L : Lay) (base : Nat) (w0 : World) (M : MS) (l : List Int) (T : Nat) (mine : List Int) (v : Value) (wr : World) : Prop where
  m : MemIn lo hi L M wr
  fl : FL p M l T
  ir : IR base v mine wr
  ex : Ext w0 wr
  pb : PBox w0.heap.size p wr
  ap : (mine ++ l).Nodup
  rg : ∀ n ∈ mine, InR p n
  ln : mine.length + l.length = p.n.toNat
  bs : base ≤ wr.heap.size
section
variable {p : Pl} {lo hi : Nat} {L : Lay} {base : Nat} {w0 : World} {M : MS} {l : List Int} {T : Nat} {mine : List Int} {v : Value} {wr wr' : World}
theorem FIn.ext (h : FIn p lo hi L base w0 M l T mine v wr) (hx : Ext wr wr') : FIn p lo hi L base w0 M l T mine v wr' :=
  ⟨h.m.ext hx, h.fl, h.ir.ext hx, ext_trans h.ex hx, h.pb.ext hx, h.ap, h.rg, h.ln, Nat.le_trans h.bs hx.size⟩
theorem FIn.start (hM : MemIn lo hi L M wr) (hF : FL p M (rfr p.n.toNat 0) 0) (hx : Ext w0 wr) (hb : PBox w0.heap.size p wr) : FIn p lo hi L wr.heap.size w0 M (rfr p.n.toNat 0) 0 [] (.slice none 0 0) wr :=
  ⟨hM, hF, IR.nil _ _, hx, hb, by simpa using rfr_nodup _ _, fun _ h => by simp at h, by simp [rfr_len], Nat.le_refl _⟩
theorem FIn.notin (h : FIn p lo hi L base w0 M l T mine v wr) {n : Int} (hn : n ∈ mine) : n ∉ l := fun hl => (List.nodup_append.1 h.ap).2.2 n hn n hl rfl
/-- Behind a run: the memory, the list, the tag are others. -/
theorem FIn.ran {M' : MS} (h : FIn p lo hi L base w0 M l T mine v wr) (hm : MemIn lo hi L M' wr') (hf : Fr lo hi wr wr') (h1 : w0.heap.size < lo) (h2 : hi ≤ base) :
    MemIn lo hi L M' wr' ∧ IR base v mine wr' ∧ Ext w0 wr' ∧ PBox w0.heap.size p wr' ∧ base ≤ wr'.heap.size :=
  ⟨hm, h.ir.fr hf h2, hf.below h.ex (by omega), (hf.block _ (heap_lt h.pb) (.inl h1)).trans h.pb, Nat.le_trans h.bs hf.size⟩
theorem FIn.none {M' : MS} (h : FIn p lo hi L base w0 M [] T mine v wr) (hm : MemIn lo hi L M' wr') (hf : Fr lo hi wr wr') (hF : FL p M' [] T) (h1 : w0.heap.size < lo) (h2 : hi ≤ base) : FIn p lo hi L base w0 M' [] T mine v wr' := by
  obtain ⟨a, b, c, d, e⟩ := h.ran hm hf h1 h2
  exact ⟨a, hF, b, c, d, h.ap, h.rg, h.ln, e⟩
/-- A node is popped, and put to the row. -/
theorem FIn.pop {M' : MS} {n : Int} {l' : List Int} {v' : Value} {wr'' : World} (h : FIn p lo hi L base w0 M (n :: l') T mine v wr) (hm : MemIn lo hi L M' wr') (hf : Fr lo hi wr wr') (hF : FL p M' l' (T + 1)) (h1 : w0.heap.size < lo) (h2 : hi ≤ base) (h3 : w0.heap.size < base)
    (hv : IR base v' (mine ++ [n]) wr'') (u : World) (hu : Ext wr' u) (hg : u.grownBy wr'' v.ownBlock) : FIn p lo hi L base w0 M' l' (T + 1) (mine ++ [n]) v' wr'' := by
  obtain ⟨a, b, c, d, e⟩ := h.ran hm hf h1 h2
  have b' := b.ext hu
  have d' := d.ext hu
  refine ⟨(a.ext hu).keep hg.size fun k _ hk => grown_at b' hg (Nat.lt_of_lt_of_le (Nat.lt_of_lt_of_le hk a.top) hu.size) (by omega), hF, hv, grown_ext (ext_trans c hu) b' hg (by omega), (grown_at b' hg (heap_lt d') h3).trans d', ?_, ?_, ?_, Nat.le_trans e (Nat.le_trans hu.size hg.size)⟩
  · have := h.ap
    rw [List.append_assoc]
    exact this
  · intro k hk
    rcases List.mem_append.1 hk with hk | hk
    · exact h.rg k hk
    · simp at hk
      subst hk
      exact h.fl.rg k (by simp)
  · have := h.ln
    simp at this ⊢
    omega
/-- The first one of the row is pushed; the last one. -/
theorem FIn.pushFirst {M' : MS} {n : Int} {rest : List Int} {v' : Value} (h : FIn p lo hi L base w0 M l T (n :: rest) v wr) (hm : MemIn lo hi L M' wr') (hf : Fr lo hi wr wr') (hF : FL p M' (n :: l) (T + 1)) (h1 : w0.heap.size < lo) (h2 : hi ≤ base) (hv : IR base v' rest wr') :
    FIn p lo hi L base w0 M' (n :: l) (T + 1) rest v' wr' := by
  obtain ⟨a, b, c, d, e⟩ := h.ran hm hf h1 h2
  refine ⟨a, hF, hv, c, d, ?_, fun k hk => h.rg k (by simp [hk]), ?_, e⟩
  · have := h.ap
    exact (List.perm_middle.nodup_iff).2 this
  · have := h.ln
    simp at this ⊢
    omega
theorem FIn.pushLast {M' : MS} {n : Int} {rest : List Int} {v' : Value} (h : FIn p lo hi L base w0 M l T (rest ++ [n]) v wr) (hm : MemIn lo hi L M' wr') (hf : Fr lo hi wr wr') (hF : FL p M' (n :: l) (T + 1)) (h1 : w0.heap.size < lo) (h2 : hi ≤ base) (hv : IR base v' rest wr') :
    FIn p lo hi L base w0 M' (n :: l) (T + 1) rest v' wr' := by
  obtain ⟨a, b, c, d, e⟩ := h.ran hm hf h1 h2
  refine ⟨a, hF, hv, c, d, ?_, fun k hk => h.rg k (by simp [hk]), ?_, e⟩
  · have := h.ap
    rw [List.append_assoc] at this
    exact this
  · have := h.ln
    simp at this ⊢
    omega
end
end Go.Proofs.Ytpidmbclgfnekaa

/-
  What the calls of the reference's Fresh, Pop, Push, Same and Has come to. Conditions: those of each theorem.
-/
namespace Go.Proofs.Ytpidmbclgfnekaa
open Go Go.RowKit

def RetI (l : List Int) (w : World) (e : Ending) (w' : World) : Prop := ∃ v, e = .returned v ∧ IR w.heap.size v l w' ∧ Ext w w'
def FrRel (n : Int) (w : World) (vo vi : Value) (wr : World) : Prop := ∃ (k : Nat), vi = .int .i64 (k : Int) ∧ (k : Int) ≤ n ∧ IR w.heap.size vo (rfr k 0) wr ∧ Ext w wr
theorem rfr_snoc : ∀ (k : Nat) (j : Int), rfr k j ++ [j + k] = rfr (k + 1) j
  | 0, j => by simp [rfr]
  | k + 1, j => by
    have := rfr_snoc k (j + 1)
    simp only [rfr, List.cons_append] at this ⊢
    rw [show j + ((k + 1 : Nat) : Int) = j + 1 + k by omega, this]
def SameRel (n : Nat) (w : World) (vi : Value) (wr : World) : Prop := ∃ (k : Nat), vi = .int .i64 (k : Int) ∧ k ≤ n ∧ Ext w wr
theorem mem_iN {l : List Int} {n : Int} : n ∈ l ↔ ∃ i, i < l.length ∧ iN l i = n := by
  constructor
  · intro h
    obtain ⟨i, hi, e⟩ := List.getElem_of_mem h
    exact ⟨i, hi, by simp [iN, List.getD_eq_getElem?_getD, hi, e]⟩
  · rintro ⟨i, hi, e⟩
    simp [iN, List.getD_eq_getElem?_getD, hi] at e
    rw [← e]
    exact List.getElem_mem hi
def HasRel (l : List Int) (n : Int) (w : World) (vi : Value) (wr : World) : Prop := ∃ (k : Nat), vi = .int .i64 (k : Int) ∧ k ≤ l.length ∧ (∀ i, i < k → iN l i ≠ n) ∧ wr = w
set_option maxRecDepth 8000 in
set_option maxHeartbeats 1000000 in
theorem rhas_any (l : List Int) (n : Int) (va : Value) (w : World) (r : Bool) (hr : Hid (r = true ↔ n ∈ l)) (hl : l.length ≤ 2000000) (ha : Is w va l) : Calls Try.prog 11 #[va, .int .i64 n] w (Ret (.bool r) w) := by
  have HA := Lib.hid ha
  obtain ⟨a0, ca, rfl, _, _⟩ := ha
  go_enter Try.func11, Try.ntmps11
  go_wp2
  go_loopw [5] (fun vi wr => HasRel l n w vi wr) (fun i _ => (l.length - intOf i).toNat)
  case atStart => exact ⟨0, rfl, Nat.zero_le _, fun i h => absurd h (Nat.not_lt_zero _), rfl⟩
  case round =>
    obtain ⟨k, rfl, hk, hno, rfl⟩ := hrel
    by_cases hlt : k < l.length
    · obtain ⟨b1, o1, rfl, hb1, hc1⟩ := HA.out.at (by omega)
      have d1 := hc1 k hlt
      have hlt' : (k : Int) < l.length := by omega
      clear hc1
      by_cases he : iN l k = n
      · have hrt : r = true := hr.out.2 (mem_iN.2 ⟨k, hlt, he⟩)
        rw [he] at d1
        subst hrt
        go_wp2
        go_ret
        exact Ret.mk (ext_refl _)
      · have HNO : Hid (∀ i, i < k + 1 → iN l i ≠ n) := Lib.hid fun i hi => by
          by_cases hik : i = k
          · subst hik; exact he
          · exact hno i (by omega)
        have he2 : (iN l k == n) = false := by simpa using he
        clear hno
        go_wp2
        exact ⟨⟨k + 1, by go_num, by omega, HNO.out, rfl⟩, by simp [intOf]; omega⟩
    · have hn : ¬ (k : Int) < l.length := by omega
      have hrf : r = false := by
        cases r with
        | false => rfl
        | true =>
          obtain ⟨i, hi, e⟩ := mem_iN.1 (hr.out.1 rfl)
          exact absurd e (hno i (by omega))
      subst hrf
      clear hno
      go_wp2
      go_ret
      exact Ret.mk (ext_refl _)
theorem own_of_row {w : World} {base : Nat} {x : Int} (g : Nat) (hg : g = w.heap.size) (h : base ≤ w.heap.size) : (w.alloc (.cells #[.int .i64 x] 3)).ownsRow base 3 1 (.slice (some ⟨g, 0, none⟩) 1 1) 1 [.int .i64 x] := by
  subst hg
  exact ⟨by simp, .inr ⟨w.heap.size, 1, _, rfl, h, heap_alloc_new w _, Nat.le_refl _, by unfold maxLen; omega, rfl, rfl⟩⟩
theorem infoI : ∃ i, Try.prog.info? 3 = some i ∧ i.zero = some (.int .i64 0) ∧ i.size = 1 ∧ i.bytes = 8 := by
  have h := Try.infoI64
  cases hi : Try.prog.info? 3 with
  | none => rw [hi] at h; cases h
  | some i =>
    rw [hi] at h
    simp at h
    exact ⟨i, rfl, h.1, h.2.1, h.2.2⟩
theorem newsI {w : World} {ad : Addr} {n c : Nat} {l : List Int} (h : Is w (.slice (some ad) n c) l) : ∀ j u, (l.map fun x => Value.int .i64 x)[j]? = some u → w.cell? (ad.add j) = some u := by
  intro j u hj
  have hlt : j < l.length := by
    have := (List.getElem?_eq_some_iff.1 hj).1
    simpa using this
  obtain ⟨b, off, ea, _, hc⟩ := h.at (by omega)
  cases ea
  rw [add_at', hc j hlt]
  rw [List.getElem?_map, List.getElem?_eq_getElem hlt] at hj
  simp at hj
  rw [← hj]
  simp [iN, List.getD_eq_getElem?_getD, hlt]
theorem onesI (l : List Int) : ∀ u ∈ (l.map fun x => Value.int .i64 x), u.oneCell' = true := by
  intro u hu
  obtain ⟨i, _, rfl⟩ := List.mem_map.1 hu
  rfl
def RetPopR (n : Int) (l : List Int) (w : World) (e : Ending) (w' : World) : Prop := ∃ v, e = .returned (.tuple #[.int .i64 n, v]) ∧ IR w.heap.size v l w' ∧ Ext w w'
theorem is_tail {w : World} {b off cap : Nat} {n : Int} {l : List Int} (h : Is w (.slice (some ⟨b, off, none⟩) (l.length + 1) cap) (n :: l)) (off' : Nat) (ho : off' = off + 1 ∨ (cap = 1 ∧ off' = off)) : Is w (.slice (some ⟨b, off', none⟩) l.length (cap - 1)) l := by
  obtain ⟨a0, c, e, hc, hr⟩ := h
  simp at e
  obtain ⟨rfl, rfl⟩ := e
  simp only [List.length_cons] at hc hr
  obtain ⟨b', o', e', hlt, hcell⟩ := hr (by omega)
  cases e'
  refine ⟨_, _, rfl, by omega, fun hp => ⟨b, off', rfl, hlt, fun i hi => ?_⟩⟩
  rcases ho with rfl | ⟨rfl, rfl⟩
  · rw [show off + 1 + i = off + (i + 1) by omega, hcell (i + 1) (by omega)]
    simp [iN]
  · omega
end Go.Proofs.Ytpidmbclgfnekaa

/-
  What the calls of Then come to (NU). Conditions: those of each theorem.
-/
namespace Go.Proofs.Ytpidmbclgfnekaa
open Go Go.RowKit

end Go.Proofs.Ytpidmbclgfnekaa

/-
  What the calls of Then come to (UU). Conditions: those of each theorem.
-/
namespace Go.Proofs.Ytpidmbclgfnekaa
open Go Go.RowKit

end Go.Proofs.Ytpidmbclgfnekaa
