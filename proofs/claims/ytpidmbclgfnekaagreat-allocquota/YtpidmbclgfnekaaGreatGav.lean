/-
  What the calls of Set and Clear come to. Conditions: those of each theorem.
-/
import Derived.Test.YtpidmbclgfnekaaGreatGau
namespace Go.Proofs.YtpidmbclgfnekaaGreat
open Go Go.RowKit

set_option maxRecDepth 8000 in
set_option maxHeartbeats 2000000 in
theorem hwordOf_any (n : Int) (h0 : -1 ≤ n) (h1 : n < 4611686018427387904) (w : World) : Calls Tryz.prog 83 #[.int .i64 n] w (Ret (.int .u64 (U (nameW n))) w) := by
  rw [U_nameH h0 h1]
  have e : IntKind.u64.wrap (IntKind.u64.wrap n + 1) = n + 1 := by
    show (n % 18446744073709551616 + 1) % 18446744073709551616 = n + 1
    omega
  go_enter Tryz.func83, Tryz.ntmps83
  go_wp2
  go_ret
  exact Ret.int (by first | exact e | rfl | omega | (simp; omega)) (by repeat (first | exact ext_refl _ | apply ext_alloc))
set_option maxRecDepth 8000 in
set_option maxHeartbeats 2000000 in
theorem hnames_any (x : BitVec 64) (n : Int) (h1 : n < 4611686018427387904) (b : Bool) (hb : Hid (nmB x n = b)) (w : World) : Calls Tryz.prog 193 #[.int .u64 (U x), .int .i64 n] w (Ret (.bool b) w) := by
  by_cases h0 : 0 ≤ n
  · have hw : (U x == U (nameW n)) = b := by
      rw [← hb.out]
      unfold nmB
      by_cases h : x = nameW n
      · simp [h, h0]
      · have : U x ≠ U (nameW n) := fun e => h (U_inj e)
        rw [beq_eq_false_iff_ne.2 this, beq_eq_false_iff_ne.2 h]
        simp
    clear hb
    go_enter Tryz.func193, Tryz.ntmps193
    go_wp2_with (go_at_call 83; refine (hwordOf_any n (by omega) h1 _).mono ?_; rintro e w1 ⟨rfl, hx⟩; have HX := Lib.hid hx; clear hx)
    go_ret
    exact Ret.bool (by first | exact hw | rfl) HX.out
  · have hw : b = false := by
      rw [← hb.out]
      unfold nmB
      simp [h0]
    subst hw
    clear hb
    go_enter Tryz.func193, Tryz.ntmps193
    go_wp2
    go_ret
    exact Ret.mk (by repeat (first | exact ext_refl _ | apply ext_alloc))
set_option maxRecDepth 8000 in
set_option maxHeartbeats 2000000 in
theorem hput_PT (p : Pl) (t s : Int) (x : BitVec 64) (w : World) : Calls Tryz.prog 82 #[plV p, .int .i64 t, .int .i64 s, .int .u64 (U x)] w (RetP (PT kN (setT (p.hazF t s) x)) noF w) := by
  go_enter Tryz.func82, Tryz.ntmps82
  go_wp2_with (go_at_call 128; refine Hid.out ?_)
  refine Lib.hid ?_
  have hE : Ext w ((w.alloc (.cells #[.int .i64 p.n, .int .i64 p.t, .int .i64 p.r, .int .i64 p.d, .int .i64 p.b, .int .i64 p.g] 23)).alloc (.cells #[.int .i64 0, .int .i64 0, .int .u64 0, .int .u64 0, .nilFunc, .pointer none] 87)) := by repeat (first | exact ext_refl _ | apply ext_alloc)
  have hb0 : ((w.alloc (.cells #[.int .i64 p.n, .int .i64 p.t, .int .i64 p.r, .int .i64 p.d, .int .i64 p.b, .int .i64 p.g] 23)).alloc (.cells #[.int .i64 0, .int .i64 0, .int .u64 0, .int .u64 0, .nilFunc, .pointer none] 87)).heap[w.heap.size]? = some (.cells #[.int .i64 p.n, .int .i64 p.t, .int .i64 p.r, .int .i64 p.d, .int .i64 p.b, .int .i64 p.g] 23) := (Below.heap_alloc _ _ _ (by simp <;> omega)).trans (heap_at _ _ _ (by simp))
  have hb1 : ((w.alloc (.cells #[.int .i64 p.n, .int .i64 p.t, .int .i64 p.r, .int .i64 p.d, .int .i64 p.b, .int .i64 p.g] 23)).alloc (.cells #[.int .i64 0, .int .i64 0, .int .u64 0, .int .u64 0, .nilFunc, .pointer none] 87)).heap[w.heap.size + 1]? = some (.cells #[.int .i64 0, .int .i64 0, .int .u64 0, .int .u64 0, .nilFunc, .pointer none] 87) := heap_at _ _ _ (by simp)
  have hW : ((w.alloc (.cells #[.int .i64 p.n, .int .i64 p.t, .int .i64 p.r, .int .i64 p.d, .int .i64 p.b, .int .i64 p.g] 23)).alloc (.cells #[.int .i64 0, .int .i64 0, .int .u64 0, .int .u64 0, .nilFunc, .pointer none] 87)).heap.size = w.heap.size + 1 + 1 := by simp
  generalize ((w.alloc (.cells #[.int .i64 p.n, .int .i64 p.t, .int .i64 p.r, .int .i64 p.d, .int .i64 p.b, .int .i64 p.g] 23)).alloc (.cells #[.int .i64 0, .int .i64 0, .int .u64 0, .int .u64 0, .nilFunc, .pointer none] 87)) = W at hE hb0 hb1 hW ⊢
  refine (hazard_any p t s W).mono ?_
  rintro e w1 ⟨rfl, hx⟩
  replace hE := ext_trans hE hx
  replace hb1 := (hx.block _ (heap_lt hb1)).trans hb1
  clear hx hW hb0
  replace hE := Lib.hid hE
  replace hb1 := Lib.hid hb1
  go_wp2_with (go_at_call 110; refine Hid.out ?_)
  refine Lib.hid ?_
  replace hE := hE.out
  replace hb1 := hb1.out
  refine (set_PT (p.hazF t s) x w1).mono ?_
  rintro e w' hR
  obtain ⟨v', F', rfl, hX, hp, hbn, hsub, hnF, hbq⟩ := hR.tail (G := noF) (w.heap.size + 1) hE (heap_lt hb1) (fun h => h) (fun _ h => h.elim)
  have hbx := hbq.trans hb1
  clear hbq hR
  clear hE hb1
  obtain ⟨a2, fn2, rfl, hfn⟩ := shN hp
  have hXX := put6_ext (b := w.heap.size + 1) (.int .i64 a2.op) (.int .i64 a2.at_) (.int .u64 (U a2.a)) (.int .u64 (U a2.b)) (fn2) (.pointer none) hX (by omega)
  have hB := put6_block (.int .i64 a2.op) (.int .i64 a2.at_) (.int .u64 (U a2.a)) (.int .u64 (U a2.b)) (fn2) (.pointer none) hbx
  have hP := hp.agr (Agr.of_put6 (b := w.heap.size + 1) (.int .i64 a2.op) (.int .i64 a2.at_) (.int .u64 (U a2.a)) (.int .u64 (U a2.b)) (fn2) (.pointer none) hnF)
  have hS : (put6 (w.heap.size + 1) (.int .i64 a2.op) (.int .i64 a2.at_) (.int .u64 (U a2.a)) (.int .u64 (U a2.b)) (fn2) (.pointer none) w').heap.size = w'.heap.size := put6_size (.int .i64 a2.op) (.int .i64 a2.at_) (.int .u64 (U a2.a)) (.int .u64 (U a2.b)) (fn2) (.pointer none)
  obtain ⟨c0, c1, c2, c3, c4, c5, cz, ll⟩ := six_of hbx
  rw [put6] at hXX hB hP hS
  have HX := Lib.hid (And.intro hXX (And.intro hB (And.intro hP hS)))
  have HFN := Lib.hid hfn
  have HBN := Lib.hid hbn
  have HSUB := Lib.hid hsub
  clear hXX hB hP hS hX hbx hp hfn hbn hsub hnF
  rcases HFN.out with rfl | ⟨g', caps', rfl⟩
  all_goals
    go_wp2
    clear c0 c1 c2 c3 c4 c5 cz ll
    obtain ⟨hX, hB, hP, hS⟩ := HX.out
    clear HX
    generalize (World.setCell _ (⟨w.heap.size + 1, 5, none⟩ : Addr) _) = Z at hX hB hP hS ⊢
    obtain ⟨c0, c1, c2, c3, c4, c5, cz, ll⟩ := six_of hB
    exact bodyPost_ret (by simp only [results, Tryz.results82, go_sem]; simp [go_sem, c0, c1, c2, c3, c4, c5]) rfl ⟨_, F', rfl, hX, hP, fun j hj => by rw [hS]; exact HBN.out j hj, HSUB.out⟩
set_option maxRecDepth 8000 in
set_option maxHeartbeats 2000000 in
theorem hset_PT (p : Pl) (t s n : Int) (h0 : -1 ≤ n) (h1 : n < 4611686018427387904) (w : World) : Calls Tryz.prog 30 #[plV p, .int .i64 t, .int .i64 s, .int .i64 n] w (RetP (PT kN (setT (p.hazF t s) (nameW n))) noF w) := by
  go_enter Tryz.func30, Tryz.ntmps30
  go_wp2
  have hE : Ext w ((w.alloc (.cells #[.int .i64 p.n, .int .i64 p.t, .int .i64 p.r, .int .i64 p.d, .int .i64 p.b, .int .i64 p.g] 23)).alloc (.cells #[.int .i64 0, .int .i64 0, .int .u64 0, .int .u64 0, .nilFunc, .pointer none] 87)) := by repeat (first | exact ext_refl _ | apply ext_alloc)
  have hb0 : ((w.alloc (.cells #[.int .i64 p.n, .int .i64 p.t, .int .i64 p.r, .int .i64 p.d, .int .i64 p.b, .int .i64 p.g] 23)).alloc (.cells #[.int .i64 0, .int .i64 0, .int .u64 0, .int .u64 0, .nilFunc, .pointer none] 87)).heap[w.heap.size]? = some (.cells #[.int .i64 p.n, .int .i64 p.t, .int .i64 p.r, .int .i64 p.d, .int .i64 p.b, .int .i64 p.g] 23) := (Below.heap_alloc _ _ _ (by simp <;> omega)).trans (heap_at _ _ _ (by simp))
  have hb1 : ((w.alloc (.cells #[.int .i64 p.n, .int .i64 p.t, .int .i64 p.r, .int .i64 p.d, .int .i64 p.b, .int .i64 p.g] 23)).alloc (.cells #[.int .i64 0, .int .i64 0, .int .u64 0, .int .u64 0, .nilFunc, .pointer none] 87)).heap[w.heap.size + 1]? = some (.cells #[.int .i64 0, .int .i64 0, .int .u64 0, .int .u64 0, .nilFunc, .pointer none] 87) := heap_at _ _ _ (by simp)
  have hW : ((w.alloc (.cells #[.int .i64 p.n, .int .i64 p.t, .int .i64 p.r, .int .i64 p.d, .int .i64 p.b, .int .i64 p.g] 23)).alloc (.cells #[.int .i64 0, .int .i64 0, .int .u64 0, .int .u64 0, .nilFunc, .pointer none] 87)).heap.size = w.heap.size + 1 + 1 := by simp
  generalize ((w.alloc (.cells #[.int .i64 p.n, .int .i64 p.t, .int .i64 p.r, .int .i64 p.d, .int .i64 p.b, .int .i64 p.g] 23)).alloc (.cells #[.int .i64 0, .int .i64 0, .int .u64 0, .int .u64 0, .nilFunc, .pointer none] 87)) = W at hE hb0 hb1 hW ⊢
  have ⟨c0, c1, c2, c3, c4, c5, lt⟩ := PBox.plc hb0
  replace hE := Lib.hid hE
  replace hb0 := Lib.hid hb0
  replace hb1 := Lib.hid hb1
  replace hW := Lib.hid hW
  refine wp_region_mix (fun w' => ∃ s, w' = over W s) [(0, [0, 1, 2, 3]), (1, [4]), (1, [5]), (2, [6])] (by kernel_rfl) (by kernel_rfl) (over_of (ext_drew (ext_refl W))) ?_
  simp only [pieces, pickL, List.map_cons, List.map_nil, List.getD_cons_zero, List.getD_cons_succ]
  refine mix_reads ?_
  repeat (go_big_quiet_step (fail))
  refine wpQuiet_nil (mix_acts ?_)
  have HX0 := Lib.hid (ext_drew (ext_refl W))
  go_wp2_with (go_at_call 83; refine (hwordOf_any n h0 h1 _).mono ?_; rintro e w1 ⟨rfl, hx⟩; have HX1 := Lib.hid (ext_trans HX0.out hx); clear hx)
  refine mixQ_mk (over_of HX1.out) (mix_acts ?_)
  go_wp2_with (go_at_call 82; refine Hid.out ?_)
  refine Lib.hid ?_
  replace hE := hE.out
  replace hb0 := hb0.out
  replace hb1 := hb1.out
  replace hW := hW.out
  have hE1 := ext_trans hE HX1.out
  have hb11 := (HX1.out.block _ (heap_lt hb1)).trans hb1
  refine (hput_PT p t s (nameW n) _).mono ?_
  rintro e w' hR
  have HXZ := Lib.hid (ext_trans HX1.out hR.ext)
  obtain ⟨v', F', rfl, hX, hp, hbn, hsub, hnF, hbq⟩ := hR.tail (G := noF) (w.heap.size + 1) hE1 (heap_lt hb11) (fun h => h) (fun _ h => h.elim)
  have hbx := hbq.trans hb11
  clear hbq hR
  go_wp2
  refine mixQ_mk (over_of HXZ.out) (mix_late ?_)
  clear hE hb0 hb1 hW c0 c1 c2 c3 c4 c5 lt hE1 hb11
  obtain ⟨a2, fn2, rfl, hfn⟩ := shN hp
  have hXX := put6_ext (b := w.heap.size + 1) (.int .i64 a2.op) (.int .i64 a2.at_) (.int .u64 (U a2.a)) (.int .u64 (U a2.b)) (fn2) (.pointer none) hX (by omega)
  have hB := put6_block (.int .i64 a2.op) (.int .i64 a2.at_) (.int .u64 (U a2.a)) (.int .u64 (U a2.b)) (fn2) (.pointer none) hbx
  have hP := hp.agr (Agr.of_put6 (b := w.heap.size + 1) (.int .i64 a2.op) (.int .i64 a2.at_) (.int .u64 (U a2.a)) (.int .u64 (U a2.b)) (fn2) (.pointer none) hnF)
  have hS : (put6 (w.heap.size + 1) (.int .i64 a2.op) (.int .i64 a2.at_) (.int .u64 (U a2.a)) (.int .u64 (U a2.b)) (fn2) (.pointer none) w').heap.size = w'.heap.size := put6_size (.int .i64 a2.op) (.int .i64 a2.at_) (.int .u64 (U a2.a)) (.int .u64 (U a2.b)) (fn2) (.pointer none)
  obtain ⟨c0, c1, c2, c3, c4, c5, cz, ll⟩ := six_of hbx
  rw [put6] at hXX hB hP hS
  have HX := Lib.hid (And.intro hXX (And.intro hB (And.intro hP hS)))
  have HFN := Lib.hid hfn
  have HBN := Lib.hid hbn
  have HSUB := Lib.hid hsub
  clear hXX hB hP hS hX hbx hp hfn hbn hsub hnF
  rcases HFN.out with rfl | ⟨g', caps', rfl⟩
  all_goals
    go_wp2
    refine lateQ_mk (fun _ => True) trivial (mix_end ?_)
    clear c0 c1 c2 c3 c4 c5 cz ll
    obtain ⟨hX, hB, hP, hS⟩ := HX.out
    clear HX
    generalize (World.setCell _ (⟨w.heap.size + 1, 5, none⟩ : Addr) _) = Z at hX hB hP hS ⊢
    obtain ⟨c0, c1, c2, c3, c4, c5, cz, ll⟩ := six_of hB
    go_wp2
    exact bodyPost_ret (by simp only [results, Tryz.results30, go_sem]; simp [go_sem, c0, c1, c2, c3, c4, c5]) rfl ⟨_, F', rfl, hX, hP, fun j hj => by rw [hS]; exact HBN.out j hj, HSUB.out⟩
set_option maxRecDepth 8000 in
set_option maxHeartbeats 2000000 in
theorem clr_end (p : Pl) (t : Int) (w : World) : Calls Tryz.prog 84 #[plV p, .int .i64 t, .int .i64 3] w (RetP (PT kN (clrT p t 0 3)) noF w) := by
  go_enter Tryz.func84, Tryz.ntmps84
  go_wp2_with (go_at_call 129; refine Hid.out ?_)
  refine Lib.hid ?_
  have hE : Ext w ((((w.alloc (.cells #[.int .i64 p.n, .int .i64 p.t, .int .i64 p.r, .int .i64 p.d, .int .i64 p.b, .int .i64 p.g] 23)).alloc (.cells #[.int .i64 t] 3)).alloc (.cells #[.int .i64 3] 3)).alloc (.cells #[.int .i64 0, .int .i64 0, .int .u64 0, .int .u64 0, .nilFunc, .pointer none] 87)) := by repeat (first | exact ext_refl _ | apply ext_alloc)
  have hb0 : ((((w.alloc (.cells #[.int .i64 p.n, .int .i64 p.t, .int .i64 p.r, .int .i64 p.d, .int .i64 p.b, .int .i64 p.g] 23)).alloc (.cells #[.int .i64 t] 3)).alloc (.cells #[.int .i64 3] 3)).alloc (.cells #[.int .i64 0, .int .i64 0, .int .u64 0, .int .u64 0, .nilFunc, .pointer none] 87)).heap[w.heap.size]? = some (.cells #[.int .i64 p.n, .int .i64 p.t, .int .i64 p.r, .int .i64 p.d, .int .i64 p.b, .int .i64 p.g] 23) := (Below.heap_alloc _ _ _ (by simp <;> omega)).trans ((Below.heap_alloc _ _ _ (by simp <;> omega)).trans ((Below.heap_alloc _ _ _ (by simp <;> omega)).trans (heap_at _ _ _ (by simp))))
  have hb1 : ((((w.alloc (.cells #[.int .i64 p.n, .int .i64 p.t, .int .i64 p.r, .int .i64 p.d, .int .i64 p.b, .int .i64 p.g] 23)).alloc (.cells #[.int .i64 t] 3)).alloc (.cells #[.int .i64 3] 3)).alloc (.cells #[.int .i64 0, .int .i64 0, .int .u64 0, .int .u64 0, .nilFunc, .pointer none] 87)).heap[w.heap.size + 1]? = some (.cells #[.int .i64 t] 3) := (Below.heap_alloc _ _ _ (by simp <;> omega)).trans ((Below.heap_alloc _ _ _ (by simp <;> omega)).trans (heap_at _ _ _ (by simp)))
  have hb2 : ((((w.alloc (.cells #[.int .i64 p.n, .int .i64 p.t, .int .i64 p.r, .int .i64 p.d, .int .i64 p.b, .int .i64 p.g] 23)).alloc (.cells #[.int .i64 t] 3)).alloc (.cells #[.int .i64 3] 3)).alloc (.cells #[.int .i64 0, .int .i64 0, .int .u64 0, .int .u64 0, .nilFunc, .pointer none] 87)).heap[w.heap.size + 1 + 1]? = some (.cells #[.int .i64 3] 3) := (Below.heap_alloc _ _ _ (by simp <;> omega)).trans (heap_at _ _ _ (by simp))
  have hb3 : ((((w.alloc (.cells #[.int .i64 p.n, .int .i64 p.t, .int .i64 p.r, .int .i64 p.d, .int .i64 p.b, .int .i64 p.g] 23)).alloc (.cells #[.int .i64 t] 3)).alloc (.cells #[.int .i64 3] 3)).alloc (.cells #[.int .i64 0, .int .i64 0, .int .u64 0, .int .u64 0, .nilFunc, .pointer none] 87)).heap[w.heap.size + 1 + 1 + 1]? = some (.cells #[.int .i64 0, .int .i64 0, .int .u64 0, .int .u64 0, .nilFunc, .pointer none] 87) := heap_at _ _ _ (by simp)
  have hW : ((((w.alloc (.cells #[.int .i64 p.n, .int .i64 p.t, .int .i64 p.r, .int .i64 p.d, .int .i64 p.b, .int .i64 p.g] 23)).alloc (.cells #[.int .i64 t] 3)).alloc (.cells #[.int .i64 3] 3)).alloc (.cells #[.int .i64 0, .int .i64 0, .int .u64 0, .int .u64 0, .nilFunc, .pointer none] 87)).heap.size = w.heap.size + 1 + 1 + 1 + 1 := by simp
  generalize ((((w.alloc (.cells #[.int .i64 p.n, .int .i64 p.t, .int .i64 p.r, .int .i64 p.d, .int .i64 p.b, .int .i64 p.g] 23)).alloc (.cells #[.int .i64 t] 3)).alloc (.cells #[.int .i64 3] 3)).alloc (.cells #[.int .i64 0, .int .i64 0, .int .u64 0, .int .u64 0, .nilFunc, .pointer none] 87)) = W at hE hb0 hb1 hb2 hb3 hW ⊢
  replace hW := Lib.hid hW
  refine (doneN_PT W).mono ?_
  rintro e w' hR
  obtain ⟨v', F', rfl, hX, hp, hbn, hsub, hnF, hbq⟩ := hR.tail (G := noF) (w.heap.size + 1 + 1 + 1) hE (heap_lt hb3) (fun h => h) (fun _ h => h.elim)
  have hbx := hbq.trans hb3
  clear hbq hR
  clear hE hb0 hb1 hb2 hb3 hW
  obtain ⟨a2, fn2, rfl, hfn⟩ := shN hp
  have hXX := put6_ext (b := w.heap.size + 1 + 1 + 1) (.int .i64 a2.op) (.int .i64 a2.at_) (.int .u64 (U a2.a)) (.int .u64 (U a2.b)) (fn2) (.pointer none) hX (by omega)
  have hB := put6_block (.int .i64 a2.op) (.int .i64 a2.at_) (.int .u64 (U a2.a)) (.int .u64 (U a2.b)) (fn2) (.pointer none) hbx
  have hP := hp.agr (Agr.of_put6 (b := w.heap.size + 1 + 1 + 1) (.int .i64 a2.op) (.int .i64 a2.at_) (.int .u64 (U a2.a)) (.int .u64 (U a2.b)) (fn2) (.pointer none) hnF)
  have hS : (put6 (w.heap.size + 1 + 1 + 1) (.int .i64 a2.op) (.int .i64 a2.at_) (.int .u64 (U a2.a)) (.int .u64 (U a2.b)) (fn2) (.pointer none) w').heap.size = w'.heap.size := put6_size (.int .i64 a2.op) (.int .i64 a2.at_) (.int .u64 (U a2.a)) (.int .u64 (U a2.b)) (fn2) (.pointer none)
  obtain ⟨c0, c1, c2, c3, c4, c5, cz, ll⟩ := six_of hbx
  rw [put6] at hXX hB hP hS
  have HX := Lib.hid (And.intro hXX (And.intro hB (And.intro hP hS)))
  have HFN := Lib.hid hfn
  have HBN := Lib.hid hbn
  have HSUB := Lib.hid hsub
  clear hXX hB hP hS hX hbx hp hfn hbn hsub hnF
  rcases HFN.out with rfl | ⟨g', caps', rfl⟩
  all_goals
    go_wp2
    clear c0 c1 c2 c3 c4 c5 cz ll
    obtain ⟨hX, hB, hP, hS⟩ := HX.out
    clear HX
    generalize (World.setCell _ (⟨w.heap.size + 1 + 1 + 1, 5, none⟩ : Addr) _) = Z at hX hB hP hS ⊢
    obtain ⟨c0, c1, c2, c3, c4, c5, cz, ll⟩ := six_of hB
    exact bodyPost_ret (by simp only [results, Tryz.results84, go_sem]; simp [go_sem, c0, c1, c2, c3, c4, c5]) rfl ⟨_, F', rfl, hX, hP, fun j hj => by rw [hS]; exact HBN.out j hj, HSUB.out⟩
set_option maxRecDepth 8000 in
set_option maxHeartbeats 2000000 in
theorem clr1_PT (p : Pl) (t s : Int) (tr : Tr Unit) (B1 B2 B3 : Nat) (w : World) (e2 : wrap64 (s + 1) = s + 1) (hB : PBox B1 p w) (k2 : w.heap[B2]? = some (.cells #[.int .i64 t] 3 (0, 0))) (k3 : w.heap[B3]? = some (.cells #[.int .i64 s] 3 (0, 0))) (hN : ∀ W, Calls Tryz.prog 84 #[plV p, .int .i64 t, .int .i64 (s + 1)] W (RetP (PT kN tr) noF W)) :
    Calls Tryz.prog 131 #[.agg #[], .pointer (some ⟨B1, 0, none⟩), .pointer (some ⟨B2, 0, none⟩), .pointer (some ⟨B3, 0, none⟩)] w (RetP (PT kN tr) noF w) := by
  have d2 := cell_at (o := 0) k2 rfl
  have l2 := cell_lt d2
  have d3 := cell_at (o := 0) k3 rfl
  have l3 := cell_lt d3
  clear k2 k3
  have ⟨c0, c1, c2, c3, c4, c5, lt⟩ := hB.plc
  replace hB := Lib.hid hB
  replace hN := Lib.hid hN
  go_enter Tryz.func131, Tryz.ntmps131
  go_wp2_with (go_at_call 84; refine Hid.out ?_)
  refine Lib.hid ?_
  have hE : Ext w ((w.alloc (.cells #[] 82)).alloc (.cells #[.int .i64 0, .int .i64 0, .int .u64 0, .int .u64 0, .nilFunc, .pointer none] 87)) := by repeat (first | exact ext_refl _ | apply ext_alloc)
  have hb0 : ((w.alloc (.cells #[] 82)).alloc (.cells #[.int .i64 0, .int .i64 0, .int .u64 0, .int .u64 0, .nilFunc, .pointer none] 87)).heap[w.heap.size]? = some (.cells #[] 82) := (Below.heap_alloc _ _ _ (by simp <;> omega)).trans (heap_at _ _ _ (by simp))
  have hb1 : ((w.alloc (.cells #[] 82)).alloc (.cells #[.int .i64 0, .int .i64 0, .int .u64 0, .int .u64 0, .nilFunc, .pointer none] 87)).heap[w.heap.size + 1]? = some (.cells #[.int .i64 0, .int .i64 0, .int .u64 0, .int .u64 0, .nilFunc, .pointer none] 87) := heap_at _ _ _ (by simp)
  have hW : ((w.alloc (.cells #[] 82)).alloc (.cells #[.int .i64 0, .int .i64 0, .int .u64 0, .int .u64 0, .nilFunc, .pointer none] 87)).heap.size = w.heap.size + 1 + 1 := by simp
  generalize ((w.alloc (.cells #[] 82)).alloc (.cells #[.int .i64 0, .int .i64 0, .int .u64 0, .int .u64 0, .nilFunc, .pointer none] 87)) = W at hE hb0 hb1 hW ⊢
  refine (hN.out W).mono ?_
  rintro e w' hR
  obtain ⟨v', F', rfl, hX, hp, hbn, hsub, hnF, hbq⟩ := hR.tail (G := noF) (w.heap.size + 1) hE (heap_lt hb1) (fun h => h) (fun _ h => h.elim)
  have hbx := hbq.trans hb1
  clear hbq hR
  clear hE hb0 hb1 hW c0 c1 c2 c3 c4 c5 lt hN hB d2 l2 d3 l3
  obtain ⟨a2, fn2, rfl, hfn⟩ := shN hp
  have hXX := put6_ext (b := w.heap.size + 1) (.int .i64 a2.op) (.int .i64 a2.at_) (.int .u64 (U a2.a)) (.int .u64 (U a2.b)) (fn2) (.pointer none) hX (by omega)
  have hB := put6_block (.int .i64 a2.op) (.int .i64 a2.at_) (.int .u64 (U a2.a)) (.int .u64 (U a2.b)) (fn2) (.pointer none) hbx
  have hP := hp.agr (Agr.of_put6 (b := w.heap.size + 1) (.int .i64 a2.op) (.int .i64 a2.at_) (.int .u64 (U a2.a)) (.int .u64 (U a2.b)) (fn2) (.pointer none) hnF)
  have hS : (put6 (w.heap.size + 1) (.int .i64 a2.op) (.int .i64 a2.at_) (.int .u64 (U a2.a)) (.int .u64 (U a2.b)) (fn2) (.pointer none) w').heap.size = w'.heap.size := put6_size (.int .i64 a2.op) (.int .i64 a2.at_) (.int .u64 (U a2.a)) (.int .u64 (U a2.b)) (fn2) (.pointer none)
  obtain ⟨c0, c1, c2, c3, c4, c5, cz, ll⟩ := six_of hbx
  rw [put6] at hXX hB hP hS
  have HX := Lib.hid (And.intro hXX (And.intro hB (And.intro hP hS)))
  have HFN := Lib.hid hfn
  have HBN := Lib.hid hbn
  have HSUB := Lib.hid hsub
  clear hXX hB hP hS hX hbx hp hfn hbn hsub hnF
  rcases HFN.out with rfl | ⟨g', caps', rfl⟩
  all_goals
    go_wp2
    clear c0 c1 c2 c3 c4 c5 cz ll
    obtain ⟨hX, hB, hP, hS⟩ := HX.out
    clear HX
    generalize (World.setCell _ (⟨w.heap.size + 1, 5, none⟩ : Addr) _) = Z at hX hB hP hS ⊢
    obtain ⟨c0, c1, c2, c3, c4, c5, cz, ll⟩ := six_of hB
    exact bodyPost_ret (by simp only [results, Tryz.results131, go_sem]; simp [go_sem, c0, c1, c2, c3, c4, c5]) rfl ⟨_, F', rfl, hX, hP, fun j hj => by rw [hS]; exact HBN.out j hj, HSUB.out⟩
theorem clr1_CT (p : Pl) (t s : Int) (tr : Tr Unit) (B1 B2 B3 : Nat) (w : World) (e2 : wrap64 (s + 1) = s + 1) (hB : PBox B1 p w) (k2 : w.heap[B2]? = some (.cells #[.int .i64 t] 3 (0, 0))) (k3 : w.heap[B3]? = some (.cells #[.int .i64 s] 3 (0, 0))) (hN : ∀ W, Calls Tryz.prog 84 #[plV p, .int .i64 t, .int .i64 (s + 1)] W (RetP (PT kN tr) noF W)) :
    CT kN kN (fun _ => tr) (fun j => j = B1 ∨ j = B2 ∨ j = B3) (.func (.func 131) #[] #[.pointer (some ⟨B1, 0, none⟩), .pointer (some ⟨B2, 0, none⟩), .pointer (some ⟨B3, 0, none⟩)]) w :=
  ⟨_, _, rfl, enters_of Tryz.func131 (by kernel_rfl) rfl, fun _ w' ha => (clr1_PT p t s tr B1 B2 B3 w' e2 ((ha B1 (.inl rfl)).trans hB) ((ha B2 (.inr (.inl rfl))).trans k2) ((ha B3 (.inr (.inr rfl))).trans k3) hN).mono fun _ _ h => h.mono fun _ h => h.elim⟩
set_option maxRecDepth 8000 in
set_option maxHeartbeats 2000000 in
theorem clr_more (p : Pl) (t s : Int) (tr : Tr Unit) (h0 : 0 ≤ s) (h1 : s < 3) (hN : ∀ W, Calls Tryz.prog 84 #[plV p, .int .i64 t, .int .i64 (s + 1)] W (RetP (PT kN tr) noF W)) (w : World) : Calls Tryz.prog 84 #[plV p, .int .i64 t, .int .i64 s] w (RetP (PT kN ((setT (p.hazF t s) 0#64).bind fun _ => tr)) noF w) := by
  have ew : wrap64 (s + 1) = s + 1 := by unfold wrap64; omega
  have g1 : ¬ s = 3 := by omega
  have hput := hput_PT p t s 0#64
  rw [U_0] at hput
  replace hN := Lib.hid hN
  replace ew := Lib.hid ew
  replace hput := Lib.hid hput
  go_enter Tryz.func84, Tryz.ntmps84
  go_wp2_with (go_at_call 82; refine Hid.out ?_)
  refine Lib.hid ?_
  have hE : Ext w ((((w.alloc (.cells #[.int .i64 p.n, .int .i64 p.t, .int .i64 p.r, .int .i64 p.d, .int .i64 p.b, .int .i64 p.g] 23)).alloc (.cells #[.int .i64 t] 3)).alloc (.cells #[.int .i64 s] 3)).alloc (.cells #[.int .i64 0, .int .i64 0, .int .u64 0, .int .u64 0, .nilFunc, .pointer none] 87)) := by repeat (first | exact ext_refl _ | apply ext_alloc)
  have hb0 : ((((w.alloc (.cells #[.int .i64 p.n, .int .i64 p.t, .int .i64 p.r, .int .i64 p.d, .int .i64 p.b, .int .i64 p.g] 23)).alloc (.cells #[.int .i64 t] 3)).alloc (.cells #[.int .i64 s] 3)).alloc (.cells #[.int .i64 0, .int .i64 0, .int .u64 0, .int .u64 0, .nilFunc, .pointer none] 87)).heap[w.heap.size]? = some (.cells #[.int .i64 p.n, .int .i64 p.t, .int .i64 p.r, .int .i64 p.d, .int .i64 p.b, .int .i64 p.g] 23) := (Below.heap_alloc _ _ _ (by simp <;> omega)).trans ((Below.heap_alloc _ _ _ (by simp <;> omega)).trans ((Below.heap_alloc _ _ _ (by simp <;> omega)).trans (heap_at _ _ _ (by simp))))
  have hb1 : ((((w.alloc (.cells #[.int .i64 p.n, .int .i64 p.t, .int .i64 p.r, .int .i64 p.d, .int .i64 p.b, .int .i64 p.g] 23)).alloc (.cells #[.int .i64 t] 3)).alloc (.cells #[.int .i64 s] 3)).alloc (.cells #[.int .i64 0, .int .i64 0, .int .u64 0, .int .u64 0, .nilFunc, .pointer none] 87)).heap[w.heap.size + 1]? = some (.cells #[.int .i64 t] 3) := (Below.heap_alloc _ _ _ (by simp <;> omega)).trans ((Below.heap_alloc _ _ _ (by simp <;> omega)).trans (heap_at _ _ _ (by simp)))
  have hb2 : ((((w.alloc (.cells #[.int .i64 p.n, .int .i64 p.t, .int .i64 p.r, .int .i64 p.d, .int .i64 p.b, .int .i64 p.g] 23)).alloc (.cells #[.int .i64 t] 3)).alloc (.cells #[.int .i64 s] 3)).alloc (.cells #[.int .i64 0, .int .i64 0, .int .u64 0, .int .u64 0, .nilFunc, .pointer none] 87)).heap[w.heap.size + 1 + 1]? = some (.cells #[.int .i64 s] 3) := (Below.heap_alloc _ _ _ (by simp <;> omega)).trans (heap_at _ _ _ (by simp))
  have hb3 : ((((w.alloc (.cells #[.int .i64 p.n, .int .i64 p.t, .int .i64 p.r, .int .i64 p.d, .int .i64 p.b, .int .i64 p.g] 23)).alloc (.cells #[.int .i64 t] 3)).alloc (.cells #[.int .i64 s] 3)).alloc (.cells #[.int .i64 0, .int .i64 0, .int .u64 0, .int .u64 0, .nilFunc, .pointer none] 87)).heap[w.heap.size + 1 + 1 + 1]? = some (.cells #[.int .i64 0, .int .i64 0, .int .u64 0, .int .u64 0, .nilFunc, .pointer none] 87) := heap_at _ _ _ (by simp)
  have hW : ((((w.alloc (.cells #[.int .i64 p.n, .int .i64 p.t, .int .i64 p.r, .int .i64 p.d, .int .i64 p.b, .int .i64 p.g] 23)).alloc (.cells #[.int .i64 t] 3)).alloc (.cells #[.int .i64 s] 3)).alloc (.cells #[.int .i64 0, .int .i64 0, .int .u64 0, .int .u64 0, .nilFunc, .pointer none] 87)).heap.size = w.heap.size + 1 + 1 + 1 + 1 := by simp
  generalize ((((w.alloc (.cells #[.int .i64 p.n, .int .i64 p.t, .int .i64 p.r, .int .i64 p.d, .int .i64 p.b, .int .i64 p.g] 23)).alloc (.cells #[.int .i64 t] 3)).alloc (.cells #[.int .i64 s] 3)).alloc (.cells #[.int .i64 0, .int .i64 0, .int .u64 0, .int .u64 0, .nilFunc, .pointer none] 87)) = W at hE hb0 hb1 hb2 hb3 hW ⊢
  clear hW
  refine (hput.out W).mono ?_
  rintro e w1 ⟨v1, F1, rfl, hx, hp1, hbn1, hsub⟩
  have hn1 : ¬ F1 (w.heap.size + 1 + 1 + 1) := fun h => (hsub _ h).elim (fun h => h) fun h => by have := heap_lt hb3; omega
  have hs1 : ∀ j, F1 j → noF j ∨ w.heap.size ≤ j := fun j hj => (hsub j hj).imp_right fun h => Nat.le_trans hE.size h
  replace hE := ext_trans hE hx
  replace hb0 := (hx.block _ (heap_lt hb0)).trans hb0
  replace hb1 := (hx.block _ (heap_lt hb1)).trans hb1
  replace hb2 := (hx.block _ (heap_lt hb2)).trans hb2
  replace hb3 := (hx.block _ (heap_lt hb3)).trans hb3
  clear hx hsub
  replace hE := Lib.hid hE
  replace hb0 := Lib.hid hb0
  replace hb1 := Lib.hid hb1
  replace hb2 := Lib.hid hb2
  replace hb3 := Lib.hid hb3
  replace hp1 := Lib.hid hp1
  replace hbn1 := Lib.hid hbn1
  replace hs1 := Lib.hid hs1
  replace hn1 := Lib.hid hn1
  go_wp2_with (go_at_call 130; refine Hid.out ?_)
  refine Lib.hid ?_
  replace hE := hE.out
  replace hb0 := hb0.out
  replace hb1 := hb1.out
  replace hb2 := hb2.out
  replace hb3 := hb3.out
  replace hp1 := hp1.out
  replace hbn1 := hbn1.out
  replace hs1 := hs1.out
  replace hn1 := hn1.out
  have hCT := clr1_CT p t s tr w.heap.size (w.heap.size + 1) (w.heap.size + 1 + 1) w1 ew.out hb0 hb1 hb2 hN.out
  refine (then_NN _ _ F1 _ v1 _ w1 hp1 hCT hbn1 (fun j h => by rcases h with rfl | rfl | rfl; exact heap_lt hb0; exact heap_lt hb1; exact heap_lt hb2)).mono ?_
  rintro e w' hR
  obtain ⟨v', F', rfl, hX, hp, hbn, hsub, hnF, hbq⟩ := hR.tail (G := noF) (w.heap.size + 1 + 1 + 1) hE (heap_lt hb3) (fun h => by rcases h with h | h | h | h; exact hn1 h; omega; omega; omega) (fun j h => by rcases h with h | h | h | h; exact hs1 j h; exact .inr (by omega); exact .inr (by omega); exact .inr (by omega))
  have hbx := hbq.trans hb3
  clear hbq hR
  clear hE hb0 hb1 hb2 hb3 hN hp1 hbn1 hs1 hn1 hCT ew hput
  obtain ⟨a2, fn2, rfl, hfn⟩ := shN hp
  have hXX := put6_ext (b := w.heap.size + 1 + 1 + 1) (.int .i64 a2.op) (.int .i64 a2.at_) (.int .u64 (U a2.a)) (.int .u64 (U a2.b)) (fn2) (.pointer none) hX (by omega)
  have hB := put6_block (.int .i64 a2.op) (.int .i64 a2.at_) (.int .u64 (U a2.a)) (.int .u64 (U a2.b)) (fn2) (.pointer none) hbx
  have hP := hp.agr (Agr.of_put6 (b := w.heap.size + 1 + 1 + 1) (.int .i64 a2.op) (.int .i64 a2.at_) (.int .u64 (U a2.a)) (.int .u64 (U a2.b)) (fn2) (.pointer none) hnF)
  have hS : (put6 (w.heap.size + 1 + 1 + 1) (.int .i64 a2.op) (.int .i64 a2.at_) (.int .u64 (U a2.a)) (.int .u64 (U a2.b)) (fn2) (.pointer none) w').heap.size = w'.heap.size := put6_size (.int .i64 a2.op) (.int .i64 a2.at_) (.int .u64 (U a2.a)) (.int .u64 (U a2.b)) (fn2) (.pointer none)
  obtain ⟨c0, c1, c2, c3, c4, c5, cz, ll⟩ := six_of hbx
  rw [put6] at hXX hB hP hS
  have HX := Lib.hid (And.intro hXX (And.intro hB (And.intro hP hS)))
  have HFN := Lib.hid hfn
  have HBN := Lib.hid hbn
  have HSUB := Lib.hid hsub
  clear hXX hB hP hS hX hbx hp hfn hbn hsub hnF
  rcases HFN.out with rfl | ⟨g', caps', rfl⟩
  all_goals
    go_wp2
    clear c0 c1 c2 c3 c4 c5 cz ll
    obtain ⟨hX, hB, hP, hS⟩ := HX.out
    clear HX
    generalize (World.setCell _ (⟨w.heap.size + 1 + 1 + 1, 5, none⟩ : Addr) _) = Z at hX hB hP hS ⊢
    obtain ⟨c0, c1, c2, c3, c4, c5, cz, ll⟩ := six_of hB
    exact bodyPost_ret (by simp only [results, Tryz.results84, go_sem]; simp [go_sem, c0, c1, c2, c3, c4, c5]) rfl ⟨_, F', rfl, hX, hP, fun j hj => by rw [hS]; exact HBN.out j hj, HSUB.out⟩
theorem clearFrom_PT (p : Pl) (t : Int) : ∀ (k : Nat) (s : Int), 0 ≤ s → s + k = 3 → ∀ (w : World), Calls Tryz.prog 84 #[plV p, .int .i64 t, .int .i64 s] w (RetP (PT kN (clrT p t k s)) noF w)
  | 0, s, h0, h1, w => by
    obtain rfl : s = 3 := by omega
    exact clr_end p t w
  | k + 1, s, h0, h1, w => clr_more p t s (clrT p t k (s + 1)) h0 (by omega) (fun W => clearFrom_PT p t k (s + 1) (by omega) (by omega) W) w
set_option maxRecDepth 8000 in
set_option maxHeartbeats 2000000 in
theorem hclear_PT (p : Pl) (t : Int) (w : World) : Calls Tryz.prog 31 #[plV p, .int .i64 t] w (RetP (PT kN (clrT p t 3 0)) noF w) := by
  go_enter Tryz.func31, Tryz.ntmps31
  go_wp2_with (go_at_call 84; refine Hid.out ?_)
  refine Lib.hid ?_
  have hE : Ext w ((w.alloc (.cells #[.int .i64 p.n, .int .i64 p.t, .int .i64 p.r, .int .i64 p.d, .int .i64 p.b, .int .i64 p.g] 23)).alloc (.cells #[.int .i64 0, .int .i64 0, .int .u64 0, .int .u64 0, .nilFunc, .pointer none] 87)) := by repeat (first | exact ext_refl _ | apply ext_alloc)
  have hb0 : ((w.alloc (.cells #[.int .i64 p.n, .int .i64 p.t, .int .i64 p.r, .int .i64 p.d, .int .i64 p.b, .int .i64 p.g] 23)).alloc (.cells #[.int .i64 0, .int .i64 0, .int .u64 0, .int .u64 0, .nilFunc, .pointer none] 87)).heap[w.heap.size]? = some (.cells #[.int .i64 p.n, .int .i64 p.t, .int .i64 p.r, .int .i64 p.d, .int .i64 p.b, .int .i64 p.g] 23) := (Below.heap_alloc _ _ _ (by simp <;> omega)).trans (heap_at _ _ _ (by simp))
  have hb1 : ((w.alloc (.cells #[.int .i64 p.n, .int .i64 p.t, .int .i64 p.r, .int .i64 p.d, .int .i64 p.b, .int .i64 p.g] 23)).alloc (.cells #[.int .i64 0, .int .i64 0, .int .u64 0, .int .u64 0, .nilFunc, .pointer none] 87)).heap[w.heap.size + 1]? = some (.cells #[.int .i64 0, .int .i64 0, .int .u64 0, .int .u64 0, .nilFunc, .pointer none] 87) := heap_at _ _ _ (by simp)
  have hW : ((w.alloc (.cells #[.int .i64 p.n, .int .i64 p.t, .int .i64 p.r, .int .i64 p.d, .int .i64 p.b, .int .i64 p.g] 23)).alloc (.cells #[.int .i64 0, .int .i64 0, .int .u64 0, .int .u64 0, .nilFunc, .pointer none] 87)).heap.size = w.heap.size + 1 + 1 := by simp
  generalize ((w.alloc (.cells #[.int .i64 p.n, .int .i64 p.t, .int .i64 p.r, .int .i64 p.d, .int .i64 p.b, .int .i64 p.g] 23)).alloc (.cells #[.int .i64 0, .int .i64 0, .int .u64 0, .int .u64 0, .nilFunc, .pointer none] 87)) = W at hE hb0 hb1 hW ⊢
  replace hW := Lib.hid hW
  refine (clearFrom_PT p t 3 0 (by omega) (by omega) W).mono ?_
  rintro e w' hR
  obtain ⟨v', F', rfl, hX, hp, hbn, hsub, hnF, hbq⟩ := hR.tail (G := noF) (w.heap.size + 1) hE (heap_lt hb1) (fun h => h) (fun _ h => h.elim)
  have hbx := hbq.trans hb1
  clear hbq hR
  clear hE hb0 hb1 hW
  obtain ⟨a2, fn2, rfl, hfn⟩ := shN hp
  have hXX := put6_ext (b := w.heap.size + 1) (.int .i64 a2.op) (.int .i64 a2.at_) (.int .u64 (U a2.a)) (.int .u64 (U a2.b)) (fn2) (.pointer none) hX (by omega)
  have hB := put6_block (.int .i64 a2.op) (.int .i64 a2.at_) (.int .u64 (U a2.a)) (.int .u64 (U a2.b)) (fn2) (.pointer none) hbx
  have hP := hp.agr (Agr.of_put6 (b := w.heap.size + 1) (.int .i64 a2.op) (.int .i64 a2.at_) (.int .u64 (U a2.a)) (.int .u64 (U a2.b)) (fn2) (.pointer none) hnF)
  have hS : (put6 (w.heap.size + 1) (.int .i64 a2.op) (.int .i64 a2.at_) (.int .u64 (U a2.a)) (.int .u64 (U a2.b)) (fn2) (.pointer none) w').heap.size = w'.heap.size := put6_size (.int .i64 a2.op) (.int .i64 a2.at_) (.int .u64 (U a2.a)) (.int .u64 (U a2.b)) (fn2) (.pointer none)
  obtain ⟨c0, c1, c2, c3, c4, c5, cz, ll⟩ := six_of hbx
  rw [put6] at hXX hB hP hS
  have HX := Lib.hid (And.intro hXX (And.intro hB (And.intro hP hS)))
  have HFN := Lib.hid hfn
  have HBN := Lib.hid hbn
  have HSUB := Lib.hid hsub
  clear hXX hB hP hS hX hbx hp hfn hbn hsub hnF
  rcases HFN.out with rfl | ⟨g', caps', rfl⟩
  all_goals
    go_wp2
    clear c0 c1 c2 c3 c4 c5 cz ll
    obtain ⟨hX, hB, hP, hS⟩ := HX.out
    clear HX
    generalize (World.setCell _ (⟨w.heap.size + 1, 5, none⟩ : Addr) _) = Z at hX hB hP hS ⊢
    obtain ⟨c0, c1, c2, c3, c4, c5, cz, ll⟩ := six_of hB
    exact bodyPost_ret (by simp only [results, Tryz.results31, go_sem]; simp [go_sem, c0, c1, c2, c3, c4, c5]) rfl ⟨_, F', rfl, hX, hP, fun j hj => by rw [hS]; exact HBN.out j hj, HSUB.out⟩
end Go.Proofs.YtpidmbclgfnekaaGreat
