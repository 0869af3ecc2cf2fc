/-
  What the call of Fresh comes to. Conditions: those of each theorem.
-/
import Derived.Test.YtpidmbclgfnekaaGao
namespace Go.Proofs.Ytpidmbclgfnekaa
open Go Go.RowKit

set_option maxRecDepth 8000 in
set_option maxHeartbeats 2000000 in
theorem fnx_any (p : Pl) (n : Int) (h0 : 0 ≤ n) (h1 : n < p.n) (h2 : p.n ≤ 1048576) (w : World) : Calls Try.prog 60 #[plV p, .int .i64 n] w (Ret (.int .u64 (U (fnxW p n))) w) := by
  have e1 : wrap64 (p.n - 1) = p.n - 1 := by unfold wrap64; omega
  have e2 : wrap64 (n + 1) = n + 1 := by unfold wrap64; omega
  by_cases hn : n = p.n - 1
  · have e3 : fnxW p n = 0#64 := by unfold fnxW; rw [if_pos hn]
    rw [e3, U_0]
    clear e2 e3
    go_enter Try.func60, Try.ntmps60
    go_wp2
    go_ret
    exact Ret.mk (by repeat (first | exact ext_refl _ | apply ext_alloc))
  · have e3 : fnxW p n = nameW (n + 1) := by unfold fnxW; rw [if_neg hn]
    rw [e3]
    clear e3
    go_enter Try.func60, Try.ntmps60
    go_wp2_with (go_at_call 46; refine Hid.out ?_)
    refine Lib.hid ?_
    refine (name_any (n + 1) (by omega) (by omega) _).mono ?_
    rintro e w1 ⟨rfl, hx⟩
    have HX := Lib.hid (ext_trans (show Ext w _ by repeat (first | exact ext_refl _ | apply ext_alloc)) hx)
    clear hx
    go_wp2
    go_ret
    exact Ret.mk HX.out
set_option maxRecDepth 8000 in
set_option maxHeartbeats 2000000 in
theorem fresh1_PT (p : Pl) (n : Int) (t : Tr Unit) (B1 B2 : Nat) (w : World) (e2 : wrap64 (n + 1) = n + 1) (hB : PBox B1 p w) (k2 : w.heap[B2]? = some (.cells #[.int .i64 n] 3 (0, 0))) (hN : ∀ W, Calls Try.prog 33 #[plV p, .int .i64 (n + 1)] W (RetP (PT kN t) noF W)) :
    Calls Try.prog 61 #[.agg #[], .pointer (some ⟨B1, 0, none⟩), .pointer (some ⟨B2, 0, none⟩)] w (RetP (PT kN t) noF w) := by
  have d2 := cell_at (o := 0) k2 rfl
  have l2 := cell_lt d2
  clear k2
  have ⟨c0, c1, c2, c3, c4, c5, lt⟩ := hB.plc
  replace hB := Lib.hid hB
  replace hN := Lib.hid hN
  go_enter Try.func61, Try.ntmps61
  go_wp2_with (go_at_call 33; refine Hid.out ?_)
  refine Lib.hid ?_
  have hE : Ext w ((w.alloc (.cells #[] 53)).alloc (.cells #[.int .i64 0, .int .i64 0, .int .u64 0, .int .u64 0, .nilFunc, .pointer none] 58)) := by repeat (first | exact ext_refl _ | apply ext_alloc)
  have hb0 : ((w.alloc (.cells #[] 53)).alloc (.cells #[.int .i64 0, .int .i64 0, .int .u64 0, .int .u64 0, .nilFunc, .pointer none] 58)).heap[w.heap.size]? = some (.cells #[] 53) := (Below.heap_alloc _ _ _ (by simp <;> omega)).trans (heap_at _ _ _ (by simp))
  have hb1 : ((w.alloc (.cells #[] 53)).alloc (.cells #[.int .i64 0, .int .i64 0, .int .u64 0, .int .u64 0, .nilFunc, .pointer none] 58)).heap[w.heap.size + 1]? = some (.cells #[.int .i64 0, .int .i64 0, .int .u64 0, .int .u64 0, .nilFunc, .pointer none] 58) := heap_at _ _ _ (by simp)
  have hW : ((w.alloc (.cells #[] 53)).alloc (.cells #[.int .i64 0, .int .i64 0, .int .u64 0, .int .u64 0, .nilFunc, .pointer none] 58)).heap.size = w.heap.size + 1 + 1 := by simp
  generalize ((w.alloc (.cells #[] 53)).alloc (.cells #[.int .i64 0, .int .i64 0, .int .u64 0, .int .u64 0, .nilFunc, .pointer none] 58)) = W at hE hb0 hb1 hW ⊢
  refine (hN.out W).mono ?_
  rintro e w' hR
  obtain ⟨v', F', rfl, hX, hp, hbn, hsub, hnF, hbq⟩ := hR.tail (G := noF) (w.heap.size + 1) hE (heap_lt hb1) (fun h => h) (fun _ h => h.elim)
  have hbx := hbq.trans hb1
  clear hbq hR
  clear hE hb0 hb1 hW c0 c1 c2 c3 c4 c5 lt hN hB d2 l2
  obtain ⟨a2, fn2, rfl, hfn⟩ := shN hp
  have hXX := put6_ext (b := w.heap.size + 1) (.int .i64 a2.op) (.int .i64 a2.at_) (.int .u64 (U a2.a)) (.int .u64 (U a2.b)) (fn2) (.pointer none) hX (by omega)
  have hB := put6_block (.int .i64 a2.op) (.int .i64 a2.at_) (.int .u64 (U a2.a)) (.int .u64 (U a2.b)) (fn2) (.pointer none) hbx
  have hP := hp.agr (Agr.of_put6 (b := w.heap.size + 1) (.int .i64 a2.op) (.int .i64 a2.at_) (.int .u64 (U a2.a)) (.int .u64 (U a2.b)) (fn2) (.pointer none) hnF)
  have hS : (put6 (w.heap.size + 1) (.int .i64 a2.op) (.int .i64 a2.at_) (.int .u64 (U a2.a)) (.int .u64 (U a2.b)) (fn2) (.pointer none) w').heap.size = w'.heap.size := put6_size (.int .i64 a2.op) (.int .i64 a2.at_) (.int .u64 (U a2.a)) (.int .u64 (U a2.b)) (fn2) (.pointer none)
  obtain ⟨c0, c1, c2, c3, c4, c5, cz, ll⟩ := six_of hbx
  rw [put6] at hXX hB hP hS
  have HX := Lib.hid (And.intro hXX (And.intro hB (And.intro hP hS)))
  have HFN := Lib.hid hfn
  have HBN := Lib.hid hbn
  have HSUB := Lib.hid hsub
  clear hXX hB hP hS hX hbx hp hfn hbn hsub hnF
  rcases HFN.out with rfl | ⟨g', caps', rfl⟩
  all_goals
    go_wp2
    clear c0 c1 c2 c3 c4 c5 cz ll
    obtain ⟨hX, hB, hP, hS⟩ := HX.out
    clear HX
    generalize (World.setCell _ (⟨w.heap.size + 1, 5, none⟩ : Addr) _) = Z at hX hB hP hS ⊢
    obtain ⟨c0, c1, c2, c3, c4, c5, cz, ll⟩ := six_of hB
    exact bodyPost_ret (by simp only [results, Try.results61, go_sem]; simp [go_sem, c0, c1, c2, c3, c4, c5]) rfl ⟨_, F', rfl, hX, hP, fun j hj => by rw [hS]; exact HBN.out j hj, HSUB.out⟩
theorem fresh1_CT (p : Pl) (n : Int) (t : Tr Unit) (B1 B2 : Nat) (w : World) (e2 : wrap64 (n + 1) = n + 1) (hB : PBox B1 p w) (k2 : w.heap[B2]? = some (.cells #[.int .i64 n] 3 (0, 0))) (hN : ∀ W, Calls Try.prog 33 #[plV p, .int .i64 (n + 1)] W (RetP (PT kN t) noF W)) :
    CT kN kN (fun _ => t) (fun j => j = B1 ∨ j = B2) (.func (.func 61) #[] #[.pointer (some ⟨B1, 0, none⟩), .pointer (some ⟨B2, 0, none⟩)]) w :=
  ⟨_, _, rfl, enters_of Try.func61 (by kernel_rfl) rfl, fun _ w' ha => (fresh1_PT p n t B1 B2 w' e2 ((ha B1 (.inl rfl)).trans hB) ((ha B2 (.inr rfl)).trans k2) hN).mono fun _ _ h => h.mono fun _ h => h.elim⟩
set_option maxRecDepth 8000 in
set_option maxHeartbeats 2000000 in
theorem fresh_end (p : Pl) (n : Int) (h1 : ¬ n < p.n) (w : World) : Calls Try.prog 33 #[plV p, .int .i64 n] w (RetP (PT kN (freshT p 0 n)) noF w) := by
  go_enter Try.func33, Try.ntmps33
  go_wp2_with (go_at_call 24; refine Hid.out ?_)
  refine Lib.hid ?_
  have hE : Ext w (((w.alloc (.cells #[.int .i64 p.n, .int .i64 p.t, .int .i64 p.r, .int .i64 p.d, .int .i64 p.b, .int .i64 p.g] 23)).alloc (.cells #[.int .i64 n] 3)).alloc (.cells #[.int .i64 0, .int .i64 0, .int .u64 0, .int .u64 0, .nilFunc, .pointer none] 58)) := by repeat (first | exact ext_refl _ | apply ext_alloc)
  have hb0 : (((w.alloc (.cells #[.int .i64 p.n, .int .i64 p.t, .int .i64 p.r, .int .i64 p.d, .int .i64 p.b, .int .i64 p.g] 23)).alloc (.cells #[.int .i64 n] 3)).alloc (.cells #[.int .i64 0, .int .i64 0, .int .u64 0, .int .u64 0, .nilFunc, .pointer none] 58)).heap[w.heap.size]? = some (.cells #[.int .i64 p.n, .int .i64 p.t, .int .i64 p.r, .int .i64 p.d, .int .i64 p.b, .int .i64 p.g] 23) := (Below.heap_alloc _ _ _ (by simp <;> omega)).trans ((Below.heap_alloc _ _ _ (by simp <;> omega)).trans (heap_at _ _ _ (by simp)))
  have hb1 : (((w.alloc (.cells #[.int .i64 p.n, .int .i64 p.t, .int .i64 p.r, .int .i64 p.d, .int .i64 p.b, .int .i64 p.g] 23)).alloc (.cells #[.int .i64 n] 3)).alloc (.cells #[.int .i64 0, .int .i64 0, .int .u64 0, .int .u64 0, .nilFunc, .pointer none] 58)).heap[w.heap.size + 1]? = some (.cells #[.int .i64 n] 3) := (Below.heap_alloc _ _ _ (by simp <;> omega)).trans (heap_at _ _ _ (by simp))
  have hb2 : (((w.alloc (.cells #[.int .i64 p.n, .int .i64 p.t, .int .i64 p.r, .int .i64 p.d, .int .i64 p.b, .int .i64 p.g] 23)).alloc (.cells #[.int .i64 n] 3)).alloc (.cells #[.int .i64 0, .int .i64 0, .int .u64 0, .int .u64 0, .nilFunc, .pointer none] 58)).heap[w.heap.size + 1 + 1]? = some (.cells #[.int .i64 0, .int .i64 0, .int .u64 0, .int .u64 0, .nilFunc, .pointer none] 58) := heap_at _ _ _ (by simp)
  have hW : (((w.alloc (.cells #[.int .i64 p.n, .int .i64 p.t, .int .i64 p.r, .int .i64 p.d, .int .i64 p.b, .int .i64 p.g] 23)).alloc (.cells #[.int .i64 n] 3)).alloc (.cells #[.int .i64 0, .int .i64 0, .int .u64 0, .int .u64 0, .nilFunc, .pointer none] 58)).heap.size = w.heap.size + 1 + 1 + 1 := by simp
  generalize (((w.alloc (.cells #[.int .i64 p.n, .int .i64 p.t, .int .i64 p.r, .int .i64 p.d, .int .i64 p.b, .int .i64 p.g] 23)).alloc (.cells #[.int .i64 n] 3)).alloc (.cells #[.int .i64 0, .int .i64 0, .int .u64 0, .int .u64 0, .nilFunc, .pointer none] 58)) = W at hE hb0 hb1 hb2 hW ⊢
  refine (head_any p W).mono ?_
  rintro e w0 ⟨rfl, hx⟩
  replace hE := ext_trans hE hx
  replace hb2 := (hx.block _ (heap_lt hb2)).trans hb2
  clear hx hW hb0 hb1
  replace hE := Lib.hid hE
  replace hb2 := Lib.hid hb2
  go_wp2_with (go_at_call 21; refine Hid.out ?_)
  refine Lib.hid ?_
  refine (nodeField_any _).mono ?_
  rintro e w1 ⟨rfl, hx⟩
  replace hE := hE.out
  replace hb2 := hb2.out
  replace hE := ext_trans hE hx
  replace hb2 := (hx.block _ (heap_lt hb2)).trans hb2
  clear hx
  replace hE := Lib.hid hE
  replace hb2 := Lib.hid hb2
  go_wp2_with (go_at_call 46; refine Hid.out ?_)
  refine Lib.hid ?_
  refine (name_any 0 (by omega) (by omega) _).mono ?_
  rintro e w2 ⟨rfl, hx⟩
  replace hE := hE.out
  replace hb2 := hb2.out
  replace hE := ext_trans hE hx
  replace hb2 := (hx.block _ (heap_lt hb2)).trans hb2
  clear hx
  replace hE := Lib.hid hE
  replace hb2 := Lib.hid hb2
  go_wp2_with (go_at_call 58; refine Hid.out ?_)
  refine Lib.hid ?_
  refine (put_at 0 21 0 _ 0#64 (nameW 0) _ fmN U_0.symm rfl).mono ?_
  rintro e w3 ⟨rfl, hx⟩
  replace hE := hE.out
  replace hb2 := hb2.out
  replace hE := ext_trans hE hx
  replace hb2 := (hx.block _ (heap_lt hb2)).trans hb2
  clear hx
  replace hE := Lib.hid hE
  replace hb2 := Lib.hid hb2
  go_wp2_with (go_at_call 44; refine Hid.out ?_)
  refine Lib.hid ?_
  replace hE := hE.out
  replace hb2 := hb2.out
  refine (set_PT p.headF (putN 0 21 0#64 (nameW 0)) w3).mono ?_
  rintro e w' hR
  obtain ⟨v', F', rfl, hX, hp, hbn, hsub, hnF, hbq⟩ := hR.tail (G := noF) (w.heap.size + 1 + 1) hE (heap_lt hb2) (fun h => h) (fun _ h => h.elim)
  have hbx := hbq.trans hb2
  clear hbq hR
  clear hE hb2
  obtain ⟨a2, fn2, rfl, hfn⟩ := shN hp
  have hXX := put6_ext (b := w.heap.size + 1 + 1) (.int .i64 a2.op) (.int .i64 a2.at_) (.int .u64 (U a2.a)) (.int .u64 (U a2.b)) (fn2) (.pointer none) hX (by omega)
  have hB := put6_block (.int .i64 a2.op) (.int .i64 a2.at_) (.int .u64 (U a2.a)) (.int .u64 (U a2.b)) (fn2) (.pointer none) hbx
  have hP := hp.agr (Agr.of_put6 (b := w.heap.size + 1 + 1) (.int .i64 a2.op) (.int .i64 a2.at_) (.int .u64 (U a2.a)) (.int .u64 (U a2.b)) (fn2) (.pointer none) hnF)
  have hS : (put6 (w.heap.size + 1 + 1) (.int .i64 a2.op) (.int .i64 a2.at_) (.int .u64 (U a2.a)) (.int .u64 (U a2.b)) (fn2) (.pointer none) w').heap.size = w'.heap.size := put6_size (.int .i64 a2.op) (.int .i64 a2.at_) (.int .u64 (U a2.a)) (.int .u64 (U a2.b)) (fn2) (.pointer none)
  obtain ⟨c0, c1, c2, c3, c4, c5, cz, ll⟩ := six_of hbx
  rw [put6] at hXX hB hP hS
  have HX := Lib.hid (And.intro hXX (And.intro hB (And.intro hP hS)))
  have HFN := Lib.hid hfn
  have HBN := Lib.hid hbn
  have HSUB := Lib.hid hsub
  clear hXX hB hP hS hX hbx hp hfn hbn hsub hnF
  rcases HFN.out with rfl | ⟨g', caps', rfl⟩
  all_goals
    go_wp2
    clear c0 c1 c2 c3 c4 c5 cz ll
    obtain ⟨hX, hB, hP, hS⟩ := HX.out
    clear HX
    generalize (World.setCell _ (⟨w.heap.size + 1 + 1, 5, none⟩ : Addr) _) = Z at hX hB hP hS ⊢
    obtain ⟨c0, c1, c2, c3, c4, c5, cz, ll⟩ := six_of hB
    exact bodyPost_ret (by simp only [results, Try.results33, go_sem]; simp [go_sem, c0, c1, c2, c3, c4, c5]) rfl ⟨_, F', rfl, hX, hP, fun j hj => by rw [hS]; exact HBN.out j hj, HSUB.out⟩
set_option maxRecDepth 8000 in
set_option maxHeartbeats 2000000 in
theorem fresh_more (p : Pl) (n : Int) (t : Tr Unit) (h0 : 0 ≤ n) (h1 : n < p.n) (h2 : p.n ≤ 1048576) (hN : ∀ W, Calls Try.prog 33 #[plV p, .int .i64 (n + 1)] W (RetP (PT kN t) noF W)) (w : World) : Calls Try.prog 33 #[plV p, .int .i64 n] w (RetP (PT kN ((setT (p.nxF n) (fnxW p n)).bind fun _ => t)) noF w) := by
  have ew : wrap64 (n + 1) = n + 1 := by unfold wrap64; omega
  replace hN := Lib.hid hN
  replace ew := Lib.hid ew
  go_enter Try.func33, Try.ntmps33
  go_wp2
  have hE : Ext w (((w.alloc (.cells #[.int .i64 p.n, .int .i64 p.t, .int .i64 p.r, .int .i64 p.d, .int .i64 p.b, .int .i64 p.g] 23)).alloc (.cells #[.int .i64 n] 3)).alloc (.cells #[.int .i64 0, .int .i64 0, .int .u64 0, .int .u64 0, .nilFunc, .pointer none] 58)) := by repeat (first | exact ext_refl _ | apply ext_alloc)
  have hb0 : (((w.alloc (.cells #[.int .i64 p.n, .int .i64 p.t, .int .i64 p.r, .int .i64 p.d, .int .i64 p.b, .int .i64 p.g] 23)).alloc (.cells #[.int .i64 n] 3)).alloc (.cells #[.int .i64 0, .int .i64 0, .int .u64 0, .int .u64 0, .nilFunc, .pointer none] 58)).heap[w.heap.size]? = some (.cells #[.int .i64 p.n, .int .i64 p.t, .int .i64 p.r, .int .i64 p.d, .int .i64 p.b, .int .i64 p.g] 23) := (Below.heap_alloc _ _ _ (by simp <;> omega)).trans ((Below.heap_alloc _ _ _ (by simp <;> omega)).trans (heap_at _ _ _ (by simp)))
  have hb1 : (((w.alloc (.cells #[.int .i64 p.n, .int .i64 p.t, .int .i64 p.r, .int .i64 p.d, .int .i64 p.b, .int .i64 p.g] 23)).alloc (.cells #[.int .i64 n] 3)).alloc (.cells #[.int .i64 0, .int .i64 0, .int .u64 0, .int .u64 0, .nilFunc, .pointer none] 58)).heap[w.heap.size + 1]? = some (.cells #[.int .i64 n] 3) := (Below.heap_alloc _ _ _ (by simp <;> omega)).trans (heap_at _ _ _ (by simp))
  have hb2 : (((w.alloc (.cells #[.int .i64 p.n, .int .i64 p.t, .int .i64 p.r, .int .i64 p.d, .int .i64 p.b, .int .i64 p.g] 23)).alloc (.cells #[.int .i64 n] 3)).alloc (.cells #[.int .i64 0, .int .i64 0, .int .u64 0, .int .u64 0, .nilFunc, .pointer none] 58)).heap[w.heap.size + 1 + 1]? = some (.cells #[.int .i64 0, .int .i64 0, .int .u64 0, .int .u64 0, .nilFunc, .pointer none] 58) := heap_at _ _ _ (by simp)
  have hW : (((w.alloc (.cells #[.int .i64 p.n, .int .i64 p.t, .int .i64 p.r, .int .i64 p.d, .int .i64 p.b, .int .i64 p.g] 23)).alloc (.cells #[.int .i64 n] 3)).alloc (.cells #[.int .i64 0, .int .i64 0, .int .u64 0, .int .u64 0, .nilFunc, .pointer none] 58)).heap.size = w.heap.size + 1 + 1 + 1 := by simp
  generalize (((w.alloc (.cells #[.int .i64 p.n, .int .i64 p.t, .int .i64 p.r, .int .i64 p.d, .int .i64 p.b, .int .i64 p.g] 23)).alloc (.cells #[.int .i64 n] 3)).alloc (.cells #[.int .i64 0, .int .i64 0, .int .u64 0, .int .u64 0, .nilFunc, .pointer none] 58)) = W at hE hb0 hb1 hb2 hW ⊢
  have ⟨c0, c1, c2, c3, c4, c5, lt⟩ := PBox.plc hb0
  have d2 := cell_at (o := 0) hb1 rfl
  have e2 := cell_lt d2
  replace hE := Lib.hid hE
  replace hb0 := Lib.hid hb0
  replace hb1 := Lib.hid hb1
  replace hb2 := Lib.hid hb2
  replace hW := Lib.hid hW
  refine wp_region_mix (fun w' => ∃ s, w' = over W s) [(0, [0, 1, 3, 4, 7]), (1, [2]), (1, [5]), (1, [6]), (1, [8]), (2, [9])] (by kernel_rfl) (by kernel_rfl) (over_of (ext_drew (ext_refl W))) ?_
  simp only [pieces, pickL, List.map_cons, List.map_nil, List.getD_cons_zero, List.getD_cons_succ]
  refine mix_reads ?_
  repeat (go_big_quiet_step (fail))
  refine wpQuiet_nil (mix_acts ?_)
  have HX0 := Lib.hid (ext_drew (ext_refl W))
  go_wp2_with (go_at_call 27; refine (next_any p n _).mono ?_; rintro e w1 ⟨rfl, hx⟩; have HX1 := Lib.hid (ext_trans HX0.out hx); clear hx)
  refine mixQ_mk (over_of HX1.out) (mix_acts ?_)
  go_wp2_with (go_at_call 60; refine (fnx_any p n h0 h1 h2 _).mono ?_; rintro e w2 ⟨rfl, hx⟩; have HX2 := Lib.hid (ext_trans HX1.out hx); clear hx)
  refine mixQ_mk (over_of HX2.out) (mix_acts ?_)
  go_wp2_with (go_at_call 44; refine (set_PT (p.nxF n) (fnxW p n) _).mono ?_; rintro e w3 ⟨v1, F1, rfl, hx, hp1, hbn1, hsub1⟩; refine Hid.out ?_)
  refine Lib.hid ?_
  replace hE := hE.out
  replace hb0 := hb0.out
  replace hb1 := hb1.out
  replace hb2 := hb2.out
  replace hW := hW.out
  have hn1 : ¬ F1 (w.heap.size + 1 + 1) := fun h => (hsub1 _ h).elim (fun h => h) fun h => by have := heap_lt hb2; have := HX2.out.size; omega
  have hs1 : ∀ j, F1 j → noF j ∨ w.heap.size ≤ j := fun j hj => (hsub1 j hj).imp_right fun h => Nat.le_trans (Nat.le_trans hE.size HX2.out.size) h
  have HX3 := Lib.hid (ext_trans HX2.out hx)
  replace hb0 := (HX3.out.block _ (heap_lt hb0)).trans hb0
  replace hb1 := (HX3.out.block _ (heap_lt hb1)).trans hb1
  replace hb2 := (HX3.out.block _ (heap_lt hb2)).trans hb2
  replace hE := ext_trans hE HX3.out
  clear hx hsub1
  replace hE := Lib.hid hE
  replace hb0 := Lib.hid hb0
  replace hb1 := Lib.hid hb1
  replace hb2 := Lib.hid hb2
  replace hW := Lib.hid hW
  replace hp1 := Lib.hid hp1
  replace hbn1 := Lib.hid hbn1
  replace hs1 := Lib.hid hs1
  replace hn1 := Lib.hid hn1
  go_wp2
  refine mixQ_mk (over_of HX3.out) (mix_acts ?_)
  go_wp2_with (go_at_call 59; refine Hid.out ?_)
  refine Lib.hid ?_
  replace hE := hE.out
  replace hb0 := hb0.out
  replace hb1 := hb1.out
  replace hb2 := hb2.out
  replace hW := hW.out
  replace hp1 := hp1.out
  replace hbn1 := hbn1.out
  replace hs1 := hs1.out
  replace hn1 := hn1.out
  have hCT := fresh1_CT p n t w.heap.size (w.heap.size + 1) w3 ew.out hb0 hb1 hN.out
  refine (then_NN _ _ F1 _ v1 _ w3 hp1 hCT hbn1 (fun j h => by rcases h with rfl | rfl; exact heap_lt hb0; exact heap_lt hb1)).mono ?_
  rintro e w' hR
  have HXZ := Lib.hid (ext_trans HX3.out hR.ext)
  obtain ⟨v', F', rfl, hX, hp, hbn, hsub, hnF, hbq⟩ := hR.tail (G := noF) (w.heap.size + 1 + 1) hE (heap_lt hb2) (fun h => by rcases h with h | h | h; exact hn1 h; omega; omega) (fun j h => by rcases h with h | h | h; exact hs1 j h; exact .inr (by omega); exact .inr (by omega))
  have hbx := hbq.trans hb2
  clear hbq hR
  go_wp2
  refine mixQ_mk (over_of HXZ.out) (mix_late ?_)
  clear hE hb0 hb1 hb2 hW c0 c1 c2 c3 c4 c5 lt d2 e2 hN hp1 hbn1 hs1 hn1 hCT ew
  obtain ⟨a2, fn2, rfl, hfn⟩ := shN hp
  have hXX := put6_ext (b := w.heap.size + 1 + 1) (.int .i64 a2.op) (.int .i64 a2.at_) (.int .u64 (U a2.a)) (.int .u64 (U a2.b)) (fn2) (.pointer none) hX (by omega)
  have hB := put6_block (.int .i64 a2.op) (.int .i64 a2.at_) (.int .u64 (U a2.a)) (.int .u64 (U a2.b)) (fn2) (.pointer none) hbx
  have hP := hp.agr (Agr.of_put6 (b := w.heap.size + 1 + 1) (.int .i64 a2.op) (.int .i64 a2.at_) (.int .u64 (U a2.a)) (.int .u64 (U a2.b)) (fn2) (.pointer none) hnF)
  have hS : (put6 (w.heap.size + 1 + 1) (.int .i64 a2.op) (.int .i64 a2.at_) (.int .u64 (U a2.a)) (.int .u64 (U a2.b)) (fn2) (.pointer none) w').heap.size = w'.heap.size := put6_size (.int .i64 a2.op) (.int .i64 a2.at_) (.int .u64 (U a2.a)) (.int .u64 (U a2.b)) (fn2) (.pointer none)
  obtain ⟨c0, c1, c2, c3, c4, c5, cz, ll⟩ := six_of hbx
  rw [put6] at hXX hB hP hS
  have HX := Lib.hid (And.intro hXX (And.intro hB (And.intro hP hS)))
  have HFN := Lib.hid hfn
  have HBN := Lib.hid hbn
  have HSUB := Lib.hid hsub
  clear hXX hB hP hS hX hbx hp hfn hbn hsub hnF
  rcases HFN.out with rfl | ⟨g', caps', rfl⟩
  all_goals
    go_wp2
    refine lateQ_mk (fun _ => True) trivial (mix_end ?_)
    clear c0 c1 c2 c3 c4 c5 cz ll
    obtain ⟨hX, hB, hP, hS⟩ := HX.out
    clear HX
    generalize (World.setCell _ (⟨w.heap.size + 1 + 1, 5, none⟩ : Addr) _) = Z at hX hB hP hS ⊢
    obtain ⟨c0, c1, c2, c3, c4, c5, cz, ll⟩ := six_of hB
    go_wp2
    exact bodyPost_ret (by simp only [results, Try.results33, go_sem]; simp [go_sem, c0, c1, c2, c3, c4, c5]) rfl ⟨_, F', rfl, hX, hP, fun j hj => by rw [hS]; exact HBN.out j hj, HSUB.out⟩
theorem freshFrom_PT (p : Pl) (h2 : p.n ≤ 1048576) : ∀ (k : Nat) (n : Int), 0 ≤ n → n + k = p.n → ∀ (w : World), Calls Try.prog 33 #[plV p, .int .i64 n] w (RetP (PT kN (freshT p k n)) noF w)
  | 0, n, h0, h1, w => fresh_end p n (by omega) w
  | k + 1, n, h0, h1, w => fresh_more p n (freshT p k (n + 1)) h0 (by omega) h2 (fun W => freshFrom_PT p h2 k (n + 1) (by omega) (by omega) W) w
set_option maxRecDepth 8000 in
set_option maxHeartbeats 2000000 in
theorem fresh_PT (p : Pl) (h0 : 0 ≤ p.n) (h2 : p.n ≤ 1048576) (w : World) : Calls Try.prog 15 #[plV p] w (RetP (PT kN (freshT p p.n.toNat 0)) noF w) := by
  go_enter Try.func15, Try.ntmps15
  go_wp2_with (go_at_call 33; refine Hid.out ?_)
  refine Lib.hid ?_
  have hE : Ext w ((w.alloc (.cells #[.int .i64 p.n, .int .i64 p.t, .int .i64 p.r, .int .i64 p.d, .int .i64 p.b, .int .i64 p.g] 23)).alloc (.cells #[.int .i64 0, .int .i64 0, .int .u64 0, .int .u64 0, .nilFunc, .pointer none] 58)) := by repeat (first | exact ext_refl _ | apply ext_alloc)
  have hb0 : ((w.alloc (.cells #[.int .i64 p.n, .int .i64 p.t, .int .i64 p.r, .int .i64 p.d, .int .i64 p.b, .int .i64 p.g] 23)).alloc (.cells #[.int .i64 0, .int .i64 0, .int .u64 0, .int .u64 0, .nilFunc, .pointer none] 58)).heap[w.heap.size]? = some (.cells #[.int .i64 p.n, .int .i64 p.t, .int .i64 p.r, .int .i64 p.d, .int .i64 p.b, .int .i64 p.g] 23) := (Below.heap_alloc _ _ _ (by simp <;> omega)).trans (heap_at _ _ _ (by simp))
  have hb1 : ((w.alloc (.cells #[.int .i64 p.n, .int .i64 p.t, .int .i64 p.r, .int .i64 p.d, .int .i64 p.b, .int .i64 p.g] 23)).alloc (.cells #[.int .i64 0, .int .i64 0, .int .u64 0, .int .u64 0, .nilFunc, .pointer none] 58)).heap[w.heap.size + 1]? = some (.cells #[.int .i64 0, .int .i64 0, .int .u64 0, .int .u64 0, .nilFunc, .pointer none] 58) := heap_at _ _ _ (by simp)
  have hW : ((w.alloc (.cells #[.int .i64 p.n, .int .i64 p.t, .int .i64 p.r, .int .i64 p.d, .int .i64 p.b, .int .i64 p.g] 23)).alloc (.cells #[.int .i64 0, .int .i64 0, .int .u64 0, .int .u64 0, .nilFunc, .pointer none] 58)).heap.size = w.heap.size + 1 + 1 := by simp
  generalize ((w.alloc (.cells #[.int .i64 p.n, .int .i64 p.t, .int .i64 p.r, .int .i64 p.d, .int .i64 p.b, .int .i64 p.g] 23)).alloc (.cells #[.int .i64 0, .int .i64 0, .int .u64 0, .int .u64 0, .nilFunc, .pointer none] 58)) = W at hE hb0 hb1 hW ⊢
  replace hW := Lib.hid hW
  refine (freshFrom_PT p h2 p.n.toNat 0 (by omega) (by omega) W).mono ?_
  rintro e w' hR
  obtain ⟨v', F', rfl, hX, hp, hbn, hsub, hnF, hbq⟩ := hR.tail (G := noF) (w.heap.size + 1) hE (heap_lt hb1) (fun h => h) (fun _ h => h.elim)
  have hbx := hbq.trans hb1
  clear hbq hR
  clear hE hb0 hb1 hW
  obtain ⟨a2, fn2, rfl, hfn⟩ := shN hp
  have hXX := put6_ext (b := w.heap.size + 1) (.int .i64 a2.op) (.int .i64 a2.at_) (.int .u64 (U a2.a)) (.int .u64 (U a2.b)) (fn2) (.pointer none) hX (by omega)
  have hB := put6_block (.int .i64 a2.op) (.int .i64 a2.at_) (.int .u64 (U a2.a)) (.int .u64 (U a2.b)) (fn2) (.pointer none) hbx
  have hP := hp.agr (Agr.of_put6 (b := w.heap.size + 1) (.int .i64 a2.op) (.int .i64 a2.at_) (.int .u64 (U a2.a)) (.int .u64 (U a2.b)) (fn2) (.pointer none) hnF)
  have hS : (put6 (w.heap.size + 1) (.int .i64 a2.op) (.int .i64 a2.at_) (.int .u64 (U a2.a)) (.int .u64 (U a2.b)) (fn2) (.pointer none) w').heap.size = w'.heap.size := put6_size (.int .i64 a2.op) (.int .i64 a2.at_) (.int .u64 (U a2.a)) (.int .u64 (U a2.b)) (fn2) (.pointer none)
  obtain ⟨c0, c1, c2, c3, c4, c5, cz, ll⟩ := six_of hbx
  rw [put6] at hXX hB hP hS
  have HX := Lib.hid (And.intro hXX (And.intro hB (And.intro hP hS)))
  have HFN := Lib.hid hfn
  have HBN := Lib.hid hbn
  have HSUB := Lib.hid hsub
  clear hXX hB hP hS hX hbx hp hfn hbn hsub hnF
  rcases HFN.out with rfl | ⟨g', caps', rfl⟩
  all_goals
    go_wp2
    clear c0 c1 c2 c3 c4 c5 cz ll
    obtain ⟨hX, hB, hP, hS⟩ := HX.out
    clear HX
    generalize (World.setCell _ (⟨w.heap.size + 1, 5, none⟩ : Addr) _) = Z at hX hB hP hS ⊢
    obtain ⟨c0, c1, c2, c3, c4, c5, cz, ll⟩ := six_of hB
    exact bodyPost_ret (by simp only [results, Try.results15, go_sem]; simp [go_sem, c0, c1, c2, c3, c4, c5]) rfl ⟨_, F', rfl, hX, hP, fun j hj => by rw [hS]; exact HBN.out j hj, HSUB.out⟩
end Go.Proofs.Ytpidmbclgfnekaa
