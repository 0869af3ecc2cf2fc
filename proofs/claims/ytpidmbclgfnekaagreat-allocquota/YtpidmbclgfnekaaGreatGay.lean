/-
  What the call of Reclaim comes to. Conditions: those of each theorem.
-/
import Derived.Test.YtpidmbclgfnekaaGreatGax
namespace Go.Proofs.YtpidmbclgfnekaaGreat
open Go Go.RowKit

set_option maxRecDepth 8000 in
set_option maxHeartbeats 2000000 in
theorem rcl2_PT (p : Pl) (n : Int) (N : Nat) (x : BitVec 64) (B1 B2 : Nat) (w : World)  (k1 : PBox B1 p w) (k2 : w.heap[B2]? = some (.cells #[.int .i64 n] 3 (0, 0))) :
    Calls Tryz.prog 190 #[.int .u64 (U x), .pointer (some ⟨B1, 0, none⟩), .pointer (some ⟨B2, 0, none⟩)] w (RetP (PT kI (frdT p n N x)) noF w) := by
  have qk1 := heap_lt k1
  have ⟨c0, c1, c2, c3, c4, c5, lt⟩ := PBox.plc k1
  have qk2 := heap_lt k2
  have d2_0 := cell_at (o := 0) k2 rfl
  have e2 := cell_lt d2_0
  replace k1 := Lib.hid k1
  replace k2 := Lib.hid k2
  go_enter Tryz.func190, Tryz.ntmps190
  go_wp2_with (go_at_call 191; refine Hid.out ?_)
  refine Lib.hid ?_
  have hE : Ext w (w.alloc (.cells #[.int .i64 0, .int .i64 0, .int .i64 0, .int .u64 0, .int .u64 0, .nilFunc, .pointer none] 62)) := by repeat (first | exact ext_refl _ | apply ext_alloc)
  have hb0 : (w.alloc (.cells #[.int .i64 0, .int .i64 0, .int .i64 0, .int .u64 0, .int .u64 0, .nilFunc, .pointer none] 62)).heap[w.heap.size]? = some (.cells #[.int .i64 0, .int .i64 0, .int .i64 0, .int .u64 0, .int .u64 0, .nilFunc, .pointer none] 62) := heap_at _ _ _ (by simp)
  have hW : (w.alloc (.cells #[.int .i64 0, .int .i64 0, .int .i64 0, .int .u64 0, .int .u64 0, .nilFunc, .pointer none] 62)).heap.size = w.heap.size + 1 := by simp
  generalize (w.alloc (.cells #[.int .i64 0, .int .i64 0, .int .i64 0, .int .u64 0, .int .u64 0, .nilFunc, .pointer none] 62)) = W at hE hb0 hW ⊢
  replace k1 := (hE.block _ (heap_lt k1.out)).trans k1.out
  replace k2 := (hE.block _ (heap_lt k2.out)).trans k2.out
  clear hW
  clear c0 c1 c2 c3 c4 c5 lt d2_0 e2
  refine (frd_PT p n N x W).mono ?_
  rintro e w' hR
  obtain ⟨v', F', rfl, hX, hp, hbn, hsub, hnF, hbq⟩ := hR.tail (G := noF) (w.heap.size) hE (heap_lt hb0) (fun h => h) (fun _ h => h.elim)
  have hbx := hbq.trans hb0
  clear hbq hR
  clear hE hb0 k1 k2
  obtain ⟨y, a2, fn2, rfl, hfn⟩ := shI hp
  have hXX := put7_ext (b := w.heap.size) (.int .i64 y) (.int .i64 a2.op) (.int .i64 a2.at_) (.int .u64 (U a2.a)) (.int .u64 (U a2.b)) (fn2) (.pointer none) hX (by omega)
  have hB := put7_block (.int .i64 y) (.int .i64 a2.op) (.int .i64 a2.at_) (.int .u64 (U a2.a)) (.int .u64 (U a2.b)) (fn2) (.pointer none) hbx
  have hP := hp.agr (Agr.of_put7 (b := w.heap.size) (.int .i64 y) (.int .i64 a2.op) (.int .i64 a2.at_) (.int .u64 (U a2.a)) (.int .u64 (U a2.b)) (fn2) (.pointer none) hnF)
  have hS : (put7 (w.heap.size) (.int .i64 y) (.int .i64 a2.op) (.int .i64 a2.at_) (.int .u64 (U a2.a)) (.int .u64 (U a2.b)) (fn2) (.pointer none) w').heap.size = w'.heap.size := put7_size (.int .i64 y) (.int .i64 a2.op) (.int .i64 a2.at_) (.int .u64 (U a2.a)) (.int .u64 (U a2.b)) (fn2) (.pointer none)
  obtain ⟨c0, c1, c2, c3, c4, c5, c6, cz, ll⟩ := sev_of hbx
  rw [put7] at hXX hB hP hS
  have HX := Lib.hid (And.intro hXX (And.intro hB (And.intro hP hS)))
  have HFN := Lib.hid hfn
  have HBN := Lib.hid hbn
  have HSUB := Lib.hid hsub
  clear hXX hB hP hS hX hbx hp hfn hbn hsub hnF
  rcases HFN.out with rfl | ⟨g', caps', rfl⟩
  all_goals
    go_wp2
    clear c0 c1 c2 c3 c4 c5 c6 cz ll
    obtain ⟨hX, hB, hP, hS⟩ := HX.out
    clear HX
    generalize (World.setCell _ (⟨w.heap.size, 6, none⟩ : Addr) _) = Z at hX hB hP hS ⊢
    obtain ⟨c0, c1, c2, c3, c4, c5, c6, cz, ll⟩ := sev_of hB
    exact bodyPost_ret (by simp only [results, Tryz.results190, go_sem]; simp [go_sem, c0, c1, c2, c3, c4, c5, c6]) rfl ⟨_, F', rfl, hX, hP, fun j hj => by rw [hS]; exact HBN.out j hj, HSUB.out⟩
theorem rcl2_CT (p : Pl) (n : Int) (N : Nat) (B1 B2 : Nat) (w : World)  (k1 : PBox B1 p w) (k2 : w.heap[B2]? = some (.cells #[.int .i64 n] 3 (0, 0))) :
    CT kU kI (fun x => frdT p n N x) (fun j => j = B1 ∨ j = B2) (.func (.func 190) #[] #[.pointer (some ⟨B1, 0, none⟩), .pointer (some ⟨B2, 0, none⟩)]) w :=
  ⟨_, _, rfl, enters_of Tryz.func190 (by kernel_rfl) rfl, fun x w' ha => (rcl2_PT p n N x B1 B2 w'  ((ha B1 (.inl rfl)).trans k1) ((ha B2 (.inr rfl)).trans k2)).mono fun _ _ h => h.mono fun _ h => h.elim⟩
set_option maxRecDepth 8000 in
set_option maxHeartbeats 2000000 in
theorem rcl1_PT (p : Pl) (n : Int) (N : Nat) (sa : Option Addr) (sn sc : Nat) (B1 B2 : Nat) (w : World)  (k1 : PBox B1 p w) (k2 : w.heap[B2]? = some (.cells #[.int .i64 n] 3 (0, 0))) :
    Calls Tryz.prog 189 #[.slice sa sn sc, .pointer (some ⟨B1, 0, none⟩), .pointer (some ⟨B2, 0, none⟩)] w (RetP (PT kI (rcl1T p n N)) (fun j => j = B1 ∨ j = B2) w) := by
  have qk1 := heap_lt k1
  have ⟨c0, c1, c2, c3, c4, c5, lt⟩ := PBox.plc k1
  have qk2 := heap_lt k2
  have d2_0 := cell_at (o := 0) k2 rfl
  have e2 := cell_lt d2_0
  replace k1 := Lib.hid k1
  replace k2 := Lib.hid k2
  go_enter Tryz.func189, Tryz.ntmps189
  go_wp2_with (go_at_call 17; refine Hid.out ?_)
  refine Lib.hid ?_
  have hE : Ext w (w.alloc (.cells #[.int .i64 0, .int .i64 0, .int .i64 0, .int .u64 0, .int .u64 0, .nilFunc, .pointer none] 62)) := by repeat (first | exact ext_refl _ | apply ext_alloc)
  have hb0 : (w.alloc (.cells #[.int .i64 0, .int .i64 0, .int .i64 0, .int .u64 0, .int .u64 0, .nilFunc, .pointer none] 62)).heap[w.heap.size]? = some (.cells #[.int .i64 0, .int .i64 0, .int .i64 0, .int .u64 0, .int .u64 0, .nilFunc, .pointer none] 62) := heap_at _ _ _ (by simp)
  have hW : (w.alloc (.cells #[.int .i64 0, .int .i64 0, .int .i64 0, .int .u64 0, .int .u64 0, .nilFunc, .pointer none] 62)).heap.size = w.heap.size + 1 := by simp
  generalize (w.alloc (.cells #[.int .i64 0, .int .i64 0, .int .i64 0, .int .u64 0, .int .u64 0, .nilFunc, .pointer none] 62)) = W at hE hb0 hW ⊢
  replace k1 := (hE.block _ (heap_lt k1.out)).trans k1.out
  replace k2 := (hE.block _ (heap_lt k2.out)).trans k2.out
  clear hW
  clear c0 c1 c2 c3 c4 c5 lt d2_0 e2
  refine (state_any p n W).mono ?_
  rintro e w1 ⟨rfl, hx⟩
  replace hE := ext_trans hE hx
  replace hb0 := (hx.block _ (heap_lt hb0)).trans hb0
  replace k1 := (hx.block _ (heap_lt k1)).trans k1
  replace k2 := (hx.block _ (heap_lt k2)).trans k2
  clear hx
  replace hE := Lib.hid hE
  replace hb0 := Lib.hid hb0
  replace k1 := Lib.hid k1
  replace k2 := Lib.hid k2
  go_wp2_with (go_at_call 96; refine Hid.out ?_)
  refine Lib.hid ?_
  replace hE := hE.out
  replace hb0 := hb0.out
  replace k1 := k1.out
  replace k2 := k2.out
  refine (get_PT (p.stF n) w1).mono ?_
  rintro e w2 ⟨v1, F1, rfl, hx, hp1, hbn1, hsub⟩
  have hn1 : ¬ F1 (w.heap.size) := fun h => (hsub _ h).elim (fun h => h) fun h => by have := heap_lt hb0; omega
  have hs1 : ∀ j, F1 j → noF j ∨ w.heap.size ≤ j := fun j hj => (hsub j hj).imp_right fun h => Nat.le_trans hE.size h
  replace hE := ext_trans hE hx
  replace hb0 := (hx.block _ (heap_lt hb0)).trans hb0
  replace k1 := (hx.block _ (heap_lt k1)).trans k1
  replace k2 := (hx.block _ (heap_lt k2)).trans k2
  clear hx hsub
  replace hE := Lib.hid hE
  replace hb0 := Lib.hid hb0
  replace k1 := Lib.hid k1
  replace k2 := Lib.hid k2
  replace hp1 := Lib.hid hp1
  replace hbn1 := Lib.hid hbn1
  replace hs1 := Lib.hid hs1
  replace hn1 := Lib.hid hn1
  go_wp2_with (go_at_call 95; refine Hid.out ?_)
  refine Lib.hid ?_
  replace hE := hE.out
  replace hb0 := hb0.out
  replace k1 := k1.out
  replace k2 := k2.out
  replace hp1 := hp1.out
  replace hbn1 := hbn1.out
  replace hs1 := hs1.out
  replace hn1 := hn1.out
  have hCT := rcl2_CT p n N B1 B2 w2 k1 k2
  refine (then_UI _ _ F1 _ v1 _ w2 hp1 hCT hbn1 (fun j h => by rcases h with rfl | rfl; exact heap_lt k1; exact heap_lt k2)).mono ?_
  rintro e w' hR
  obtain ⟨v', F', rfl, hX, hp, hbn, hsub, hnF, hbq⟩ := hR.tail (G := (fun j => j = B1 ∨ j = B2)) (w.heap.size) hE (heap_lt hb0) (fun h => by rcases h with h | h | h; exact hn1 h; omega; omega) (fun j h => by rcases h with h | h | h; exact (hs1 j h).imp_left False.elim; exact .inl (.inl h); exact .inl (.inr h))
  have hbx := hbq.trans hb0
  clear hbq hR
  clear hE hb0 k1 k2 hp1 hbn1 hs1 hn1 hCT
  obtain ⟨y, a2, fn2, rfl, hfn⟩ := shI hp
  have hXX := put7_ext (b := w.heap.size) (.int .i64 y) (.int .i64 a2.op) (.int .i64 a2.at_) (.int .u64 (U a2.a)) (.int .u64 (U a2.b)) (fn2) (.pointer none) hX (by omega)
  have hB := put7_block (.int .i64 y) (.int .i64 a2.op) (.int .i64 a2.at_) (.int .u64 (U a2.a)) (.int .u64 (U a2.b)) (fn2) (.pointer none) hbx
  have hP := hp.agr (Agr.of_put7 (b := w.heap.size) (.int .i64 y) (.int .i64 a2.op) (.int .i64 a2.at_) (.int .u64 (U a2.a)) (.int .u64 (U a2.b)) (fn2) (.pointer none) hnF)
  have hS : (put7 (w.heap.size) (.int .i64 y) (.int .i64 a2.op) (.int .i64 a2.at_) (.int .u64 (U a2.a)) (.int .u64 (U a2.b)) (fn2) (.pointer none) w').heap.size = w'.heap.size := put7_size (.int .i64 y) (.int .i64 a2.op) (.int .i64 a2.at_) (.int .u64 (U a2.a)) (.int .u64 (U a2.b)) (fn2) (.pointer none)
  obtain ⟨c0, c1, c2, c3, c4, c5, c6, cz, ll⟩ := sev_of hbx
  rw [put7] at hXX hB hP hS
  have HX := Lib.hid (And.intro hXX (And.intro hB (And.intro hP hS)))
  have HFN := Lib.hid hfn
  have HBN := Lib.hid hbn
  have HSUB := Lib.hid hsub
  clear hXX hB hP hS hX hbx hp hfn hbn hsub hnF
  rcases HFN.out with rfl | ⟨g', caps', rfl⟩
  all_goals
    go_wp2
    clear c0 c1 c2 c3 c4 c5 c6 cz ll
    obtain ⟨hX, hB, hP, hS⟩ := HX.out
    clear HX
    generalize (World.setCell _ (⟨w.heap.size, 6, none⟩ : Addr) _) = Z at hX hB hP hS ⊢
    obtain ⟨c0, c1, c2, c3, c4, c5, c6, cz, ll⟩ := sev_of hB
    exact bodyPost_ret (by simp only [results, Tryz.results189, go_sem]; simp [go_sem, c0, c1, c2, c3, c4, c5, c6]) rfl ⟨_, F', rfl, hX, hP, fun j hj => by rw [hS]; exact HBN.out j hj, HSUB.out⟩
theorem rcl1_CL (p : Pl) (n : Int) (N : Nat) (B1 B2 : Nat) (w : World) (k1 : PBox B1 p w) (k2 : w.heap[B2]? = some (.cells #[.int .i64 n] 3 (0, 0))) : CL kI (rcl1T p n N) (fun j => j = B1 ∨ j = B2) (.func (.func 189) #[] #[.pointer (some ⟨B1, 0, none⟩), .pointer (some ⟨B2, 0, none⟩)]) w :=
  ⟨_, _, rfl, enters_of Tryz.func189 (by kernel_rfl) rfl, fun a m c w' ha => (rcl1_PT p n N a m c B1 B2 w' ((ha B1 (.inl rfl)).trans k1) ((ha B2 (.inr rfl)).trans k2))⟩
set_option maxRecDepth 8000 in
set_option maxHeartbeats 2000000 in
theorem rcl_PT (p : Pl) (n : Int) (N : Nat) (w : World)   :
    Calls Tryz.prog 182 #[plV p, .int .i64 n] w (RetP (PT kI (rclT p n N)) noF w) := by
  go_enter Tryz.func182, Tryz.ntmps182
  go_wp2_with (go_at_call 188; refine Hid.out ?_)
  refine Lib.hid ?_
  have hE : Ext w (((w.alloc (.cells #[.int .i64 p.n, .int .i64 p.t, .int .i64 p.r, .int .i64 p.d, .int .i64 p.b, .int .i64 p.g] 23)).alloc (.cells #[.int .i64 n] 3)).alloc (.cells #[.int .i64 0, .int .i64 0, .int .i64 0, .int .u64 0, .int .u64 0, .nilFunc, .pointer none] 62)) := by repeat (first | exact ext_refl _ | apply ext_alloc)
  have hb0 : (((w.alloc (.cells #[.int .i64 p.n, .int .i64 p.t, .int .i64 p.r, .int .i64 p.d, .int .i64 p.b, .int .i64 p.g] 23)).alloc (.cells #[.int .i64 n] 3)).alloc (.cells #[.int .i64 0, .int .i64 0, .int .i64 0, .int .u64 0, .int .u64 0, .nilFunc, .pointer none] 62)).heap[w.heap.size]? = some (.cells #[.int .i64 p.n, .int .i64 p.t, .int .i64 p.r, .int .i64 p.d, .int .i64 p.b, .int .i64 p.g] 23) := (Below.heap_alloc _ _ _ (by simp <;> omega)).trans ((Below.heap_alloc _ _ _ (by simp <;> omega)).trans (heap_at _ _ _ (by simp)))
  have hb1 : (((w.alloc (.cells #[.int .i64 p.n, .int .i64 p.t, .int .i64 p.r, .int .i64 p.d, .int .i64 p.b, .int .i64 p.g] 23)).alloc (.cells #[.int .i64 n] 3)).alloc (.cells #[.int .i64 0, .int .i64 0, .int .i64 0, .int .u64 0, .int .u64 0, .nilFunc, .pointer none] 62)).heap[w.heap.size + 1]? = some (.cells #[.int .i64 n] 3) := (Below.heap_alloc _ _ _ (by simp <;> omega)).trans (heap_at _ _ _ (by simp))
  have hb2 : (((w.alloc (.cells #[.int .i64 p.n, .int .i64 p.t, .int .i64 p.r, .int .i64 p.d, .int .i64 p.b, .int .i64 p.g] 23)).alloc (.cells #[.int .i64 n] 3)).alloc (.cells #[.int .i64 0, .int .i64 0, .int .i64 0, .int .u64 0, .int .u64 0, .nilFunc, .pointer none] 62)).heap[w.heap.size + 1 + 1]? = some (.cells #[.int .i64 0, .int .i64 0, .int .i64 0, .int .u64 0, .int .u64 0, .nilFunc, .pointer none] 62) := heap_at _ _ _ (by simp)
  have hW : (((w.alloc (.cells #[.int .i64 p.n, .int .i64 p.t, .int .i64 p.r, .int .i64 p.d, .int .i64 p.b, .int .i64 p.g] 23)).alloc (.cells #[.int .i64 n] 3)).alloc (.cells #[.int .i64 0, .int .i64 0, .int .i64 0, .int .u64 0, .int .u64 0, .nilFunc, .pointer none] 62)).heap.size = w.heap.size + 1 + 1 + 1 := by simp
  generalize (((w.alloc (.cells #[.int .i64 p.n, .int .i64 p.t, .int .i64 p.r, .int .i64 p.d, .int .i64 p.b, .int .i64 p.g] 23)).alloc (.cells #[.int .i64 n] 3)).alloc (.cells #[.int .i64 0, .int .i64 0, .int .i64 0, .int .u64 0, .int .u64 0, .nilFunc, .pointer none] 62)) = W at hE hb0 hb1 hb2 hW ⊢
  clear hW
  refine (wipe_PA p n W).mono ?_
  rintro e w1 ⟨v1, F1, rfl, hx, hp1, hbn1, hsub⟩
  have hn1 : ¬ F1 (w.heap.size + 1 + 1) := fun h => (hsub _ h).elim (fun h => h) fun h => by have := heap_lt hb2; omega
  have hs1 : ∀ j, F1 j → noF j ∨ w.heap.size ≤ j := fun j hj => (hsub j hj).imp_right fun h => Nat.le_trans hE.size h
  replace hE := ext_trans hE hx
  replace hb0 := (hx.block _ (heap_lt hb0)).trans hb0
  replace hb1 := (hx.block _ (heap_lt hb1)).trans hb1
  replace hb2 := (hx.block _ (heap_lt hb2)).trans hb2
  clear hx hsub
  replace hE := Lib.hid hE
  replace hb0 := Lib.hid hb0
  replace hb1 := Lib.hid hb1
  replace hb2 := Lib.hid hb2
  replace hp1 := Lib.hid hp1
  replace hbn1 := Lib.hid hbn1
  replace hs1 := Lib.hid hs1
  replace hn1 := Lib.hid hn1
  go_wp2_with (go_at_call 187; refine Hid.out ?_)
  refine Lib.hid ?_
  replace hE := hE.out
  replace hb0 := hb0.out
  replace hb1 := hb1.out
  replace hb2 := hb2.out
  replace hp1 := hp1.out
  replace hbn1 := hbn1.out
  replace hs1 := hs1.out
  replace hn1 := hn1.out
  have hCT := rcl1_CL p n N w.heap.size (w.heap.size + 1) w1 hb0 hb1
  have hlw : (wipeL p n).length ≤ 3 := by unfold wipeL; rw [List.length_map]; exact wds_len p n
  refine (then_LI _ _ _ F1 _ v1 _ w1 hp1 hCT hbn1 (fun j h => by rcases h with rfl | rfl; exact heap_lt hb0; exact heap_lt hb1) (by simp; omega)).mono ?_
  rintro e w' hR
  obtain ⟨v', F', rfl, hX, hp, hbn, hsub, hnF, hbq⟩ := hR.tail (G := noF) (w.heap.size + 1 + 1) hE (heap_lt hb2) (fun h => by rcases h with h | h | h; exact hn1 h; omega; omega) (fun j h => by rcases h with h | h | h; exact (hs1 j h).imp_left False.elim; exact .inr (by omega); exact .inr (by omega))
  have hbx := hbq.trans hb2
  clear hbq hR
  clear hE hb0 hb1 hb2 hp1 hbn1 hs1 hn1 hCT hlw
  obtain ⟨y, a2, fn2, rfl, hfn⟩ := shI hp
  have hXX := put7_ext (b := w.heap.size + 1 + 1) (.int .i64 y) (.int .i64 a2.op) (.int .i64 a2.at_) (.int .u64 (U a2.a)) (.int .u64 (U a2.b)) (fn2) (.pointer none) hX (by omega)
  have hB := put7_block (.int .i64 y) (.int .i64 a2.op) (.int .i64 a2.at_) (.int .u64 (U a2.a)) (.int .u64 (U a2.b)) (fn2) (.pointer none) hbx
  have hP := hp.agr (Agr.of_put7 (b := w.heap.size + 1 + 1) (.int .i64 y) (.int .i64 a2.op) (.int .i64 a2.at_) (.int .u64 (U a2.a)) (.int .u64 (U a2.b)) (fn2) (.pointer none) hnF)
  have hS : (put7 (w.heap.size + 1 + 1) (.int .i64 y) (.int .i64 a2.op) (.int .i64 a2.at_) (.int .u64 (U a2.a)) (.int .u64 (U a2.b)) (fn2) (.pointer none) w').heap.size = w'.heap.size := put7_size (.int .i64 y) (.int .i64 a2.op) (.int .i64 a2.at_) (.int .u64 (U a2.a)) (.int .u64 (U a2.b)) (fn2) (.pointer none)
  obtain ⟨c0, c1, c2, c3, c4, c5, c6, cz, ll⟩ := sev_of hbx
  rw [put7] at hXX hB hP hS
  have HX := Lib.hid (And.intro hXX (And.intro hB (And.intro hP hS)))
  have HFN := Lib.hid hfn
  have HBN := Lib.hid hbn
  have HSUB := Lib.hid hsub
  clear hXX hB hP hS hX hbx hp hfn hbn hsub hnF
  rcases HFN.out with rfl | ⟨g', caps', rfl⟩
  all_goals
    go_wp2
    clear c0 c1 c2 c3 c4 c5 c6 cz ll
    obtain ⟨hX, hB, hP, hS⟩ := HX.out
    clear HX
    generalize (World.setCell _ (⟨w.heap.size + 1 + 1, 6, none⟩ : Addr) _) = Z at hX hB hP hS ⊢
    obtain ⟨c0, c1, c2, c3, c4, c5, c6, cz, ll⟩ := sev_of hB
    exact bodyPost_ret (by simp only [results, Tryz.results182, go_sem]; simp [go_sem, c0, c1, c2, c3, c4, c5, c6]) rfl ⟨_, F', rfl, hX, hP, fun j hj => by rw [hS]; exact HBN.out j hj, HSUB.out⟩
end Go.Proofs.YtpidmbclgfnekaaGreat

/-
  What the call of become comes to. Conditions: those of each theorem.
-/
namespace Go.Proofs.YtpidmbclgfnekaaGreat
open Go Go.RowKit

set_option maxRecDepth 8000 in
set_option maxHeartbeats 2000000 in
theorem bec2_PT (s : St) (B1 : Nat) (w : World)  (k1 : w.heap[B1]? = some (.cells #[.int .i64 s.g, .int .i64 s.m, .int .i64 s.k] 56 (0, 0))) :
    Calls Tryz.prog 111 #[.agg #[], .pointer (some ⟨B1, 0, none⟩)] w (RetP (PT kS (.done s)) noF w) := by
  have qk1 := heap_lt k1
  have d1_0 := cell_at (o := 0) k1 rfl
  have d1_1 := cell_at (o := 1) k1 rfl
  have d1_2 := cell_at (o := 2) k1 rfl
  have e1 := cell_lt d1_0
  replace k1 := Lib.hid k1
  go_enter Tryz.func111, Tryz.ntmps111
  go_wp2_with (go_at_call 112; refine Hid.out ?_)
  refine Lib.hid ?_
  have hE : Ext w ((w.alloc (.cells #[] 82)).alloc (.cells #[.int .i64 0, .int .i64 0, .int .i64 0, .int .i64 0, .int .i64 0, .int .u64 0, .int .u64 0, .nilFunc, .pointer none] 110)) := by repeat (first | exact ext_refl _ | apply ext_alloc)
  have hb0 : ((w.alloc (.cells #[] 82)).alloc (.cells #[.int .i64 0, .int .i64 0, .int .i64 0, .int .i64 0, .int .i64 0, .int .u64 0, .int .u64 0, .nilFunc, .pointer none] 110)).heap[w.heap.size]? = some (.cells #[] 82) := (Below.heap_alloc _ _ _ (by simp <;> omega)).trans (heap_at _ _ _ (by simp))
  have hb1 : ((w.alloc (.cells #[] 82)).alloc (.cells #[.int .i64 0, .int .i64 0, .int .i64 0, .int .i64 0, .int .i64 0, .int .u64 0, .int .u64 0, .nilFunc, .pointer none] 110)).heap[w.heap.size + 1]? = some (.cells #[.int .i64 0, .int .i64 0, .int .i64 0, .int .i64 0, .int .i64 0, .int .u64 0, .int .u64 0, .nilFunc, .pointer none] 110) := heap_at _ _ _ (by simp)
  have hW : ((w.alloc (.cells #[] 82)).alloc (.cells #[.int .i64 0, .int .i64 0, .int .i64 0, .int .i64 0, .int .i64 0, .int .u64 0, .int .u64 0, .nilFunc, .pointer none] 110)).heap.size = w.heap.size + 1 + 1 := by simp
  generalize ((w.alloc (.cells #[] 82)).alloc (.cells #[.int .i64 0, .int .i64 0, .int .i64 0, .int .i64 0, .int .i64 0, .int .u64 0, .int .u64 0, .nilFunc, .pointer none] 110)) = W at hE hb0 hb1 hW ⊢
  replace k1 := (hE.block _ (heap_lt k1.out)).trans k1.out
  clear hW
  clear d1_1 d1_2 d1_0 e1
  refine (doneS_PT s W).mono ?_
  rintro e w' hR
  obtain ⟨v', F', rfl, hX, hp, hbn, hsub, hnF, hbq⟩ := hR.tail (G := noF) (w.heap.size + 1) hE (heap_lt hb1) (fun h => h) (fun _ h => h.elim)
  have hbx := hbq.trans hb1
  clear hbq hR
  clear hE hb0 hb1 k1
  obtain ⟨y0, y1, y2, a2, fn2, rfl, hfn⟩ := shS hp
  have hXX := put9_ext (b := w.heap.size + 1) (.int .i64 y0) (.int .i64 y1) (.int .i64 y2) (.int .i64 a2.op) (.int .i64 a2.at_) (.int .u64 (U a2.a)) (.int .u64 (U a2.b)) (fn2) (.pointer none) hX (by omega)
  have hB := put9_block (.int .i64 y0) (.int .i64 y1) (.int .i64 y2) (.int .i64 a2.op) (.int .i64 a2.at_) (.int .u64 (U a2.a)) (.int .u64 (U a2.b)) (fn2) (.pointer none) hbx
  have hP := hp.agr (Agr.of_put9 (b := w.heap.size + 1) (.int .i64 y0) (.int .i64 y1) (.int .i64 y2) (.int .i64 a2.op) (.int .i64 a2.at_) (.int .u64 (U a2.a)) (.int .u64 (U a2.b)) (fn2) (.pointer none) hnF)
  have hS : (put9 (w.heap.size + 1) (.int .i64 y0) (.int .i64 y1) (.int .i64 y2) (.int .i64 a2.op) (.int .i64 a2.at_) (.int .u64 (U a2.a)) (.int .u64 (U a2.b)) (fn2) (.pointer none) w').heap.size = w'.heap.size := put9_size (.int .i64 y0) (.int .i64 y1) (.int .i64 y2) (.int .i64 a2.op) (.int .i64 a2.at_) (.int .u64 (U a2.a)) (.int .u64 (U a2.b)) (fn2) (.pointer none)
  obtain ⟨c0, c1, c2, c3, c4, c5, c6, c7, c8, cz, ll⟩ := nin_of hbx
  rw [put9] at hXX hB hP hS
  have HX := Lib.hid (And.intro hXX (And.intro hB (And.intro hP hS)))
  have HFN := Lib.hid hfn
  have HBN := Lib.hid hbn
  have HSUB := Lib.hid hsub
  clear hXX hB hP hS hX hbx hp hfn hbn hsub hnF
  rcases HFN.out with rfl | ⟨g', caps', rfl⟩
  all_goals
    go_wp2
    clear c0 c1 c2 c3 c4 c5 c6 c7 c8 cz ll
    obtain ⟨hX, hB, hP, hS⟩ := HX.out
    clear HX
    generalize (World.setCell _ (⟨w.heap.size + 1, 8, none⟩ : Addr) _) = Z at hX hB hP hS ⊢
    obtain ⟨c0, c1, c2, c3, c4, c5, c6, c7, c8, cz, ll⟩ := nin_of hB
    exact bodyPost_ret (by simp only [results, Tryz.results111, go_sem]; simp [go_sem, c0, c1, c2, c3, c4, c5, c6, c7, c8]) rfl ⟨_, F', rfl, hX, hP, fun j hj => by rw [hS]; exact HBN.out j hj, HSUB.out⟩
theorem bec2_CT (s : St) (B1 : Nat) (w : World)  (k1 : w.heap[B1]? = some (.cells #[.int .i64 s.g, .int .i64 s.m, .int .i64 s.k] 56 (0, 0))) :
    CT kN kS (fun _ => .done s) (fun j => j = B1) (.func (.func 111) #[] #[.pointer (some ⟨B1, 0, none⟩)]) w := by
  refine ⟨_, _, rfl, enters_of Tryz.func111 (by kernel_rfl) rfl, fun _ w' ha => ?_⟩
  exact (bec2_PT s  B1 w'  ((ha B1 (rfl)).trans k1)).mono fun _ _ h => h.mono fun j h => h.elim
set_option maxRecDepth 8000 in
set_option maxHeartbeats 2000000 in
theorem bec1_PT (p : Pl) (n : Int) (f : St → St) (x : BitVec 64) (F : Nat → Prop) (g : FuncId) (caps : Array Value) (B1 B2 B3 : Nat) (w : World) (hA : FS f F (.func (.func g) #[] caps) w) (k1 : w.heap[B1]? = some (.cells #[.func (.func g) #[] caps] 106 (0, 0))) (k2 : PBox B2 p w) (k3 : w.heap[B3]? = some (.cells #[.int .i64 n] 3 (0, 0))) (hF : Bnd F w) :
    Calls Tryz.prog 108 #[.int .u64 (U x), .pointer (some ⟨B1, 0, none⟩), .pointer (some ⟨B2, 0, none⟩), .pointer (some ⟨B3, 0, none⟩)] w (RetP (PT kS (bec1T p n f x)) noF w) := by
  obtain ⟨s0, hs0⟩ : ∃ s0, ofS x = s0 := ⟨_, rfl⟩
  obtain ⟨s1, hs1⟩ : ∃ s1, f s0 = s1 := ⟨_, rfl⟩
  have eT : bec1T p n f x = (setT (p.stF n) s1.word).bind fun _ => .done s1 := by unfold bec1T; rw [hs0, hs1]
  rw [eT]
  clear eT
  obtain ⟨g', caps', e, hg, hc⟩ := hA
  cases e
  have hN := hc s0
  rw [hs1] at hN
  unfold Enters at hg
  clear hc
  obtain ⟨g0, m0, j0⟩ := s0
  obtain ⟨g1, m1, j1⟩ := s1
  have hO : ∀ W, Calls Tryz.prog 78 #[.int .u64 (U x)] W (Ret (.tuple #[.agg #[.int .i64 g0, .int .i64 m0, .int .i64 j0], .bool (decide (isW x))]) W) := fun W => by
    have := of_any x W
    rw [hs0] at this
    exact this
  have hD : ∀ W, Calls Tryz.prog 18 #[.agg #[.int .i64 g1, .int .i64 m1, .int .i64 j1]] W (Ret (.int .u64 (U (St.word ⟨g1, m1, j1⟩))) W) := fun W => word_any ⟨g1, m1, j1⟩ W
  clear hs0 hs1
  have qk1 := heap_lt k1
  have d1_0 := cell_at (o := 0) k1 rfl
  have e1 := cell_lt d1_0
  have qk2 := heap_lt k2
  have ⟨c0, c1, c2, c3, c4, c5, lt⟩ := PBox.plc k2
  have qk3 := heap_lt k3
  have d3_0 := cell_at (o := 0) k3 rfl
  have e3 := cell_lt d3_0
  replace k1 := Lib.hid k1
  replace k2 := Lib.hid k2
  replace k3 := Lib.hid k3
  replace hO := Lib.hid hO
  replace hD := Lib.hid hD
  replace hN := Lib.hid hN
  replace hF := Lib.hid hF
  go_enter Tryz.func108, Tryz.ntmps108
  go_wp2_with (go_at_call 78; refine Hid.out ?_)
  refine Lib.hid ?_
  have hE : Ext w (w.alloc (.cells #[.int .i64 0, .int .i64 0, .int .i64 0, .int .i64 0, .int .i64 0, .int .u64 0, .int .u64 0, .nilFunc, .pointer none] 110)) := by repeat (first | exact ext_refl _ | apply ext_alloc)
  have hb0 : (w.alloc (.cells #[.int .i64 0, .int .i64 0, .int .i64 0, .int .i64 0, .int .i64 0, .int .u64 0, .int .u64 0, .nilFunc, .pointer none] 110)).heap[w.heap.size]? = some (.cells #[.int .i64 0, .int .i64 0, .int .i64 0, .int .i64 0, .int .i64 0, .int .u64 0, .int .u64 0, .nilFunc, .pointer none] 110) := heap_at _ _ _ (by simp)
  have hW : (w.alloc (.cells #[.int .i64 0, .int .i64 0, .int .i64 0, .int .i64 0, .int .i64 0, .int .u64 0, .int .u64 0, .nilFunc, .pointer none] 110)).heap.size = w.heap.size + 1 := by simp
  generalize (w.alloc (.cells #[.int .i64 0, .int .i64 0, .int .i64 0, .int .i64 0, .int .i64 0, .int .u64 0, .int .u64 0, .nilFunc, .pointer none] 110)) = W at hE hb0 hW ⊢
  replace k1 := (hE.block _ (heap_lt k1.out)).trans k1.out
  replace k2 := (hE.block _ (heap_lt k2.out)).trans k2.out
  replace k3 := (hE.block _ (heap_lt k3.out)).trans k3.out
  clear hW
  clear d1_0 e1 c0 c1 c2 c3 c4 c5 lt d3_0 e3
  refine (hO.out W).mono ?_
  rintro e wa ⟨rfl, hx⟩
  replace hE := ext_trans hE hx
  replace hb0 := (hx.block _ (heap_lt hb0)).trans hb0
  replace k1 := (hx.block _ (heap_lt k1)).trans k1
  replace k2 := (hx.block _ (heap_lt k2)).trans k2
  replace k3 := (hx.block _ (heap_lt k3)).trans k3
  clear hx
  have d4_0 := cell_at (o := 0) k1 rfl
  have e4 := cell_lt d4_0
  have hsz := heap_lt hb0
  have HCX := Lib.hid (hN.out (wa.alloc (.cells #[.int .i64 g0, .int .i64 m0, .int .i64 j0] 56)) (Agr.of_ext (ext_trans hE (ext_alloc _ (ext_refl wa))) hF.out))
  replace hE := Lib.hid hE
  replace hb0 := Lib.hid hb0
  replace k1 := Lib.hid k1
  replace k2 := Lib.hid k2
  replace k3 := Lib.hid k3
  go_wp2_with (refine HCX.out.mono ?_; rintro e wb ⟨rfl, hx⟩; refine Hid.out ?_)
  refine Lib.hid ?_
  replace hE := hE.out
  replace hb0 := hb0.out
  replace k1 := k1.out
  replace k2 := k2.out
  replace k3 := k3.out
  clear d4_0 e4
  have hb3 := (hx.block wa.heap.size (by simp)).trans (heap_at wa _ _ rfl)
  replace hx := ext_trans (ext_alloc _ (ext_refl wa)) hx
  replace hE := ext_trans hE hx
  replace hb0 := (hx.block _ (heap_lt hb0)).trans hb0
  replace k1 := (hx.block _ (heap_lt k1)).trans k1
  replace k2 := (hx.block _ (heap_lt k2)).trans k2
  replace k3 := (hx.block _ (heap_lt k3)).trans k3
  clear hx HCX
  have hrb := heap_lt hb0
  have z0 := cell_at (o := 0) hb3 rfl
  have z1 := cell_at (o := 1) hb3 rfl
  have z2 := cell_at (o := 2) hb3 rfl
  have zz : ∀ o, wb.frozen? ⟨wa.heap.size, o, none⟩ = false := fun _ => free_at hb3
  have zl := heap_lt hb3
  have hX := put3_ext (b := wa.heap.size) (.int .i64 g1) (.int .i64 m1) (.int .i64 j1) hE (by omega)
  have hB := put3_block (.int .i64 g1) (.int .i64 m1) (.int .i64 j1) hb3
  have hq0 := (put3_other (w := wb) (b := wa.heap.size) (k := w.heap.size) (.int .i64 g1) (.int .i64 m1) (.int .i64 j1) (by omega)).trans hb0
  have hq2 := (put3_other (w := wb) (b := wa.heap.size) (k := B2) (.int .i64 g1) (.int .i64 m1) (.int .i64 j1) (by omega)).trans k2
  have hq3 := (put3_other (w := wb) (b := wa.heap.size) (k := B3) (.int .i64 g1) (.int .i64 m1) (.int .i64 j1) (by omega)).trans k3
  rw [put3] at hX hB hq0 hq2 hq3
  have HQ := Lib.hid (And.intro hX (And.intro hB (And.intro hq0 (And.intro hq2 hq3))))
  clear hX hB hq0 hq2 hq3
  replace hE := Lib.hid hE
  replace hb0 := Lib.hid hb0
  replace k1 := Lib.hid k1
  replace k2 := Lib.hid k2
  replace k3 := Lib.hid k3
  replace hb3 := Lib.hid hb3
  go_upto_region 3 with (fail)
  clear z0 z1 z2 zz zl hE hb0 hb3 k1 k2 k3
  obtain ⟨hE, hb3, hb0, k2, k3⟩ := HQ.out
  clear HQ
  generalize (World.setCell _ (⟨wa.heap.size, 2, none⟩ : Addr) _) = X at hE hb3 hb0 k2 k3 ⊢
  have hsX := hE.size
  have ⟨c0, c1, c2, c3, c4, c5, lt⟩ := PBox.plc k2
  have d2 := cell_at (o := 0) k3 rfl
  have d3 := cell_at (o := 0) hb3 rfl
  have d4 := cell_at (o := 1) hb3 rfl
  have d5 := cell_at (o := 2) hb3 rfl
  have e2 := cell_lt d2
  have e3 := cell_lt d3
  replace hE := Lib.hid hE
  replace hb0 := Lib.hid hb0
  replace hb3 := Lib.hid hb3
  replace k2 := Lib.hid k2
  replace k3 := Lib.hid k3
  refine wp_region_mix (fun w' => ∃ s, w' = over X s) [(0, [0, 1, 3, 6]), (1, [2]), (1, [4]), (1, [5]), (1, [7]), (2, [8])] (by kernel_rfl) (by kernel_rfl) (over_of (ext_drew (ext_refl X))) ?_
  simp only [pieces, pickL, List.map_cons, List.map_nil, List.getD_cons_zero, List.getD_cons_succ]
  refine mix_reads ?_
  repeat (go_big_quiet_step (fail))
  refine wpQuiet_nil (mix_acts ?_)
  have HX0 := Lib.hid (ext_drew (ext_refl X))
  go_wp2_with (go_at_call 17; refine (state_any p n _).mono ?_; rintro e w1 ⟨rfl, hx⟩; have HX1 := Lib.hid (ext_trans HX0.out hx); clear hx)
  refine mixQ_mk (over_of HX1.out) (mix_acts ?_)
  go_wp2_with (go_at_call 18; refine (hD.out _).mono ?_; rintro e w2 ⟨rfl, hx⟩; have HX2 := Lib.hid (ext_trans HX1.out hx); clear hx)
  refine mixQ_mk (over_of HX2.out) (mix_acts ?_)
  go_wp2_with (go_at_call 110; refine (set_PT (p.stF n) (St.word ⟨g1, m1, j1⟩) _).mono ?_; rintro e w4 ⟨v1, F1, rfl, hx, hp1, hbn1, hsub1⟩; refine Hid.out ?_)
  refine Lib.hid ?_
  replace hE := hE.out
  replace hb0 := hb0.out
  replace hb3 := hb3.out
  replace k2 := k2.out
  replace k3 := k3.out
  have hn1 : ¬ F1 (w.heap.size) := fun h => (hsub1 _ h).elim (fun h => h) fun h => by have := heap_lt hb0; have := HX2.out.size; omega
  have hs1 : ∀ j, F1 j → noF j ∨ w.heap.size ≤ j := fun j hj => (hsub1 j hj).imp_right fun h => Nat.le_trans (Nat.le_trans hE.size HX2.out.size) h
  have HX4 := Lib.hid (ext_trans HX2.out hx)
  replace hb0 := (HX4.out.block _ (heap_lt hb0)).trans hb0
  replace hb3 := (HX4.out.block _ (heap_lt hb3)).trans hb3
  replace k2 := (HX4.out.block _ (heap_lt k2)).trans k2
  replace k3 := (HX4.out.block _ (heap_lt k3)).trans k3
  replace hE := ext_trans hE HX4.out
  clear hx hsub1
  replace hE := Lib.hid hE
  replace hb0 := Lib.hid hb0
  replace hb3 := Lib.hid hb3
  replace k2 := Lib.hid k2
  replace k3 := Lib.hid k3
  replace hp1 := Lib.hid hp1
  replace hbn1 := Lib.hid hbn1
  replace hs1 := Lib.hid hs1
  replace hn1 := Lib.hid hn1
  go_wp2
  refine mixQ_mk (over_of HX4.out) (mix_acts ?_)
  go_wp2_with (go_at_call 109; refine Hid.out ?_)
  refine Lib.hid ?_
  replace hE := hE.out
  replace hb0 := hb0.out
  replace hb3 := hb3.out
  replace k2 := k2.out
  replace k3 := k3.out
  replace hp1 := hp1.out
  replace hbn1 := hbn1.out
  replace hs1 := hs1.out
  replace hn1 := hn1.out
  have hCT := bec2_CT ⟨g1, m1, j1⟩ wa.heap.size w4 hb3
  refine (then_NS _ _ F1 _ v1 _ w4 hp1 hCT hbn1 (fun j h => by subst h; exact heap_lt hb3)).mono ?_
  rintro e w' hR
  have HXZ := Lib.hid (ext_trans HX4.out hR.ext)
  obtain ⟨v', F', rfl, hX, hp, hbn, hsub, hnF, hbq⟩ := hR.tail (G := noF) (w.heap.size) hE (heap_lt hb0) (fun h => by rcases h with h | h; exact hn1 h; omega) (fun j h => by rcases h with h | h; exact hs1 j h; exact .inr (by omega))
  have hbx := hbq.trans hb0
  clear hbq hR
  go_wp2
  refine mixQ_mk (over_of HXZ.out) (mix_late ?_)
  clear hE hb0 hb3 k2 k3 hp1 hbn1 hs1 hn1 hCT c0 c1 c2 c3 c4 c5 lt d2 d3 d4 d5 e2 e3 hO hD hN hF hrb
  obtain ⟨y0, y1, y2, a2, fn2, rfl, hfn⟩ := shS hp
  have hXX := put9_ext (b := w.heap.size) (.int .i64 y0) (.int .i64 y1) (.int .i64 y2) (.int .i64 a2.op) (.int .i64 a2.at_) (.int .u64 (U a2.a)) (.int .u64 (U a2.b)) (fn2) (.pointer none) hX (by omega)
  have hB := put9_block (.int .i64 y0) (.int .i64 y1) (.int .i64 y2) (.int .i64 a2.op) (.int .i64 a2.at_) (.int .u64 (U a2.a)) (.int .u64 (U a2.b)) (fn2) (.pointer none) hbx
  have hP := hp.agr (Agr.of_put9 (b := w.heap.size) (.int .i64 y0) (.int .i64 y1) (.int .i64 y2) (.int .i64 a2.op) (.int .i64 a2.at_) (.int .u64 (U a2.a)) (.int .u64 (U a2.b)) (fn2) (.pointer none) hnF)
  have hS : (put9 (w.heap.size) (.int .i64 y0) (.int .i64 y1) (.int .i64 y2) (.int .i64 a2.op) (.int .i64 a2.at_) (.int .u64 (U a2.a)) (.int .u64 (U a2.b)) (fn2) (.pointer none) w').heap.size = w'.heap.size := put9_size (.int .i64 y0) (.int .i64 y1) (.int .i64 y2) (.int .i64 a2.op) (.int .i64 a2.at_) (.int .u64 (U a2.a)) (.int .u64 (U a2.b)) (fn2) (.pointer none)
  obtain ⟨c0, c1, c2, c3, c4, c5, c6, c7, c8, cz, ll⟩ := nin_of hbx
  rw [put9] at hXX hB hP hS
  have HX := Lib.hid (And.intro hXX (And.intro hB (And.intro hP hS)))
  have HFN := Lib.hid hfn
  have HBN := Lib.hid hbn
  have HSUB := Lib.hid hsub
  clear hXX hB hP hS hX hbx hp hfn hbn hsub hnF
  rcases HFN.out with rfl | ⟨g', caps', rfl⟩
  all_goals
    go_wp2
    refine lateQ_mk (fun _ => True) trivial (mix_end ?_)
    clear c0 c1 c2 c3 c4 c5 c6 c7 c8 cz ll
    obtain ⟨hX, hB, hP, hS⟩ := HX.out
    clear HX
    generalize (World.setCell _ (⟨w.heap.size, 8, none⟩ : Addr) _) = Z at hX hB hP hS ⊢
    obtain ⟨c0, c1, c2, c3, c4, c5, c6, c7, c8, cz, ll⟩ := nin_of hB
    go_wp2
    exact bodyPost_ret (by simp only [results, Tryz.results108, go_sem]; simp [go_sem, c0, c1, c2, c3, c4, c5, c6, c7, c8]) rfl ⟨_, F', rfl, hX, hP, fun j hj => by rw [hS]; exact HBN.out j hj, HSUB.out⟩
theorem bec1_CT (p : Pl) (n : Int) (f : St → St) (F : Nat → Prop) (g : FuncId) (caps : Array Value) (B1 B2 B3 : Nat) (w : World) (hA : FS f F (.func (.func g) #[] caps) w) (k1 : w.heap[B1]? = some (.cells #[.func (.func g) #[] caps] 106 (0, 0))) (k2 : PBox B2 p w) (k3 : w.heap[B3]? = some (.cells #[.int .i64 n] 3 (0, 0))) (hF : Bnd F w) :
    CT kU kS (fun x => bec1T p n f x) (fun j => F j ∨ j = B1 ∨ j = B2 ∨ j = B3) (.func (.func 108) #[] #[.pointer (some ⟨B1, 0, none⟩), .pointer (some ⟨B2, 0, none⟩), .pointer (some ⟨B3, 0, none⟩)]) w := by
  refine ⟨_, _, rfl, enters_of Tryz.func108 (by kernel_rfl) rfl, fun x w' ha => ?_⟩
  have hFw : Agr F w w' := ha.sub fun j h => .inl h
  exact (bec1_PT p n f x F g caps B1 B2 B3 w' (hA.agr hFw) ((ha B1 (.inr (.inl rfl))).trans k1) ((ha B2 (.inr (.inr (.inl rfl)))).trans k2) ((ha B3 (.inr (.inr (.inr rfl)))).trans k3) (hF.agr hFw)).mono fun _ _ h => h.mono fun j h => h.elim
set_option maxRecDepth 8000 in
set_option maxHeartbeats 2000000 in
theorem bec_PT (p : Pl) (n : Int) (f : St → St) (F : Nat → Prop) (g : FuncId) (caps : Array Value) (w : World) (hA : FS f F (.func (.func g) #[] caps) w)  (hF : Bnd F w) :
    Calls Tryz.prog 50 #[plV p, .int .i64 n, .func (.func g) #[] caps] w (RetP (PT kS (becT p n f)) F w) := by
  replace hA := Lib.hid hA
  go_enter Tryz.func50, Tryz.ntmps50
  go_wp2_with (go_at_call 17; refine Hid.out ?_)
  refine Lib.hid ?_
  have hE : Ext w ((((w.alloc (.cells #[.int .i64 p.n, .int .i64 p.t, .int .i64 p.r, .int .i64 p.d, .int .i64 p.b, .int .i64 p.g] 23)).alloc (.cells #[.int .i64 n] 3)).alloc (.cells #[.func (.func g) #[] caps] 106)).alloc (.cells #[.int .i64 0, .int .i64 0, .int .i64 0, .int .i64 0, .int .i64 0, .int .u64 0, .int .u64 0, .nilFunc, .pointer none] 110)) := by repeat (first | exact ext_refl _ | apply ext_alloc)
  have hb0 : ((((w.alloc (.cells #[.int .i64 p.n, .int .i64 p.t, .int .i64 p.r, .int .i64 p.d, .int .i64 p.b, .int .i64 p.g] 23)).alloc (.cells #[.int .i64 n] 3)).alloc (.cells #[.func (.func g) #[] caps] 106)).alloc (.cells #[.int .i64 0, .int .i64 0, .int .i64 0, .int .i64 0, .int .i64 0, .int .u64 0, .int .u64 0, .nilFunc, .pointer none] 110)).heap[w.heap.size]? = some (.cells #[.int .i64 p.n, .int .i64 p.t, .int .i64 p.r, .int .i64 p.d, .int .i64 p.b, .int .i64 p.g] 23) := (Below.heap_alloc _ _ _ (by simp <;> omega)).trans ((Below.heap_alloc _ _ _ (by simp <;> omega)).trans ((Below.heap_alloc _ _ _ (by simp <;> omega)).trans (heap_at _ _ _ (by simp))))
  have hb1 : ((((w.alloc (.cells #[.int .i64 p.n, .int .i64 p.t, .int .i64 p.r, .int .i64 p.d, .int .i64 p.b, .int .i64 p.g] 23)).alloc (.cells #[.int .i64 n] 3)).alloc (.cells #[.func (.func g) #[] caps] 106)).alloc (.cells #[.int .i64 0, .int .i64 0, .int .i64 0, .int .i64 0, .int .i64 0, .int .u64 0, .int .u64 0, .nilFunc, .pointer none] 110)).heap[w.heap.size + 1]? = some (.cells #[.int .i64 n] 3) := (Below.heap_alloc _ _ _ (by simp <;> omega)).trans ((Below.heap_alloc _ _ _ (by simp <;> omega)).trans (heap_at _ _ _ (by simp)))
  have hb2 : ((((w.alloc (.cells #[.int .i64 p.n, .int .i64 p.t, .int .i64 p.r, .int .i64 p.d, .int .i64 p.b, .int .i64 p.g] 23)).alloc (.cells #[.int .i64 n] 3)).alloc (.cells #[.func (.func g) #[] caps] 106)).alloc (.cells #[.int .i64 0, .int .i64 0, .int .i64 0, .int .i64 0, .int .i64 0, .int .u64 0, .int .u64 0, .nilFunc, .pointer none] 110)).heap[w.heap.size + 1 + 1]? = some (.cells #[.func (.func g) #[] caps] 106) := (Below.heap_alloc _ _ _ (by simp <;> omega)).trans (heap_at _ _ _ (by simp))
  have hb3 : ((((w.alloc (.cells #[.int .i64 p.n, .int .i64 p.t, .int .i64 p.r, .int .i64 p.d, .int .i64 p.b, .int .i64 p.g] 23)).alloc (.cells #[.int .i64 n] 3)).alloc (.cells #[.func (.func g) #[] caps] 106)).alloc (.cells #[.int .i64 0, .int .i64 0, .int .i64 0, .int .i64 0, .int .i64 0, .int .u64 0, .int .u64 0, .nilFunc, .pointer none] 110)).heap[w.heap.size + 1 + 1 + 1]? = some (.cells #[.int .i64 0, .int .i64 0, .int .i64 0, .int .i64 0, .int .i64 0, .int .u64 0, .int .u64 0, .nilFunc, .pointer none] 110) := heap_at _ _ _ (by simp)
  have hW : ((((w.alloc (.cells #[.int .i64 p.n, .int .i64 p.t, .int .i64 p.r, .int .i64 p.d, .int .i64 p.b, .int .i64 p.g] 23)).alloc (.cells #[.int .i64 n] 3)).alloc (.cells #[.func (.func g) #[] caps] 106)).alloc (.cells #[.int .i64 0, .int .i64 0, .int .i64 0, .int .i64 0, .int .i64 0, .int .u64 0, .int .u64 0, .nilFunc, .pointer none] 110)).heap.size = w.heap.size + 1 + 1 + 1 + 1 := by simp
  generalize ((((w.alloc (.cells #[.int .i64 p.n, .int .i64 p.t, .int .i64 p.r, .int .i64 p.d, .int .i64 p.b, .int .i64 p.g] 23)).alloc (.cells #[.int .i64 n] 3)).alloc (.cells #[.func (.func g) #[] caps] 106)).alloc (.cells #[.int .i64 0, .int .i64 0, .int .i64 0, .int .i64 0, .int .i64 0, .int .u64 0, .int .u64 0, .nilFunc, .pointer none] 110)) = W at hE hb0 hb1 hb2 hb3 hW ⊢
  clear hW
  refine (state_any p n W).mono ?_
  rintro e w1 ⟨rfl, hx⟩
  replace hE := ext_trans hE hx
  replace hb0 := (hx.block _ (heap_lt hb0)).trans hb0
  replace hb1 := (hx.block _ (heap_lt hb1)).trans hb1
  replace hb2 := (hx.block _ (heap_lt hb2)).trans hb2
  replace hb3 := (hx.block _ (heap_lt hb3)).trans hb3
  clear hx
  replace hE := Lib.hid hE
  replace hb0 := Lib.hid hb0
  replace hb1 := Lib.hid hb1
  replace hb2 := Lib.hid hb2
  replace hb3 := Lib.hid hb3
  go_wp2_with (go_at_call 96; refine Hid.out ?_)
  refine Lib.hid ?_
  replace hE := hE.out
  replace hb0 := hb0.out
  replace hb1 := hb1.out
  replace hb2 := hb2.out
  replace hb3 := hb3.out
  refine (get_PT (p.stF n) w1).mono ?_
  rintro e w2 ⟨v1, F1, rfl, hx, hp1, hbn1, hsub⟩
  have hn1 : ¬ F1 (w.heap.size + 1 + 1 + 1) := fun h => (hsub _ h).elim (fun h => h) fun h => by have := heap_lt hb3; omega
  have hs1 : ∀ j, F1 j → noF j ∨ w.heap.size ≤ j := fun j hj => (hsub j hj).imp_right fun h => Nat.le_trans hE.size h
  replace hE := ext_trans hE hx
  replace hb0 := (hx.block _ (heap_lt hb0)).trans hb0
  replace hb1 := (hx.block _ (heap_lt hb1)).trans hb1
  replace hb2 := (hx.block _ (heap_lt hb2)).trans hb2
  replace hb3 := (hx.block _ (heap_lt hb3)).trans hb3
  clear hx hsub
  replace hE := Lib.hid hE
  replace hb0 := Lib.hid hb0
  replace hb1 := Lib.hid hb1
  replace hb2 := Lib.hid hb2
  replace hb3 := Lib.hid hb3
  replace hp1 := Lib.hid hp1
  replace hbn1 := Lib.hid hbn1
  replace hs1 := Lib.hid hs1
  replace hn1 := Lib.hid hn1
  go_wp2_with (go_at_call 107; refine Hid.out ?_)
  refine Lib.hid ?_
  replace hE := hE.out
  replace hb0 := hb0.out
  replace hb1 := hb1.out
  replace hb2 := hb2.out
  replace hb3 := hb3.out
  replace hp1 := hp1.out
  replace hbn1 := hbn1.out
  replace hs1 := hs1.out
  replace hn1 := hn1.out
  have hCT := bec1_CT p n f F g caps (w.heap.size + 1 + 1) w.heap.size (w.heap.size + 1) w2 (hA.out.agr (Agr.of_ext hE hF)) hb2 hb0 hb1 (hF.ext hE.size)
  refine (then_US _ _ F1 _ v1 _ w2 hp1 hCT hbn1 (fun j h => by rcases h with h | rfl | rfl | rfl; exact Nat.lt_of_lt_of_le (hF j h) hE.size; exact heap_lt hb2; exact heap_lt hb0; exact heap_lt hb1)).mono ?_
  rintro e w' hR
  obtain ⟨v', F', rfl, hX, hp, hbn, hsub, hnF, hbq⟩ := hR.tail (G := F) (w.heap.size + 1 + 1 + 1) hE (heap_lt hb3) (fun h => by rcases h with h | h | h | h | h; exact hn1 h; (have := hF _ h; omega); omega; omega; omega) (fun j h => by rcases h with h | h | h | h | h; exact (hs1 j h).imp_left False.elim; exact .inl (h); exact .inr (by omega); exact .inr (by omega); exact .inr (by omega))
  have hbx := hbq.trans hb3
  clear hbq hR
  clear hE hb0 hb1 hb2 hb3 hp1 hbn1 hs1 hn1 hA hCT
  obtain ⟨y0, y1, y2, a2, fn2, rfl, hfn⟩ := shS hp
  have hXX := put9_ext (b := w.heap.size + 1 + 1 + 1) (.int .i64 y0) (.int .i64 y1) (.int .i64 y2) (.int .i64 a2.op) (.int .i64 a2.at_) (.int .u64 (U a2.a)) (.int .u64 (U a2.b)) (fn2) (.pointer none) hX (by omega)
  have hB := put9_block (.int .i64 y0) (.int .i64 y1) (.int .i64 y2) (.int .i64 a2.op) (.int .i64 a2.at_) (.int .u64 (U a2.a)) (.int .u64 (U a2.b)) (fn2) (.pointer none) hbx
  have hP := hp.agr (Agr.of_put9 (b := w.heap.size + 1 + 1 + 1) (.int .i64 y0) (.int .i64 y1) (.int .i64 y2) (.int .i64 a2.op) (.int .i64 a2.at_) (.int .u64 (U a2.a)) (.int .u64 (U a2.b)) (fn2) (.pointer none) hnF)
  have hS : (put9 (w.heap.size + 1 + 1 + 1) (.int .i64 y0) (.int .i64 y1) (.int .i64 y2) (.int .i64 a2.op) (.int .i64 a2.at_) (.int .u64 (U a2.a)) (.int .u64 (U a2.b)) (fn2) (.pointer none) w').heap.size = w'.heap.size := put9_size (.int .i64 y0) (.int .i64 y1) (.int .i64 y2) (.int .i64 a2.op) (.int .i64 a2.at_) (.int .u64 (U a2.a)) (.int .u64 (U a2.b)) (fn2) (.pointer none)
  obtain ⟨c0, c1, c2, c3, c4, c5, c6, c7, c8, cz, ll⟩ := nin_of hbx
  rw [put9] at hXX hB hP hS
  have HX := Lib.hid (And.intro hXX (And.intro hB (And.intro hP hS)))
  have HFN := Lib.hid hfn
  have HBN := Lib.hid hbn
  have HSUB := Lib.hid hsub
  clear hXX hB hP hS hX hbx hp hfn hbn hsub hnF
  rcases HFN.out with rfl | ⟨g', caps', rfl⟩
  all_goals
    go_wp2
    clear c0 c1 c2 c3 c4 c5 c6 c7 c8 cz ll
    obtain ⟨hX, hB, hP, hS⟩ := HX.out
    clear HX
    generalize (World.setCell _ (⟨w.heap.size + 1 + 1 + 1, 8, none⟩ : Addr) _) = Z at hX hB hP hS ⊢
    obtain ⟨c0, c1, c2, c3, c4, c5, c6, c7, c8, cz, ll⟩ := nin_of hB
    exact bodyPost_ret (by simp only [results, Tryz.results50, go_sem]; simp [go_sem, c0, c1, c2, c3, c4, c5, c6, c7, c8]) rfl ⟨_, F', rfl, hX, hP, fun j hj => by rw [hS]; exact HBN.out j hj, HSUB.out⟩
end Go.Proofs.YtpidmbclgfnekaaGreat
